import PyProof.Rows.All
import Wide.All
import OpenK.AllK
import Wide.FinOn
import HandS.ForMost
import HandS.ForExc
import HandS.OwnEq
import HandS.ExcInit
import HandS.Lambda
import HandS.NoneIn
import HandS.IsInst
import HandS.Wide
import HandS.Gcd
import KE.KOpsOwn
import PyProof.InstNe
import PyProof.EqAt
import PyProof.EqKinds
import PyProof.TupleCall
import KE.KExcSuper
import KE.KExcIs
import HandS.SetFor
import HandS.MakeKw
import HandS.Style
import HandS.TryOnly
import HandS.EndTab
import HandS.ExcBuiltin
import KE.KNestM
import HandS.Text
import HandS.StrMore
import HandS.FStr
import KE.KCallOwn
import KE.IntTextLaws
import PyProof.FactsAll.str_6
import HandS.ExcField
import HandS.Dict
import HandS.More
import HandS.ListItems
import HandS.Iter
import HandS.Conv
import PyProof.Rows.SetFrom
import HandS.Set
import HandS.Deep
import HandS.Strs
import KE.GoesMore
import KE.GoesEnum
import HandS.Star
import HandS.ListEq
import HandS.DictComp
import HandS.DictTup
import HandS.SortKw
import HandS.NamedTupSort
import KE.KSortTupAny
import KE.KDictSum
import HandS.TupSets
import KE.KDictPairs
import KE.KDictOf
import KE.KDictCopyH
import PyProof.Rows.TupDisplay
import HandS.DictEq
import HandS.TupMul
import HandS.Zip
import KE.GoesZip
import KE.IntTextText
import KE.KIntText
import HandS.TupAny
import PyProof.MinMaxWalk
import PyProof.WalkInts
import PySem.Challenge.RW_everylist_k42_values_of_polys
import KE.RegKSuper
import PyProof.FactsAll.int_1
import PyProof.FactsAll.int_3
import PyProof.FactsAll.int_5
set_option Elab.async false
set_option linter.all false
set_option maxRecDepth 100000
set_option maxHeartbeats 2000000
/-! Fd1: data in place of values: what an expression, a test, a statement makes of plain data, the heap out of sight. -/
namespace Fd
open PySem PySem.Spec PyProof.Rows L2

/-! ### data -/
inductive D where
  | non | bl (b : Bool) | int (i : Int) | str (x : Str)
  | lst (xs : List D) | tup (xs : List D)
  /-- a list that may be read alone (the script) -/
  | rdl (xs : List D)
  | ins (C : Addr) (ns : List Str) (xs : List D)
  | dct (ks : List Key) (xs : List D)
  /-- a tuple of whole numbers and texts, known to be a key -/
  | tk (k : List Key)
  /-- a dict whose keys are such tuples -/
  | dcT (ks : List (List Key)) (xs : List D)
  /-- an exception that is held -/
  | exc (C : Addr) (ns : List Str) (xs : List D)
  | adr (a : Addr) | ty (n : String)
  /-- an exception that is handled, its dict at dd -/
  | hx (a dd : Addr) (f : Str) (x : D)

section
variable (K : PySem.W.Frag) (H : Hp)
mutual
/-- the value v is the datum d in the heap H -/
def Is : D → V → Prop
  | .non, v => v = .non
  | .bl b, v => v = .bl b
  | .int i, v => v = .int i
  | .str x, v => v = .str x
  | .lst xs, v => ∃ a vs, v = .ref a ∧ H a = some (.lst vs) ∧ IsL xs vs
  | .rdl xs, v => ∃ a vs, v = .ref a ∧ SqL K H a vs ∧ IsL xs vs
  | .tup xs, v => ∃ a vs, v = .ref a ∧ SqT K H a vs ∧ IsL xs vs
  | .ins C ns xs, v => ∃ a dx fs, v = .ref a ∧ H a = some (.ins C dx fs) ∧ fs.map (·.1) = ns ∧ IsL xs (fs.map (·.2))
  | .dct ks xs, v => ∃ a kvs, v = .ref a ∧ H a = some (.dK kvs) ∧ kvs.map (·.1) = ks ∧ IsL xs (kvs.map (·.2))
  | .tk k, v => ∃ a, v = .ref a ∧ H a = some (.tup (k.map kV))
  | .dcT ks xs, v => ∃ a od kvs, v = .ref a ∧ H a = some (.frz od (.dT kvs)) ∧ kvs.map (·.1) = ks ∧ IsL xs (kvs.map (·.2))
  | .exc C ns xs, v => ∃ a od fs, v = .ref a ∧ H a = some (exo a C od) ∧ fs.map (·.1) = ns ∧ IsL xs (fs.map (·.2)) ∧ (∀ d, od = some d → H d = some (exd d fs)) ∧ (od = none → fs = [])
  | .adr a, v => v = .ref a
  | .ty n, v => v = .ty n
  | .hx a dd f x, v => v = .ref a ∧ ∃ u, H dd = some (.xd [(f, u)]) ∧ Is x u
def IsL : List D → List V → Prop
  | [], vs => vs = []
  | x :: xs, vs => ∃ v r, vs = v :: r ∧ Is x v ∧ IsL xs r
end
end
section
variable {K : PySem.W.Frag} {H H' : Hp}
theorem ext_seqL {a : Addr} {vs : List V} (e : Ext H H') (h : SqL K H a vs) : SqL K H' a vs := SqL.ext h e
theorem ext_seqT {a : Addr} {vs : List V} (e : Ext H H') (h : SqT K H a vs) : SqT K H' a vs := SqT.ext h e
mutual
theorem Is.mono (e : Ext H H') : ∀ (d : D) {v : V}, Is K H d v → Is K H' d v
  | .non, _, h => h
  | .bl _, _, h => h
  | .int _, _, h => h
  | .str _, _, h => h
  | .lst xs, _, h => let ⟨a, vs, e1, e2, e3⟩ := h; ⟨a, vs, e1, e _ _ e2, IsL.mono e xs e3⟩
  | .rdl xs, _, h => let ⟨a, vs, e1, e2, e3⟩ := h; ⟨a, vs, e1, ext_seqL e e2, IsL.mono e xs e3⟩
  | .tup xs, _, h => let ⟨a, vs, e1, e2, e3⟩ := h; ⟨a, vs, e1, ext_seqT e e2, IsL.mono e xs e3⟩
  | .ins C ns xs, _, h => let ⟨a, dx, fs, e1, e2, e3, e4⟩ := h; ⟨a, dx, fs, e1, e _ _ e2, e3, IsL.mono e xs e4⟩
  | .dct ks xs, _, h => let ⟨a, kvs, e1, e2, e3, e4⟩ := h; ⟨a, kvs, e1, e _ _ e2, e3, IsL.mono e xs e4⟩
  | .tk k, _, h => let ⟨a, e1, e2⟩ := h; ⟨a, e1, e _ _ e2⟩
  | .dcT ks xs, _, h => let ⟨a, od, kvs, e1, e2, e3, e4⟩ := h; ⟨a, od, kvs, e1, e _ _ e2, e3, IsL.mono e xs e4⟩
  | .exc C ns xs, _, h => let ⟨a, od, fs, e1, e2, e3, e4, e5, e6⟩ := h; ⟨a, od, fs, e1, e _ _ e2, e3, IsL.mono e xs e4, fun d q => e _ _ (e5 d q), e6⟩
  | .adr _, _, h => h
  | .ty _, _, h => h
  | .hx _ _ _ x, _, h => let ⟨e1, u, e2, e3⟩ := h; ⟨e1, u, e _ _ e2, Is.mono e x e3⟩
theorem IsL.mono (e : Ext H H') : ∀ (ds : List D) {vs : List V}, IsL K H ds vs → IsL K H' ds vs
  | [], _, h => h
  | x :: xs, _, h => let ⟨v, r, e1, e2, e3⟩ := h; ⟨v, r, e1, Is.mono e x e2, IsL.mono e xs e3⟩
end
theorem IsL.length : ∀ {ds : List D} {vs : List V}, IsL K H ds vs → vs.length = ds.length
  | [], _, h => by cases (show _ = _ from h); rfl
  | x :: xs, _, h => by obtain ⟨v, r, rfl, _, h⟩ := h; simp [IsL.length h]
theorem IsL.nil : IsL K H [] [] := rfl
theorem IsL.cons {x : D} {xs : List D} {v : V} {vs : List V} (h : Is K H x v) (t : IsL K H xs vs) : IsL K H (x :: xs) (v :: vs) := ⟨v, vs, rfl, h, t⟩
theorem IsL.get : ∀ {ds : List D} {vs : List V} {i : Nat} {v : V}, IsL K H ds vs → vs[i]? = some v → ∃ x, ds[i]? = some x ∧ Is K H x v
  | [], _, i, _, h, e => by cases (show _ = _ from h); simp at e
  | x :: xs, _, 0, v, h, e => by obtain ⟨v', r, rfl, h1, h⟩ := h; simp at e; subst e; exact ⟨x, rfl, h1⟩
  | x :: xs, _, i + 1, v, h, e => by obtain ⟨v', r, rfl, h1, h⟩ := h; simp at e; obtain ⟨y, e1, e2⟩ := IsL.get h e; exact ⟨y, by simpa using e1, e2⟩
theorem IsL.get' : ∀ {ds : List D} {vs : List V} {i : Nat} {x : D}, IsL K H ds vs → ds[i]? = some x → ∃ v, vs[i]? = some v ∧ Is K H x v
  | [], _, i, _, h, e => by simp at e
  | x :: xs, _, 0, y, h, e => by obtain ⟨v', r, rfl, h1, h⟩ := h; simp at e; subst e; exact ⟨v', rfl, h1⟩
  | x :: xs, _, i + 1, y, h, e => by obtain ⟨v', r, rfl, h1, h⟩ := h; simp at e; obtain ⟨y, e1, e2⟩ := IsL.get' h e; exact ⟨y, by simpa using e1, e2⟩
theorem IsL.append : ∀ {ds es : List D} {vs us : List V}, IsL K H ds vs → IsL K H es us → IsL K H (ds ++ es) (vs ++ us)
  | [], _, _, _, h, g => by cases (show _ = _ from h); exact g
  | x :: xs, _, _, _, h, g => by obtain ⟨v, r, rfl, h1, h⟩ := h; exact ⟨v, _, rfl, h1, IsL.append h g⟩
theorem IsL.take : ∀ {ds : List D} {vs : List V} (n : Nat), IsL K H ds vs → IsL K H (ds.take n) (vs.take n)
  | _, _, 0, _ => rfl
  | [], _, n + 1, h => by cases (show _ = _ from h); exact rfl
  | x :: xs, _, n + 1, h => by obtain ⟨v, r, rfl, h1, h⟩ := h; exact ⟨v, _, rfl, h1, IsL.take n h⟩
theorem IsL.drop : ∀ {ds : List D} {vs : List V} (n : Nat), IsL K H ds vs → IsL K H (ds.drop n) (vs.drop n)
  | _, _, 0, h => h
  | [], _, n + 1, h => by cases (show _ = _ from h); exact rfl
  | x :: xs, _, n + 1, h => by obtain ⟨v, r, rfl, h1, h⟩ := h; exact IsL.drop n h
theorem IsL.snoc {ds : List D} {vs : List V} {x : D} {v : V} (h : IsL K H ds vs) (g : Is K H x v) : IsL K H (ds ++ [x]) (vs ++ [v]) := h.append (.cons g .nil)
theorem Is.int_of {i : Int} {v : V} (h : Is K H (.int i) v) : v = .int i := h
end

/-! ### the state -/
inductive S where
  /-- nothing is known -/
  | no
  /-- a datum that is never changed -/
  | d (x : D)
  /-- a list of one's own -/
  | own (xs : List D)
  /-- an object of one's own -/
  | obj (a C : Addr) (ns : List Str) (xs : List D)
  /-- a dict of one's own -/
  | dic (ks : List Key) (xs : List D)
  /-- .. with tuples for keys -/
  | dicT (ks : List (List Key)) (xs : List D)
abbrev SS := List S
def S.mine : S → Bool
  | .own _ => true | .obj _ _ _ _ => true | .dic _ _ => true | .dicT _ _ => true | _ => false
section
variable (T : List (Addr × Str)) (K : PySem.W.Frag)
/-- what a slot holds: F the heap of what is never changed, H the whole -/
def SlotIs (F H : Hp) : S → Option V → Prop
  | .no, _ => True
  | .d x, o => ∃ v, o = some v ∧ Is K F x v
  | .own xs, o => ∃ p vs, o = some (.ref p) ∧ F p = none ∧ H p = some (.lst vs) ∧ IsL K F xs vs
  | .obj p C ns xs, o => ∃ dx fs, o = some (.ref p) ∧ F p = none ∧ H p = some (.ins C dx fs) ∧ fs.map (·.1) = ns ∧ IsL K F xs (fs.map (·.2))
  | .dic ks xs, o => ∃ p kvs, o = some (.ref p) ∧ F p = none ∧ H p = some (.dK kvs) ∧ kvs.map (·.1) = ks ∧ IsL K F xs (kvs.map (·.2))
  | .dicT ks xs, o => ∃ p kvs, o = some (.ref p) ∧ F p = none ∧ H p = some (.dT kvs) ∧ kvs.map (·.1) = ks ∧ IsL K F xs (kvs.map (·.2))
/-- a table of code objects, or a code object -/
def Codey (o : HO) : Prop := (∃ ps, o = .tbl ps) ∨ ∃ c q, o = LamX.CodeO c q
/-- nothing stands at p, or a table of code objects -/
def Fr (H : Hp) (p : Addr) : Prop := ∀ o, H p = some o → ∃ ps, o = .tbl ps
theorem Fr.of {H : Hp} {p : Addr} (h : H p = none) : Fr H p := fun o e => by rw [h] at e; cases e
theorem Fr.no {H : Hp} {p : Addr} {o : HO} {C : Prop} (h : Fr H p) (e : H p = some o) (n : ∀ ps, o ≠ .tbl ps) : C := by
  obtain ⟨ps, z⟩ := h o e
  exact absurd z (n ps)
/-- the heap grows: all but the tables of code objects stays, those of T are tables of theirs -/
structure Gr (T : List (Addr × Str)) (H H1 : Hp) : Prop where
  k : ∀ p o, H p = some o → (∀ ps, o ≠ .tbl ps) → H1 p = some o
  t : LamX.Tabs T H → LamX.Tabs T H1
theorem Gr.of {T : List (Addr × Str)} {H H1 : Hp} (e : Ext H H1) : Gr T H H1 where
  k := fun p o h _ => e p o h
  t := fun t => t.ext e
theorem Gr.refl {T : List (Addr × Str)} (H : Hp) : Gr T H H := .of fun _ _ h => h
theorem Gr.trans {T : List (Addr × Str)} {H H1 H2 : Hp} (a : Gr T H H1) (b : Gr T H1 H2) : Gr T H H2 := ⟨fun p o h n => b.k p o (a.k p o h n) n, fun t => b.t (a.t t)⟩
theorem Gr.fr {T : List (Addr × Str)} {H H1 : Hp} {p : Addr} (a : Gr T H H1) (h : Fr H1 p) : Fr H p := fun o e => by
  cases o with
  | tbl ps => exact ⟨ps, rfl⟩
  | _ => exact h _ (a.k p _ e fun _ z => nomatch z)
/-- .. or a tuple, which is never changed and never one's own -/
def Fq (H : Hp) (p : Addr) : Prop := Fr H p ∨ ∃ xs, H p = some (.tup xs)
theorem Fq.of {H : Hp} {p : Addr} (h : H p = none) : Fq H p := .inl (.of h)
theorem Fq.no {H : Hp} {p : Addr} {o : HO} {C : Prop} (h : Fq H p) (e : H p = some o) (n : ∀ ps, o ≠ .tbl ps) (m : ∀ xs, o ≠ .tup xs) : C := by
  rcases h with h | ⟨xs, h⟩
  · exact h.no e n
  · rw [e] at h; exact absurd (Option.some.inj h) (m xs)
theorem Gr.fq {T : List (Addr × Str)} {H H1 : Hp} {p : Addr} (a : Gr T H H1) (h : Fq H1 p) : Fq H p := by
  rcases h with h | ⟨xs, h⟩
  · exact .inl (a.fr h)
  · cases e : H p with
    | none => exact .inl (.of e)
    | some o =>
      by_cases q : ∃ ps, o = .tbl ps
      · exact .inl fun o' e' => by rw [e] at e'; cases e'; exact q
      · have := a.k p o e fun ps z => q ⟨ps, z⟩
        rw [h] at this
        cases this
        exact .inr ⟨xs, e⟩
theorem Gr.ff {T : List (Addr × Str)} {H H1 : Hp} {p : Addr} (a : Gr T H H1) (h : H1 p = none) : Fr H p := a.fr (.of h)
theorem tabs_upd {T : List (Addr × Str)} {H : Hp} {p : Addr} {o : HO} (t : LamX.Tabs T H) (h : ∀ o', H p = some o' → ¬ Codey o') : LamX.Tabs T (upd H p o) := fun x hx => by
  obtain ⟨ps, h1, h2, h3⟩ := t x hx
  have ne : x.1 ≠ p := fun e => h _ (by rw [← e]; exact h1) (.inl ⟨ps, rfl⟩)
  refine ⟨ps, by rw [upd_ne ne]; exact h1, h2, fun pos cv hc => ?_⟩
  obtain ⟨c, e1, e2⟩ := h3 pos cv hc
  have ne2 : c ≠ p := fun e => h _ (by rw [← e]; exact e2) (.inr ⟨c, x.2, rfl⟩)
  exact ⟨c, e1, by rw [upd_ne ne2]; exact e2⟩
/-- new objects alone were added -/
structure Nx (T : List (Addr × Str)) (F H F1 H1 : Hp) : Prop where
  f : Ext F F1
  h : Gr T H H1
  s : Ext F1 H1
  nt : ∀ p ps, F1 p = some (.tbl ps) → F p = some (.tbl ps)
  n : ∀ p o, F1 p = some o → F p ≠ none ∨ Fq H p
structure StR (B : Hp × Hp) (F H : Hp) (σ : L2.St) (ss : SS) : Prop where
  len : σ.length = ss.length
  bF : Ext B.1 F
  bH : Gr T B.2 H
  sub : Ext F H
  nt : ∀ p ps, F p ≠ some (.tbl ps)
  tb : LamX.Tabs T H
  new : ∀ p o, F p = some o → B.1 p ≠ none ∨ Fq B.2 p
  slots : ∀ (i : Nat) (s : S) (o : Option V), ss[i]? = some s → σ[i]? = some o → SlotIs K F H s o
  own : ∀ (i : Nat) (s : S) (p : Addr), ss[i]? = some s → s.mine = true → σ[i]? = some (some (.ref p)) → Fr B.2 p
  dis : ∀ (i j : Nat) (s t : S) (p : Addr), ss[i]? = some s → ss[j]? = some t → s.mine = true → t.mine = true → σ[i]? = some (some (.ref p)) → σ[j]? = some (some (.ref p)) → i = j
end
section
variable {T : List (Addr × Str)} {K : PySem.W.Frag} {B : Hp × Hp} {F H F1 H1 F2 H2 : Hp} {σ : L2.St} {ss : SS}
theorem Nx.refl (s : Ext F H) : Nx T F H F H := ⟨fun _ _ h => h, .refl H, s, fun _ _ h => h, fun p o h => .inl (by rw [h]; exact fun z => nomatch z)⟩
theorem Nx.trans (a : Nx T F H F1 H1) (b : Nx T F1 H1 F2 H2) : Nx T F H F2 H2 := ⟨a.f.trans b.f, a.h.trans b.h, b.s, fun p ps h => a.nt p ps (b.nt p ps h), fun p o h => by
  rcases b.n p o h with z | z
  · cases e : F1 p with
    | none => exact absurd e z
    | some u => exact a.n p u e
  · exact .inr (a.h.fq z)⟩
theorem Nx.alloc {p : Addr} {o : HO} (s : Ext F H) (h : H p = none) (ho : ∀ ps, o ≠ .tbl ps := by intro ps z; cases z) : Nx T F H (upd F p o) (upd H p o) := by
  have hF : F p = none := by
    cases e : F p with
    | none => rfl
    | some u => rw [s p u e] at h; cases h
  refine ⟨Ext.upd hF, .of (Ext.upd h), fun a u e => ?_, fun a ps e => ?_, fun a u e => ?_⟩
  · by_cases q : a = p
    · subst q; rw [upd_same] at e ⊢; exact e
    · rw [upd_ne q] at e ⊢; exact s a u e
  · by_cases q : a = p
    · subst q; rw [upd_same] at e; exact absurd (Option.some.inj e) (ho ps)
    · rw [upd_ne q] at e; exact e
  · by_cases q : a = p
    · subst q; exact .inr (.of h)
    · rw [upd_ne q] at e; exact .inl (by rw [e]; exact fun z => nomatch z)
/-- a new object that is not among the data -/
theorem Nx.allocH {p : Addr} {o : HO} (s : Ext F H) (h : H p = none) : Nx T F H F (upd H p o) :=
  ⟨fun _ _ h => h, .of (Ext.upd h), fun a u e => by rw [upd_ne (ne_of_none (s a u e) h)]; exact s a u e, fun _ _ h => h, fun p o h => .inl (by rw [h]; exact fun z => nomatch z)⟩
theorem SlotIs.grow {s : S} {o : Option V} (a : Nx T F H F1 H1) (h : SlotIs K F H s o) : SlotIs K F1 H1 s o := by
  have free : ∀ {p : Addr} {u : HO}, F p = none → H p = some u → (∀ ps, u ≠ .tbl ps) → (∀ xs, u ≠ .tup xs) → F1 p = none := fun {p u} e1 e2 hn hm => by
    cases e : F1 p with
    | none => rfl
    | some w =>
      rcases a.n p w e with z | z
      · exact absurd e1 z
      · exact z.no e2 hn hm
  cases s with
  | no => exact True.intro
  | d x => obtain ⟨v, e, h⟩ := h; exact ⟨v, e, Is.mono a.f x h⟩
  | own xs => obtain ⟨p, vs, e, e1, e2, h⟩ := h; exact ⟨p, vs, e, free e1 e2 (fun _ z => nomatch z) (fun _ z => nomatch z), a.h.k _ _ e2 (fun _ z => nomatch z), IsL.mono a.f xs h⟩
  | obj p C ns xs => obtain ⟨dx, fs, e, e1, e2, e3, h⟩ := h; exact ⟨dx, fs, e, free e1 e2 (fun _ z => nomatch z) (fun _ z => nomatch z), a.h.k _ _ e2 (fun _ z => nomatch z), e3, IsL.mono a.f xs h⟩
  | dic ks xs => obtain ⟨p, kvs, e, e1, e2, e3, h⟩ := h; exact ⟨p, kvs, e, free e1 e2 (fun _ z => nomatch z) (fun _ z => nomatch z), a.h.k _ _ e2 (fun _ z => nomatch z), e3, IsL.mono a.f xs h⟩
  | dicT ks xs => obtain ⟨p, kvs, e, e1, e2, e3, h⟩ := h; exact ⟨p, kvs, e, free e1 e2 (fun _ z => nomatch z) (fun _ z => nomatch z), a.h.k _ _ e2 (fun _ z => nomatch z), e3, IsL.mono a.f xs h⟩
theorem StR.grow (R : StR T K B F H σ ss) (a : Nx T F H F1 H1) : StR T K B F1 H1 σ ss where
  len := R.len
  bF := R.bF.trans a.f
  bH := R.bH.trans a.h
  sub := a.s
  nt := fun p ps e => R.nt p ps (a.nt p ps e)
  tb := a.h.t R.tb
  new := fun p o e => by
    rcases a.n p o e with z | z
    · cases q : F p with
      | none => exact absurd q z
      | some u => exact R.new p u q
    · exact .inr (R.bH.fq z)
  slots := fun i s o e1 e2 => (R.slots i s o e1 e2).grow a
  own := R.own
  dis := R.dis
theorem StR.nx (R : StR T K B F H σ ss) : Nx T F H F H := Nx.refl R.sub
theorem StR.alloc {p : Addr} {o : HO} (R : StR T K B F H σ ss) (h : H p = none) (ho : ∀ ps, o ≠ .tbl ps := by intro ps z; cases z) : StR T K B (upd F p o) (upd H p o) σ ss := R.grow (Nx.alloc R.sub h ho)
theorem StR.get {i : Nat} {x : D} (R : StR T K B F H σ ss) (h : ss[i]? = some (.d x)) : ∃ v, σ[i]? = some (some v) ∧ Is K F x v := by
  have hi : i < ss.length := (List.getElem?_eq_some_iff.mp h).1
  have hs : i < σ.length := by rw [R.len]; exact hi
  obtain ⟨v, e, q⟩ := R.slots i _ _ h (List.getElem?_eq_getElem hs)
  exact ⟨v, by rw [List.getElem?_eq_getElem hs, e], q⟩
theorem set_get {α : Type} {l : List α} {i j : Nat} {a x : α} (h : (l.set i a)[j]? = some x) : (i = j ∧ x = a) ∨ (i ≠ j ∧ l[j]? = some x) := by
  by_cases e : i = j
  · subst e
    have hl : i < l.length := by
      have := (List.getElem?_eq_some_iff.mp h).1
      simpa using this
    rw [List.getElem?_set_self hl] at h
    exact .inl ⟨rfl, (Option.some.inj h).symm⟩
  · rw [List.getElem?_set_ne e] at h
    exact .inr ⟨e, h⟩
/-- a slot is given a datum -/
theorem StR.put {i : Nat} {x : D} {v : V} (R : StR T K B F H σ ss) (h : Is K F x v) : StR T K B F H (σ.set i (some v)) (ss.set i (.d x)) where
  len := by simp [R.len]
  bF := R.bF
  bH := R.bH
  sub := R.sub
  nt := R.nt
  tb := R.tb
  new := R.new
  slots := fun j s o e1 e2 => by
    rcases set_get e1 with ⟨q, rfl⟩ | ⟨q, e1⟩
    · rcases set_get e2 with ⟨_, rfl⟩ | ⟨q2, _⟩
      · exact ⟨v, rfl, h⟩
      · exact absurd q q2
    · rcases set_get e2 with ⟨q2, _⟩ | ⟨_, e2⟩
      · exact absurd q2 q
      · exact R.slots j s o e1 e2
  own := fun j s p e1 m e2 => by
    rcases set_get e1 with ⟨q, rfl⟩ | ⟨q, e1⟩
    · cases m
    · rcases set_get e2 with ⟨q2, _⟩ | ⟨_, e2⟩
      · exact absurd q2 q
      · exact R.own j s p e1 m e2
  dis := fun j k s t p e1 e2 m1 m2 e3 e4 => by
    rcases set_get e1 with ⟨q, rfl⟩ | ⟨q, e1⟩
    · cases m1
    · rcases set_get e2 with ⟨q', rfl⟩ | ⟨q', e2⟩
      · cases m2
      · rcases set_get e3 with ⟨q2, _⟩ | ⟨_, e3⟩
        · exact absurd q2 q
        · rcases set_get e4 with ⟨q2, _⟩ | ⟨_, e4⟩
          · exact absurd q2 q'
          · exact R.dis j k s t p e1 e2 m1 m2 e3 e4
/-- a slot is forgotten -/
theorem StR.forget {i : Nat} {o : Option V} (R : StR T K B F H σ ss) : StR T K B F H (σ.set i o) (ss.set i .no) where
  len := by simp [R.len]
  bF := R.bF
  bH := R.bH
  sub := R.sub
  nt := R.nt
  tb := R.tb
  new := R.new
  slots := fun j s o e1 e2 => by
    rcases set_get e1 with ⟨q, rfl⟩ | ⟨q, e1⟩
    · exact True.intro
    · rcases set_get e2 with ⟨q2, _⟩ | ⟨_, e2⟩
      · exact absurd q2 q
      · exact R.slots j s o e1 e2
  own := fun j s p e1 m e2 => by
    rcases set_get e1 with ⟨q, rfl⟩ | ⟨q, e1⟩
    · cases m
    · rcases set_get e2 with ⟨q2, _⟩ | ⟨_, e2⟩
      · exact absurd q2 q
      · exact R.own j s p e1 m e2
  dis := fun j k s t p e1 e2 m1 m2 e3 e4 => by
    rcases set_get e1 with ⟨q, rfl⟩ | ⟨q, e1⟩
    · cases m1
    · rcases set_get e2 with ⟨q', rfl⟩ | ⟨q', e2⟩
      · cases m2
      · rcases set_get e3 with ⟨q2, _⟩ | ⟨_, e3⟩
        · exact absurd q2 q
        · rcases set_get e4 with ⟨q2, _⟩ | ⟨_, e4⟩
          · exact absurd q2 q'
          · exact R.dis j k s t p e1 e2 m1 m2 e3 e4
/-- a slot of which less is known -/
theorem StR.less {i : Nat} {s : S} (R : StR T K B F H σ ss) (h : ss[i]? = some s) (hm : s.mine = false ∨ True) : StR T K B F H σ (ss.set i .no) where
  len := by simp [R.len]
  bF := R.bF
  bH := R.bH
  sub := R.sub
  nt := R.nt
  tb := R.tb
  new := R.new
  slots := fun j s o e1 e2 => by
    rcases set_get e1 with ⟨q, rfl⟩ | ⟨q, e1⟩
    · exact True.intro
    · exact R.slots j s o e1 e2
  own := fun j s p e1 m e2 => by
    rcases set_get e1 with ⟨q, rfl⟩ | ⟨q, e1⟩
    · cases m
    · exact R.own j s p e1 m e2
  dis := fun j k s t p e1 e2 m1 m2 e3 e4 => by
    rcases set_get e1 with ⟨q, rfl⟩ | ⟨q, e1⟩
    · cases m1
    · rcases set_get e2 with ⟨q', rfl⟩ | ⟨q', e2⟩
      · cases m2
      · exact R.dis j k s t p e1 e2 m1 m2 e3 e4
end

/-! ### what an expression makes: canonical readings -/
section
variable (T : List (Addr × Str)) (K : PySem.W.Frag)
/-- from ss the datum d; Rl : which ss, d -/
def tEv (Rl : SS → D → Prop) : TE := fun σ H Q => ∃ B F ss d, Rl ss d ∧ StR T K B F H σ ss ∧ ∀ v F1 H1, Nx T F H F1 H1 → StR T K B F1 H1 σ ss → Is K F1 d v → Q v H1
def tEvs (Rl : SS → List D → Prop) : TA := fun σ H Q => ∃ B F ss ds, Rl ss ds ∧ StR T K B F H σ ss ∧ ∀ vs F1 H1, Nx T F H F1 H1 → StR T K B F1 H1 σ ss → IsL K F1 ds vs → Q vs H1
def tTv (Rl : SS → Bool → Prop) : TT := fun σ H Q => ∃ B F ss b, Rl ss b ∧ StR T K B F H σ ss ∧ ∀ F1 H1, Nx T F H F1 H1 → StR T K B F1 H1 σ ss → Q b H1
end
section
variable {T : List (Addr × Str)} {X : Cx}
theorem PE.imp {e : Expr} {t t' : TE} (h : PE X e t) (k : ∀ σ H Q, t' σ H Q → t σ H Q) : PE X e t' := ⟨fun pins s σ H Q I q => h.run pins s σ H Q I (k σ H Q q)⟩
theorem PT.imp {e : Expr} {t t' : TT} (h : PT X e t) (k : ∀ σ H Q, t' σ H Q → t σ H Q) : PT X e t' := ⟨fun pins s σ H Q I q => h.run pins s σ H Q I (k σ H Q q)⟩
theorem PA.imp {es : List Expr} {t t' : TA} (h : PA X es t) (k : ∀ σ H Q, t' σ H Q → t σ H Q) : PA X es t' := ⟨fun pos pins s σ H Q I q => h.run pos pins s σ H Q I (k σ H Q q)⟩
theorem PS.imp {e : Stmt} {t t' : TS} (h : PS X e t) (k : ∀ D σ H, t' D σ H → t D σ H) : PS X e t' := ⟨fun pins s σ H D I q => h.run pins s σ H D I (k D σ H q)⟩
theorem PSs.imp {e : List Stmt} {t t' : TS} (h : PSs X e t) (k : ∀ D σ H, t' D σ H → t D σ H) : PSs X e t' := ⟨fun pins s σ H D I q => h.run pins s σ H D I (k D σ H q)⟩
/-- e makes of the state ss the datum d -/
def EV (T : List (Addr × Str)) (X : Cx) (e : Expr) (ss : SS) (d : D) : Prop := PE X e (tEv T X.K fun ss' d' => ss' = ss ∧ d' = d)
def EVs (T : List (Addr × Str)) (X : Cx) (es : List Expr) (ss : SS) (ds : List D) : Prop := PA X es (tEvs T X.K fun ss' d' => ss' = ss ∧ d' = ds)
def TV (T : List (Addr × Str)) (X : Cx) (e : Expr) (ss : SS) (b : Bool) : Prop := PT X e (tTv T X.K fun ss' b' => ss' = ss ∧ b' = b)
abbrev EvP (T : List (Addr × Str)) (K : PySem.W.Frag) (ss : SS) (d : D) : TE := tEv T K fun ss' d' => ss' = ss ∧ d' = d
abbrev EvsP (T : List (Addr × Str)) (K : PySem.W.Frag) (ss : SS) (ds : List D) : TA := tEvs T K fun ss' d' => ss' = ss ∧ d' = ds
abbrev TvP (T : List (Addr × Str)) (K : PySem.W.Frag) (ss : SS) (b : Bool) : TT := tTv T K fun ss' d' => ss' = ss ∧ d' = b
/-- a family of readings -/
theorem pe_fam {e : Expr} {Rl : SS → D → Prop} (h : ∀ ss d, Rl ss d → EV T X e ss d) : PE X e (tEv T X.K Rl) := ⟨fun pins s σ H Q I q => by
  obtain ⟨B, F, ss, d, r, R, k⟩ := q
  exact (h ss d r).run pins s σ H Q I ⟨B, F, ss, d, ⟨rfl, rfl⟩, R, k⟩⟩
theorem pt_fam {e : Expr} {Rl : SS → Bool → Prop} (h : ∀ ss d, Rl ss d → TV T X e ss d) : PT X e (tTv T X.K Rl) := ⟨fun pins s σ H Q I q => by
  obtain ⟨B, F, ss, d, r, R, k⟩ := q
  exact (h ss d r).run pins s σ H Q I ⟨B, F, ss, d, ⟨rfl, rfl⟩, R, k⟩⟩
/-- from any reading -/
theorem EV.of {e : Expr} {t : TE} {ss : SS} {d : D} (h : PE X e t)
    (k : ∀ B F H σ Q, StR T X.K B F H σ ss → (∀ v F1 H1, Nx T F H F1 H1 → StR T X.K B F1 H1 σ ss → Is X.K F1 d v → Q v H1) → t σ H Q) : EV T X e ss d :=
  PE.imp h fun σ H Q ⟨B, F, ss', d', ⟨e1, e2⟩, R, q⟩ => by subst e1; subst e2; exact k B F H σ Q R q
theorem TV.of {e : Expr} {t : TT} {ss : SS} {b : Bool} (h : PT X e t)
    (k : ∀ B F H σ Q, StR T X.K B F H σ ss → (∀ F1 H1, Nx T F H F1 H1 → StR T X.K B F1 H1 σ ss → Q b H1) → t σ H Q) : TV T X e ss b :=
  PT.imp h fun σ H Q ⟨B, F, ss', d', ⟨e1, e2⟩, R, q⟩ => by subst e1; subst e2; exact k B F H σ Q R q
theorem EVs.of {es : List Expr} {t : TA} {ss : SS} {ds : List D} (h : PA X es t)
    (k : ∀ B F H σ Q, StR T X.K B F H σ ss → (∀ vs F1 H1, Nx T F H F1 H1 → StR T X.K B F1 H1 σ ss → IsL X.K F1 ds vs → Q vs H1) → t σ H Q) : EVs T X es ss ds :=
  PA.imp h fun σ H Q ⟨B, F, ss', d', ⟨e1, e2⟩, R, q⟩ => by subst e1; subst e2; exact k B F H σ Q R q
/-- use of one -/
theorem ev_go {K : PySem.W.Frag} {B : Hp × Hp} {F H : Hp} {σ : L2.St} {ss : SS} {d : D} {Q : VK} (R : StR T K B F H σ ss) (k : ∀ v F1 H1, Nx T F H F1 H1 → StR T K B F1 H1 σ ss → Is K F1 d v → Q v H1) : EvP T K ss d σ H Q := ⟨B, F, ss, d, ⟨rfl, rfl⟩, R, k⟩
theorem evs_go {K : PySem.W.Frag} {B : Hp × Hp} {F H : Hp} {σ : L2.St} {ss : SS} {ds : List D} {Q : List V → Hp → Prop} (R : StR T K B F H σ ss) (k : ∀ vs F1 H1, Nx T F H F1 H1 → StR T K B F1 H1 σ ss → IsL K F1 ds vs → Q vs H1) : EvsP T K ss ds σ H Q := ⟨B, F, ss, ds, ⟨rfl, rfl⟩, R, k⟩
theorem tv_go {K : PySem.W.Frag} {B : Hp × Hp} {F H : Hp} {σ : L2.St} {ss : SS} {b : Bool} {Q : Bool → Hp → Prop} (R : StR T K B F H σ ss) (k : ∀ F1 H1, Nx T F H F1 H1 → StR T K B F1 H1 σ ss → Q b H1) : TvP T K ss b σ H Q := ⟨B, F, ss, b, ⟨rfl, rfl⟩, R, k⟩
end

/-! ### expressions -/
section
variable {T : List (Addr × Str)} {X : Cx} {ss : SS} {a b c e : Expr} {es : List Expr} {pos : Pos} {d : D} {ds : List D}
theorem ev_var (i : Nat) {x : Str} (h : ss[i]? = some (.d d)) (hN : X.N[i]? = some x := by rfl) (hv : Vis X.env.scope x := by first | exact Or.inl rfl | exact Or.inr (Or.inl rfl) | exact Or.inr (Or.inr rfl)) (hd : (x == ("__debug__" : Str)) = false := by decide)
    (hcd : (x == ("__classdict__" : Str)) = false := by decide) : EV T X (.Name x pos) ss d := EV.of (pe_var hN hv hd hcd) fun B F H σ Q R k => by
  obtain ⟨v, e, q⟩ := R.get h
  exact ⟨v, e, k v F H R.nx R q⟩
theorem ev_int {i : Int} {j} : EV T X (.Constant (.int i) j pos) ss (.int i) := EV.of pe_int fun B F H σ Q R k => k _ F H R.nx R rfl
theorem ev_bl {i : Bool} {j} : EV T X (.Constant (.bool i) j pos) ss (.bl i) := EV.of pe_bl fun B F H σ Q R k => k _ F H R.nx R rfl
theorem ev_non {j} : EV T X (.Constant .none j pos) ss .non := EV.of pe_non fun B F H σ Q R k => k _ F H R.nx R rfl
theorem ev_str {x : Str} {j} : EV T X (.Constant (.str x) j pos) ss (.str x) := EV.of pe_str fun B F H σ Q R k => k _ F H R.nx R rfl
/-- two in a row, by a rule of values -/
theorem ev_op {op : Operator} {r : R2} {x y : D} (ho : OpR X (binaryOp op) r) (ha : EV T X a ss x) (hb : EV T X b ss y)
    (k : ∀ B F H σ v u Q, StR T X.K B F H σ ss → Is X.K F x v → Is X.K F y u → (∀ z F1 H1, Nx T F H F1 H1 → StR T X.K B F1 H1 σ ss → Is X.K F1 d z → Q z H1) → r v u H Q) : EV T X (.BinOp a op b pos) ss d :=
  EV.of (pe_op ho ha hb) fun B F H σ Q R q => ev_go R fun v F1 H1 n1 R1 i1 => ev_go R1 fun u F2 H2 n2 R2 i2 =>
    k B F2 H2 σ v u Q R2 (Is.mono n2.f _ i1) i2 fun z F3 H3 n3 R3 i3 => q z F3 H3 ((n1.trans n2).trans n3) R3 i3
theorem ev_cmp {op : CmpOp} {r : R2} {x y : D} (ho : OpR X (compareOp op) r) (ha : EV T X a ss x) (hb : EV T X b ss y)
    (k : ∀ B F H σ v u Q, StR T X.K B F H σ ss → Is X.K F x v → Is X.K F y u → (∀ z F1 H1, Nx T F H F1 H1 → StR T X.K B F1 H1 σ ss → Is X.K F1 d z → Q z H1) → r v u H Q)
    (h1 : behindInMarks op b = false := by first | exact nomark _ | rfl) : EV T X (.Compare a [op] [b] pos) ss d :=
  EV.of (pe_cmpR ho ha hb h1) fun B F H σ Q R q => ev_go R fun v F1 H1 n1 R1 i1 => ev_go R1 fun u F2 H2 n2 R2 i2 =>
    k B F2 H2 σ v u Q R2 (Is.mono n2.f _ i1) i2 fun z F3 H3 n3 R3 i3 => q z F3 H3 ((n1.trans n2).trans n3) R3 i3
theorem ev_add {i j : Int} (ha : EV T X a ss (.int i)) (hb : EV T X b ss (.int j)) : EV T X (.BinOp a .Add b pos) ss (.int (i + j)) :=
  ev_op op_add ha hb fun B F H σ v u Q R i1 i2 q => ⟨i, j, i1, i2, q _ F H R.nx R rfl⟩
theorem ev_sub {i j : Int} (ha : EV T X a ss (.int i)) (hb : EV T X b ss (.int j)) : EV T X (.BinOp a .Sub b pos) ss (.int (i - j)) :=
  ev_op op_sub ha hb fun B F H σ v u Q R i1 i2 q => ⟨i, j, i1, i2, q _ F H R.nx R rfl⟩
theorem ev_mod {i j : Int} (hj : 0 < j) (ha : EV T X a ss (.int i)) (hb : EV T X b ss (.int j)) : EV T X (.BinOp a .Mod b pos) ss (.int (i % j)) :=
  ev_op op_mod ha hb fun B F H σ v u Q R i1 i2 q => ⟨i, j, i1, i2, hj, q _ F H R.nx R rfl⟩
theorem ev_pow {i j : Int} (hj : CPow i j) (ha : EV T X a ss (.int i)) (hb : EV T X b ss (.int j)) : EV T X (.BinOp a .Pow b pos) ss (.int (i ^ j.toNat)) :=
  ev_op op_pow ha hb fun B F H σ v u Q R i1 i2 q => ⟨i, j, i1, i2, hj, q _ F H R.nx R rfl⟩
theorem ev_neg {i : Int} (ha : EV T X a ss (.int i)) : EV T X (.UnaryOp .USub a pos) ss (.int (-i)) :=
  EV.of (pe_un un_neg ha) fun B F H σ Q R q => ev_go R fun v F1 H1 n1 R1 i1 => ⟨i, i1, q _ F1 H1 n1 R1 rfl⟩
theorem ev_addS {x y : Str} (hl : x.length + y.length ≤ sizeLine) (ha : EV T X a ss (.str x)) (hb : EV T X b ss (.str y)) : EV T X (.BinOp a .Add b pos) ss (.str (x ++ y)) :=
  ev_op op_add_str ha hb fun B F H σ v u Q R i1 i2 q => ⟨x, y, i1, i2, hl, q _ F H R.nx R rfl⟩
theorem ev_lt {i j : Int} (ha : EV T X a ss (.int i)) (hb : EV T X b ss (.int j)) : EV T X (.Compare a [.Lt] [b] pos) ss (.bl (decide (i < j))) :=
  ev_cmp op_lt ha hb fun B F H σ v u Q R i1 i2 q => ⟨i, j, i1, i2, q _ F H R.nx R rfl⟩
theorem ev_le {i j : Int} (ha : EV T X a ss (.int i)) (hb : EV T X b ss (.int j)) : EV T X (.Compare a [.LtE] [b] pos) ss (.bl (decide (i ≤ j))) :=
  ev_cmp op_le ha hb fun B F H σ v u Q R i1 i2 q => ⟨i, j, i1, i2, q _ F H R.nx R rfl⟩
theorem ev_gt {i j : Int} (ha : EV T X a ss (.int i)) (hb : EV T X b ss (.int j)) : EV T X (.Compare a [.Gt] [b] pos) ss (.bl (decide (j < i))) :=
  ev_cmp op_gt ha hb fun B F H σ v u Q R i1 i2 q => ⟨i, j, i1, i2, q _ F H R.nx R rfl⟩
theorem ev_ge {i j : Int} (ha : EV T X a ss (.int i)) (hb : EV T X b ss (.int j)) : EV T X (.Compare a [.GtE] [b] pos) ss (.bl (decide (j ≤ i))) :=
  ev_cmp op_ge ha hb fun B F H σ v u Q R i1 i2 q => ⟨i, j, i1, i2, q _ F H R.nx R rfl⟩
theorem ev_eqI {i j : Int} (ha : EV T X a ss (.int i)) (hb : EV T X b ss (.int j)) : EV T X (.Compare a [.Eq] [b] pos) ss (.bl (decide (i = j))) :=
  ev_cmp op_eq ha hb fun B F H σ v u Q R i1 i2 q => by
    cases i1; cases i2
    exact ⟨rfl, q _ F H R.nx R (by show V.bl _ = V.bl _; rw [dec_int, Bool.beq_eq_decide_eq])⟩
theorem ev_neI {i j : Int} (ha : EV T X a ss (.int i)) (hb : EV T X b ss (.int j)) : EV T X (.Compare a [.NotEq] [b] pos) ss (.bl (!decide (i = j))) :=
  ev_cmp op_ne ha hb fun B F H σ v u Q R i1 i2 q => by
    cases i1; cases i2
    exact ⟨rfl, q _ F H R.nx R (by show V.bl _ = V.bl _; rw [dec_int, Bool.beq_eq_decide_eq])⟩
theorem ev_eqS {i j : Str} (ha : EV T X a ss (.str i)) (hb : EV T X b ss (.str j)) : EV T X (.Compare a [.Eq] [b] pos) ss (.bl (decide (i = j))) :=
  ev_cmp op_eq ha hb fun B F H σ v u Q R i1 i2 q => by
    cases i1; cases i2
    exact ⟨rfl, q _ F H R.nx R (by show V.bl _ = V.bl _; rw [dec_str, Bool.beq_eq_decide_eq])⟩
/-! arguments, displays -/
theorem evs_nil : EVs T X [] ss [] := EVs.of pa_nil fun B F H σ Q R k => k [] F H R.nx R rfl
theorem evs_cons (ha : EV T X e ss d) (hr : EVs T X es ss ds) (hs : starEach (e :: es) X.env = (false, eval e X.env) :: starEach es X.env := by rfl) : EVs T X (e :: es) ss (d :: ds) :=
  EVs.of (pa_cons ha hr hs) fun B F H σ Q R k => ev_go R fun v F1 H1 n1 R1 i1 => evs_go R1 fun vs F2 H2 n2 R2 i2 =>
    k (v :: vs) F2 H2 (n1.trans n2) R2 ⟨v, vs, rfl, Is.mono n2.f _ i1, i2⟩
theorem small_len {n : Nat} (h : n ≤ 100000) : n ≤ sizeLine := by rw [sizeLine_eq]; omega
theorem ev_tup {x1} (h : EVs T X es ss ds) (hl : ds.length ≤ 100000 := by exact Nat.le_of_ble_eq_true rfl) : EV T X (.Tuple es x1 pos) ss (.tup ds) :=
  EV.of (pe_tup h) fun B F H σ Q R k => evs_go R fun vs F1 H1 n1 R1 i1 => ⟨by rw [i1.length]; exact small_len hl, fun p hp =>
    k _ _ _ (n1.trans (Nx.alloc R1.sub hp)) (R1.alloc hp) ⟨p, vs, rfl, SqT.of upd_same, IsL.mono (Nx.alloc (T := T) R1.sub hp).f _ i1⟩⟩
theorem ev_lst (h : EVs T X es ss ds) (hl : ds.length ≤ 100000 := by exact Nat.le_of_ble_eq_true rfl) : EV T X (.List es pos) ss (.lst ds) :=
  EV.of (pe_lst h) fun B F H σ Q R k => evs_go R fun vs F1 H1 n1 R1 i1 => ⟨by rw [i1.length]; exact small_len hl, fun p hp =>
    k _ _ _ (n1.trans (Nx.alloc R1.sub hp)) (R1.alloc hp) ⟨p, vs, rfl, upd_same, IsL.mono (Nx.alloc (T := T) R1.sub hp).f _ i1⟩⟩
/-! items -/
theorem ev_ixL {xs : List D} {i : Int} (hi : ∃ n : Nat, i = n ∧ xs[n]? = some d) (ha : EV T X a ss (.lst xs)) (hb : EV T X b ss (.int i)) (hs : PlainIx b := by exact fun _ _ => rfl) : EV T X (.Subscript a b pos) ss d :=
  EV.of (pe_ix ix_list ha hb hs) fun B F H σ Q R q => ev_go R fun v F1 H1 n1 R1 i1 => ev_go R1 fun u F2 H2 n2 R2 i2 => by
    obtain ⟨p, vs, rfl, e2, e3⟩ := i1
    obtain ⟨n, rfl, hn⟩ := hi
    obtain ⟨w, hw, iw⟩ := IsL.get' e3 hn
    exact ⟨p, vs, _, w, rfl, i2, SqL.of (R2.sub _ _ (n2.f _ _ e2)), atI_nat hw, q _ _ _ (n1.trans n2) R2 (Is.mono n2.f _ iw)⟩
theorem ev_ixR {xs : List D} {i : Int} (hi : ∃ n : Nat, i = n ∧ xs[n]? = some d) (ha : EV T X a ss (.rdl xs)) (hb : EV T X b ss (.int i)) (hs : PlainIx b := by exact fun _ _ => rfl) : EV T X (.Subscript a b pos) ss d :=
  EV.of (pe_ix ix_list ha hb hs) fun B F H σ Q R q => ev_go R fun v F1 H1 n1 R1 i1 => ev_go R1 fun u F2 H2 n2 R2 i2 => by
    obtain ⟨p, vs, rfl, e2, e3⟩ := i1
    obtain ⟨n, rfl, hn⟩ := hi
    obtain ⟨w, hw, iw⟩ := IsL.get' e3 hn
    exact ⟨p, vs, _, w, rfl, i2, ext_seqL (n2.f.trans R2.sub) e2, atI_nat hw, q _ _ _ (n1.trans n2) R2 (Is.mono n2.f _ iw)⟩
theorem ev_ixT {xs : List D} {i : Int} (hi : ∃ n : Nat, i = n ∧ xs[n]? = some d) (ha : EV T X a ss (.tup xs)) (hb : EV T X b ss (.int i)) (hs : PlainIx b := by exact fun _ _ => rfl) : EV T X (.Subscript a b pos) ss d :=
  EV.of (pe_ix ix_tup ha hb hs) fun B F H σ Q R q => ev_go R fun v F1 H1 n1 R1 i1 => ev_go R1 fun u F2 H2 n2 R2 i2 => by
    obtain ⟨p, vs, rfl, e2, e3⟩ := i1
    obtain ⟨n, rfl, hn⟩ := hi
    obtain ⟨w, hw, iw⟩ := IsL.get' e3 hn
    exact ⟨p, vs, _, w, rfl, i2, ext_seqT (n2.f.trans R2.sub) e2, atI_nat hw, q _ _ _ (n1.trans n2) R2 (Is.mono n2.f _ iw)⟩
/-! tests -/
theorem tv_of {b : Bool} (h : EV T X e ss (.bl b)) (he : ∀ whole, isTrue e X.env whole = (do let v ← whole; standAt e.pos; holding [v] (truthy v)) := by intro _; rfl) : TV T X e ss b :=
  TV.of (pt_val h he) fun B F H σ Q R q => ev_go R fun v F1 H1 n1 R1 i1 => ⟨b, i1, q F1 H1 n1 R1⟩
theorem tv_cmp {op : CmpOp} {r : R2} {x y : D} {k : Bool} (ho : OpR X (compareOp op) r) (ha : EV T X a ss x) (hb : EV T X b ss y)
    (kk : ∀ B F H σ v u Q, StR T X.K B F H σ ss → Is X.K F x v → Is X.K F y u → (∀ F1 H1, Nx T F H F1 H1 → StR T X.K B F1 H1 σ ss → Q (.bl k) H1) → r v u H Q)
    (h1 : behindInMarks op b = false := by first | exact nomark _ | rfl) : TV T X (.Compare a [op] [b] pos) ss k :=
  TV.of (pt_cmpR ho ha hb h1) fun B F H σ Q R q => ev_go R fun v F1 H1 n1 R1 i1 => ev_go R1 fun u F2 H2 n2 R2 i2 =>
    kk B F2 H2 σ v u _ R2 (Is.mono n2.f _ i1) i2 fun F3 H3 n3 R3 => ⟨k, rfl, q F3 H3 ((n1.trans n2).trans n3) R3⟩
theorem tv_lt {i j : Int} (ha : EV T X a ss (.int i)) (hb : EV T X b ss (.int j)) : TV T X (.Compare a [.Lt] [b] pos) ss (decide (i < j)) :=
  tv_cmp op_lt ha hb fun B F H σ v u Q R i1 i2 q => ⟨i, j, i1, i2, q F H R.nx R⟩
theorem tv_le {i j : Int} (ha : EV T X a ss (.int i)) (hb : EV T X b ss (.int j)) : TV T X (.Compare a [.LtE] [b] pos) ss (decide (i ≤ j)) :=
  tv_cmp op_le ha hb fun B F H σ v u Q R i1 i2 q => ⟨i, j, i1, i2, q F H R.nx R⟩
theorem tv_gt {i j : Int} (ha : EV T X a ss (.int i)) (hb : EV T X b ss (.int j)) : TV T X (.Compare a [.Gt] [b] pos) ss (decide (j < i)) :=
  tv_cmp op_gt ha hb fun B F H σ v u Q R i1 i2 q => ⟨i, j, i1, i2, q F H R.nx R⟩
theorem tv_ge {i j : Int} (ha : EV T X a ss (.int i)) (hb : EV T X b ss (.int j)) : TV T X (.Compare a [.GtE] [b] pos) ss (decide (j ≤ i)) :=
  tv_cmp op_ge ha hb fun B F H σ v u Q R i1 i2 q => ⟨i, j, i1, i2, q F H R.nx R⟩
theorem tv_eqI {i j : Int} (ha : EV T X a ss (.int i)) (hb : EV T X b ss (.int j)) : TV T X (.Compare a [.Eq] [b] pos) ss (decide (i = j)) :=
  tv_cmp op_eq ha hb fun B F H σ v u Q R i1 i2 q => by
    cases i1; cases i2
    refine ⟨rfl, ?_⟩
    rw [dec_int, Bool.beq_eq_decide_eq]
    exact q F H R.nx R
theorem tv_neI {i j : Int} (ha : EV T X a ss (.int i)) (hb : EV T X b ss (.int j)) : TV T X (.Compare a [.NotEq] [b] pos) ss (!decide (i = j)) :=
  tv_cmp op_ne ha hb fun B F H σ v u Q R i1 i2 q => by
    cases i1; cases i2
    refine ⟨rfl, ?_⟩
    rw [dec_int, Bool.beq_eq_decide_eq]
    exact q F H R.nx R
theorem tv_not {k : Bool} (h : TV T X a ss k) : TV T X (.UnaryOp .Not a pos) ss (!k) := TV.of (pt_not h) fun B F H σ Q R q => tv_go R q
def TW (T : List (Addr × Str)) (X : Cx) (e : Expr) (ss : SS) (b : Bool) : Prop := PW X e (tTv T X.K fun ss' b' => ss' = ss ∧ b' = b)
theorem PW.imp {e : Expr} {t t' : TT} (h : PW X e t) (k : ∀ σ H Q, t' σ H Q → t σ H Q) : PW X e t' := ⟨fun wh pins s σ H Q I q => h.run wh pins s σ H Q I (k σ H Q q)⟩
theorem TW.tv {k : Bool} (h : TW T X e ss k) : TV T X e ss k := PW.pt h
theorem tw_and1 {k : Bool} (h : TV T X a ss k) : TW T X (.BoolOp .And [a] pos) ss k := pw_and1 h
theorem tw_or1 {k : Bool} (h : TV T X a ss k) : TW T X (.BoolOp .Or [a] pos) ss k := pw_or1 h
theorem tw_andT {k : Bool} (h : TV T X a ss true) (g : TW T X (.BoolOp .And (b :: es) pos) ss k) : TW T X (.BoolOp .And (a :: b :: es) pos) ss k :=
  PW.imp (pw_and h g) fun σ H Q ⟨B, F, ss', d', ⟨e1, e2⟩, R, q⟩ => by
    subst e1; subst e2
    exact tv_go R fun F1 H1 n1 R1 => iteT (tv_go R1 fun F2 H2 n2 R2 => q F2 H2 (n1.trans n2) R2)
theorem tw_andF {t : TT} (h : TV T X a ss false) (g : PW X (.BoolOp .And (b :: es) pos) t) : TW T X (.BoolOp .And (a :: b :: es) pos) ss false :=
  PW.imp (pw_and h g) fun σ H Q ⟨B, F, ss', d', ⟨e1, e2⟩, R, q⟩ => by
    subst e1; subst e2
    exact tv_go R fun F1 H1 n1 R1 => iteF (q F1 H1 n1 R1)
end
end Fd

set_option Elab.async false
set_option linter.all false
set_option maxRecDepth 100000
set_option maxHeartbeats 2000000
/-! Fd2: statements, loops, comprehensions, calls of defs. -/
namespace Fd
open PySem PySem.Spec PyProof.Rows L2
/-! ### statements -/
structure Post where
  nx : SS → Prop
  rt : D → Prop
  bk : SS → Prop := fun _ => False
  ct : SS → Prop := fun _ => False
def tSv (T : List (Addr × Str)) (K : PySem.W.Frag) (Rl : SS → Post → Prop) : TS := fun Dn σ H => ∃ B F ss P, Rl ss P ∧ StR T K B F H σ ss ∧ (∀ ss' σ' F1 H1, P.nx ss' → StR T K B F1 H1 σ' ss' → Dn.nx σ' H1) ∧
  (∀ d v ss' σ' F1 H1, P.rt d → StR T K B F1 H1 σ' ss' → Is K F1 d v → Dn.rt v H1) ∧ (∀ ss' σ' F1 H1, P.bk ss' → StR T K B F1 H1 σ' ss' → Dn.bk σ' H1) ∧ (∀ ss' σ' F1 H1, P.ct ss' → StR T K B F1 H1 σ' ss' → Dn.ct σ' H1)
def SV (T : List (Addr × Str)) (X : Cx) (st : Stmt) (ss : SS) (P : Post) : Prop := PS X st (tSv T X.K fun ss' P' => ss' = ss ∧ P' = P)
def SVs (T : List (Addr × Str)) (X : Cx) (st : List Stmt) (ss : SS) (P : Post) : Prop := PSs X st (tSv T X.K fun ss' P' => ss' = ss ∧ P' = P)
section
variable {T : List (Addr × Str)} {X : Cx} {ss : SS} {P : Post} {st : Stmt} {sts rest : List Stmt} {e : Expr} {d : D} {pos : Pos}
/-- the ends of a statement from a state -/
structure Go (T : List (Addr × Str)) (K : PySem.W.Frag) (B : Hp × Hp) (P : Post) (Dn : Ends) : Prop where
  nx : ∀ ss' σ' F1 H1, P.nx ss' → StR T K B F1 H1 σ' ss' → Dn.nx σ' H1
  rt : ∀ d v ss' σ' F1 H1, P.rt d → StR T K B F1 H1 σ' ss' → Is K F1 d v → Dn.rt v H1
  bk : ∀ ss' σ' F1 H1, P.bk ss' → StR T K B F1 H1 σ' ss' → Dn.bk σ' H1
  ct : ∀ ss' σ' F1 H1, P.ct ss' → StR T K B F1 H1 σ' ss' → Dn.ct σ' H1
theorem SV.of {t : TS} (h : PS X st t) (k : ∀ B F H σ Dn, StR T X.K B F H σ ss → Go T X.K B P Dn → t Dn σ H) : SV T X st ss P :=
  PS.imp h fun Dn σ H ⟨B, F, ss', P', ⟨e1, e2⟩, R, q1, q2, q3, q4⟩ => by subst e1; subst e2; exact k B F H σ Dn R ⟨q1, q2, q3, q4⟩
theorem SVs.of {t : TS} (h : PSs X sts t) (k : ∀ B F H σ Dn, StR T X.K B F H σ ss → Go T X.K B P Dn → t Dn σ H) : SVs T X sts ss P :=
  PSs.imp h fun Dn σ H ⟨B, F, ss', P', ⟨e1, e2⟩, R, q1, q2, q3, q4⟩ => by subst e1; subst e2; exact k B F H σ Dn R ⟨q1, q2, q3, q4⟩
theorem pss_fam {Rl : SS → Post → Prop} (h : ∀ ss P, Rl ss P → SVs T X sts ss P) : PSs X sts (tSv T X.K Rl) := ⟨fun pins s σ H Dn I q => by
  obtain ⟨B, F, ss, P, r, R, q⟩ := q
  exact (h ss P r).run pins s σ H Dn I ⟨B, F, ss, P, ⟨rfl, rfl⟩, R, q⟩⟩
abbrev AllSv (T : List (Addr × Str)) (X : Cx) (sts : List Stmt) : TS := tSv T X.K fun ss P => SVs T X sts ss P
theorem pss_all : PSs X sts (AllSv T X sts) := pss_fam fun _ _ h => h
theorem sv_go {B : Hp × Hp} {F H : Hp} {σ : L2.St} {Dn : Ends} (h : SVs T X sts ss P) (R : StR T X.K B F H σ ss) (g : Go T X.K B P Dn) : AllSv T X sts Dn σ H := ⟨B, F, ss, P, h, R, g.nx, g.rt, g.bk, g.ct⟩
theorem svs_nil (h : P.nx ss) : SVs T X [] ss P := SVs.of pss_nil fun B F H σ Dn R g => g.nx _ _ _ _ h R
theorem svs_cons (h : SV T X st ss ⟨fun ss' => SVs T X rest ss' P, P.rt, P.bk, P.ct⟩) : SVs T X (st :: rest) ss P :=
  SVs.of (pss_cons h pss_all) fun B F H σ Dn R g => ⟨B, F, ss, _, ⟨rfl, rfl⟩, R, fun ss' σ' F1 H1 q R1 => sv_go q R1 g, g.rt, g.bk, g.ct⟩
theorem svs_one (h : SV T X st ss P) : SVs T X [st] ss P := SVs.of (pss_one h) fun B F H σ Dn R g => ⟨B, F, ss, P, ⟨rfl, rfl⟩, R, g.nx, g.rt, g.bk, g.ct⟩
theorem SV.post {P' : Post} (h : SV T X st ss P') (h1 : ∀ s, P'.nx s → P.nx s) (h2 : ∀ d, P'.rt d → P.rt d) (h3 : ∀ s, P'.bk s → P.bk s) (h4 : ∀ s, P'.ct s → P.ct s) : SV T X st ss P :=
  SV.of h fun B F H σ Dn R g => ⟨B, F, ss, P', ⟨rfl, rfl⟩, R, fun ss' σ' F1 H1 q => g.nx ss' σ' F1 H1 (h1 _ q), fun d v ss' σ' F1 H1 q => g.rt d v ss' σ' F1 H1 (h2 _ q), fun ss' σ' F1 H1 q => g.bk ss' σ' F1 H1 (h3 _ q), fun ss' σ' F1 H1 q => g.ct ss' σ' F1 H1 (h4 _ q)⟩
theorem SVs.post {P' : Post} (h : SVs T X sts ss P') (h1 : ∀ s, P'.nx s → P.nx s) (h2 : ∀ d, P'.rt d → P.rt d) (h3 : ∀ s, P'.bk s → P.bk s) (h4 : ∀ s, P'.ct s → P.ct s) : SVs T X sts ss P :=
  SVs.of h fun B F H σ Dn R g => ⟨B, F, ss, P', ⟨rfl, rfl⟩, R, fun ss' σ' F1 H1 q => g.nx ss' σ' F1 H1 (h1 _ q), fun d v ss' σ' F1 H1 q => g.rt d v ss' σ' F1 H1 (h2 _ q), fun ss' σ' F1 H1 q => g.bk ss' σ' F1 H1 (h3 _ q), fun ss' σ' F1 H1 q => g.ct ss' σ' F1 H1 (h4 _ q)⟩
theorem sv_pass (h : P.nx ss) : SV T X (.Pass pos) ss P := SV.of ps_pass fun B F H σ Dn R g => g.nx _ _ _ _ h R
theorem sv_break (h : P.bk ss) : SV T X (.Break pos) ss P := SV.of ps_break fun B F H σ Dn R g => g.bk _ _ _ _ h R
theorem sv_continue (h : P.ct ss) : SV T X (.Continue pos) ss P := SV.of ps_continue fun B F H σ Dn R g => g.ct _ _ _ _ h R
theorem sv_ret (h : EV T X e ss d) (k : P.rt d) : SV T X (.Return (some e) pos) ss P := SV.of (ps_ret h) fun B F H σ Dn R g => ev_go R fun v F1 H1 n1 R1 i1 => g.rt d v ss σ F1 H1 k R1 i1
theorem sv_retN (k : P.rt .non) : SV T X (.Return none pos) ss P := SV.of ps_retN fun B F H σ Dn R g => g.rt .non _ ss σ F H k R rfl
theorem sv_expr (h : EV T X e ss d) (k : P.nx ss) (hs : swapsWith e none pos.line X.env = pure false := by rfl) : SV T X (.Expr e pos) ss P := SV.of (ps_expr h hs) fun B F H σ Dn R g => ev_go R fun v F1 H1 n1 R1 i1 => g.nx ss σ F1 H1 k R1
theorem sv_if {c : Expr} {a b : List Stmt} {t : Bool} (hc : TV T X c ss t) (h1 : t = true → SVs T X a ss P) (h2 : t = false → SVs T X b ss P) : SV T X (.If c a b pos) ss P :=
  SV.of (ps_if hc pss_all pss_all) fun B F H σ Dn R g => tv_go R fun F1 H1 n1 R1 => by
    cases t with
    | true => exact iteT (sv_go (h1 rfl) R1 g)
    | false => exact iteF (sv_go (h2 rfl) R1 g)
theorem sv_set (i : Nat) {x : Str} {pos' : Pos} (he : EV T X e ss d) (k : P.nx (ss.set i (.d d))) (hN : X.N.Nodup) (hi : X.N[i]? = some x := by rfl) (hx : Loc X.env.scope x := by first | exact Or.inl rfl | exact Or.inr rfl)
    (hs : swapsWith e (some (.Name x pos')) pos.line X.env = pure false := by rfl) (hf : X.fn x = true ∨ X.env.scope.names.lookup x = some .local := by first | exact .inl rfl | exact .inr rfl | assumption) : SV T X (.Assign [.Name x pos'] e pos) ss P :=
  SV.of (ps_set hN hi hx he hs hf) fun B F H σ Dn R g => ev_go R fun v F1 H1 n1 R1 i1 => g.nx _ _ F1 H1 k (R1.put i1)
end
/-! ### lists of one's own -/
section
variable {T : List (Addr × Str)} {K : PySem.W.Frag} {B : Hp × Hp} {F H F1 H1 F2 H2 : Hp} {σ : L2.St} {ss : SS}
/-- B.2 p = none for what is new -/
theorem StR.base_none (R : StR T K B F H σ ss) {p : Addr} (h : H p = none) : Fr B.2 p := R.bH.ff h
theorem StR.base_fr (R : StR T K B F H σ ss) {p : Addr} (h : Fr H p) : Fr B.2 p := R.bH.fr h
/-- an own slot's object is no table, no code object -/
theorem StR.plain (R : StR T K B F H σ ss) {i : Nat} {s : S} {p : Addr} (h : ss[i]? = some s) (m : s.mine = true) (hσ : σ[i]? = some (some (.ref p))) : ∀ o', H p = some o' → ¬ Codey o' := by
  have q := R.slots i _ _ h hσ
  intro o' e z
  cases s with
  | own xs => obtain ⟨p, vs, e0, e1, e2, _⟩ := q; cases e0; rw [e] at e2; cases e2; rcases z with ⟨_, z⟩ | ⟨_, _, z⟩ <;> cases z
  | obj p C ns xs => obtain ⟨dx, fs, e0, e1, e2, _⟩ := q; cases e0; rw [e] at e2; cases e2; rcases z with ⟨_, z⟩ | ⟨_, _, z⟩ <;> cases z
  | dic ks xs => obtain ⟨p, kvs, e0, e1, e2, _⟩ := q; cases e0; rw [e] at e2; cases e2; rcases z with ⟨_, z⟩ | ⟨_, _, z⟩ <;> cases z
  | dicT ks xs => obtain ⟨p, kvs, e0, e1, e2, _⟩ := q; cases e0; rw [e] at e2; cases e2; rcases z with ⟨_, z⟩ | ⟨_, _, z⟩ <;> cases z
  | _ => cases m
theorem StR.free (R : StR T K B F H σ ss) {p : Addr} (h : H p = none) : F p = none := by
  cases e : F p with
  | none => rfl
  | some u => rw [R.sub p u e] at h; cases h
/-- own slots stand in the heap -/
theorem StR.mine_at (R : StR T K B F H σ ss) {i : Nat} {s : S} (h : ss[i]? = some s) (m : s.mine = true) : ∃ p, σ[i]? = some (some (.ref p)) ∧ F p = none ∧ H p ≠ none := by
  have hi : i < ss.length := (List.getElem?_eq_some_iff.mp h).1
  have hs : i < σ.length := by rw [R.len]; exact hi
  have q := R.slots i _ _ h (List.getElem?_eq_getElem hs)
  rw [List.getElem?_eq_getElem hs]
  cases s with
  | own xs => obtain ⟨p, vs, e, e1, e2, _⟩ := q; exact ⟨p, by rw [e], e1, by rw [e2]; exact fun z => nomatch z⟩
  | obj p C ns xs => obtain ⟨dx, fs, e, e1, e2, _⟩ := q; exact ⟨p, by rw [e], e1, by rw [e2]; exact fun z => nomatch z⟩
  | dic ks xs => obtain ⟨p, kvs, e, e1, e2, _⟩ := q; exact ⟨p, by rw [e], e1, by rw [e2]; exact fun z => nomatch z⟩
  | dicT ks xs => obtain ⟨p, kvs, e, e1, e2, _⟩ := q; exact ⟨p, by rw [e], e1, by rw [e2]; exact fun z => nomatch z⟩
  | _ => cases m
/-- a change at p of the whole heap alone, p no own slot's -/
theorem StR.updH {p : Addr} {o : HO} (R : StR T K B F H σ ss) (hF : F p = none) (hB : Fr B.2 p) (hk : ∀ o', H p = some o' → ¬ Codey o') (ho : ∀ (i : Nat) (s : S), ss[i]? = some s → s.mine = true → σ[i]? ≠ some (some (.ref p))) : StR T K B F (upd H p o) σ ss where
  len := R.len
  bF := R.bF
  bH := ⟨fun q u e n => by
    by_cases z : q = p
    · subst z; exact hB.no e n
    · rw [upd_ne z]; exact R.bH.k q u e n, fun t => tabs_upd (R.bH.t t) hk⟩
  sub := fun q u e => by rw [upd_ne (ne_of_none e hF)]; exact R.sub q u e
  nt := R.nt
  tb := tabs_upd R.tb hk
  new := R.new
  slots := fun i s oo e1 e2 => by
    have q := R.slots i s oo e1 e2
    have ne : ∀ {p' : Addr}, s.mine = true → oo = some (.ref p') → p' ≠ p := fun {p'} m e z => ho i s e1 m (by rw [e2, e, z])
    cases s with
    | no => exact True.intro
    | d x => exact q
    | own xs => obtain ⟨p', vs, e, e3, e4, h⟩ := q; exact ⟨p', vs, e, e3, by rw [upd_ne (ne rfl e)]; exact e4, h⟩
    | obj p' C ns xs => obtain ⟨dx, fs, e, e3, e4, h⟩ := q; exact ⟨dx, fs, e, e3, by rw [upd_ne (ne rfl e)]; exact e4, h⟩
    | dic ks xs => obtain ⟨p', kvs, e, e3, e4, h⟩ := q; exact ⟨p', kvs, e, e3, by rw [upd_ne (ne rfl e)]; exact e4, h⟩
    | dicT ks xs => obtain ⟨p', kvs, e, e3, e4, h⟩ := q; exact ⟨p', kvs, e, e3, by rw [upd_ne (ne rfl e)]; exact e4, h⟩
  own := R.own
  dis := R.dis
/-- a slot is given an object of its own -/
theorem StR.putOwn {i : Nat} {s : S} {p : Addr} (R : StR T K B F H σ ss) (m : s.mine = true) (h : SlotIs K F H s (some (.ref p))) (hB : Fr B.2 p) (ho : ∀ (j : Nat) (t : S), j ≠ i → ss[j]? = some t → t.mine = true → σ[j]? ≠ some (some (.ref p))) :
    StR T K B F H (σ.set i (some (.ref p))) (ss.set i s) where
  len := by simp [R.len]
  bF := R.bF
  bH := R.bH
  sub := R.sub
  nt := R.nt
  tb := R.tb
  new := R.new
  slots := fun j t o e1 e2 => by
    rcases set_get e1 with ⟨q, rfl⟩ | ⟨q, e1⟩
    · rcases set_get e2 with ⟨_, rfl⟩ | ⟨q2, _⟩
      · exact h
      · exact absurd q q2
    · rcases set_get e2 with ⟨q2, _⟩ | ⟨_, e2⟩
      · exact absurd q2 q
      · exact R.slots j t o e1 e2
  own := fun j t p' e1 m' e2 => by
    rcases set_get e1 with ⟨q, rfl⟩ | ⟨q, e1⟩
    · rcases set_get e2 with ⟨_, z⟩ | ⟨q2, _⟩
      · cases z; exact hB
      · exact absurd q q2
    · rcases set_get e2 with ⟨q2, _⟩ | ⟨_, e2⟩
      · exact absurd q2 q
      · exact R.own j t p' e1 m' e2
  dis := fun j k s' t p' e1 e2 m1 m2 e3 e4 => by
    rcases set_get e3 with ⟨q, z⟩ | ⟨q, e3⟩
    · cases z
      rcases set_get e4 with ⟨q', z⟩ | ⟨q', e4⟩
      · exact q.symm.trans q'
      · rcases set_get e2 with ⟨q2, _⟩ | ⟨_, e2⟩
        · exact absurd q2 q'
        · exact absurd e4 (ho k t (fun z => q' z.symm) e2 m2)
    · rcases set_get e1 with ⟨q2, _⟩ | ⟨_, e1⟩
      · exact absurd q2 q
      · rcases set_get e4 with ⟨q', z⟩ | ⟨q', e4⟩
        · cases z
          exact absurd e3 (ho j s' (fun z => q z.symm) e1 m1)
        · rcases set_get e2 with ⟨q2, _⟩ | ⟨_, e2⟩
          · exact absurd q2 q'
          · exact R.dis j k s' t p' e1 e2 m1 m2 e3 e4
/-- a fresh object laid and given to a slot -/
theorem StR.newOwn {i : Nat} {s : S} {p : Addr} {o : HO} (R : StR T K B F H σ ss) (hp : H p = none) (m : s.mine = true) (h : SlotIs K F (upd H p o) s (some (.ref p))) : StR T K B F (upd H p o) (σ.set i (some (.ref p))) (ss.set i s) := by
  have no : ∀ (j : Nat) (t : S), ss[j]? = some t → t.mine = true → σ[j]? ≠ some (some (.ref p)) := fun j t e mt z => by
    obtain ⟨p', e1, _, e3⟩ := R.mine_at e mt
    rw [z] at e1
    cases e1
    exact e3 hp
  exact (R.updH (R.free hp) (R.base_none hp) (fun o' e => by rw [hp] at e; cases e) no).putOwn m h (R.base_none hp) fun j t _ => no j t
theorem set_self {α : Type} {l : List α} {i : Nat} {a : α} (h : l[i]? = some a) : l.set i a = l := by
  apply List.ext_getElem?
  intro j
  by_cases e : i = j
  · subst e
    rw [List.getElem?_set_self (List.getElem?_eq_some_iff.mp h).1, h]
  · rw [List.getElem?_set_ne e]
/-- an own object is changed -/
theorem StR.chg {i : Nat} {s s' : S} {p : Addr} {o : HO} (R : StR T K B F H σ ss) (hs : ss[i]? = some s) (m : s.mine = true) (hσ : σ[i]? = some (some (.ref p))) (m' : s'.mine = true) (hF : F p = none) (h : SlotIs K F (upd H p o) s' (some (.ref p))) :
    StR T K B F (upd H p o) σ (ss.set i s') := by
  have hB := R.own i s p hs m hσ
  have R1 : StR T K B F H σ (ss.set i .no) := R.less hs (.inr trivial)
  have hil : i < ss.length := (List.getElem?_eq_some_iff.mp hs).1
  have no : ∀ (j : Nat) (t : S), (ss.set i .no)[j]? = some t → t.mine = true → σ[j]? ≠ some (some (.ref p)) := fun j t e mt z => by
    rcases set_get e with ⟨_, rfl⟩ | ⟨q, e⟩
    · cases mt
    · exact q (R.dis i j s t p hs e m mt hσ z)
  have R2 := (R1.updH (o := o) hF hB (R.plain hs m hσ) no).putOwn (i := i) m' h hB fun j t _ => no j t
  rw [set_self hσ, List.set_set] at R2
  exact R2
/-- what was one's own is never changed again: a datum -/
theorem StR.freeze {i : Nat} {xs : List D} (R : StR T K B F H σ ss) (h : ss[i]? = some (.own xs)) : ∃ F', Ext F F' ∧ Nx T F H F' H ∨ True := ⟨F, .inr trivial⟩
theorem StR.freezeL {i : Nat} {xs : List D} (R : StR T K B F H σ ss) (h : ss[i]? = some (.own xs)) : ∃ F', Ext F F' ∧ StR T K B F' H σ (ss.set i (.d (.lst xs))) := by
  have hi : i < ss.length := (List.getElem?_eq_some_iff.mp h).1
  have hs : i < σ.length := by rw [R.len]; exact hi
  obtain ⟨p, vs, e, e1, e2, hx⟩ := R.slots i _ _ h (List.getElem?_eq_getElem hs)
  have hσ : σ[i]? = some (some (.ref p)) := by rw [List.getElem?_eq_getElem hs, e]
  have hB := R.own i _ p h rfl hσ
  have xF : Ext F (upd F p (.lst vs)) := Ext.upd e1
  refine ⟨upd F p (.lst vs), xF, ⟨by simp [R.len], R.bF.trans xF, R.bH, fun q u z => ?_, fun q ps z => ?_, R.tb, fun q u z => ?_, fun j s o z1 z2 => ?_, fun j s q z1 m z2 => ?_, fun j k s t q z1 z2 m1 m2 z3 z4 => ?_⟩⟩
  · by_cases hq : q = p
    · subst hq; rw [upd_same] at z; rw [e2]; exact z
    · rw [upd_ne hq] at z; exact R.sub q u z
  · by_cases hq : q = p
    · subst hq; rw [upd_same] at z; cases z
    · rw [upd_ne hq] at z; exact R.nt q ps z
  · by_cases hq : q = p
    · subst hq; exact .inr (.inl hB)
    · rw [upd_ne hq] at z; exact R.new q u z
  · rcases set_get z1 with ⟨q, rfl⟩ | ⟨q, z1⟩
    · subst q
      rw [hσ] at z2
      cases z2
      exact ⟨.ref p, rfl, p, vs, rfl, upd_same, IsL.mono xF _ hx⟩
    · have w := R.slots j s o z1 z2
      have ne : ∀ {p' : Addr}, s.mine = true → o = some (.ref p') → p' ≠ p := fun {p'} m e' z => q (R.dis i j _ s p h z1 rfl m hσ (by rw [z2, e', z]))
      cases s with
      | no => exact True.intro
      | d x => obtain ⟨v, w1, w2⟩ := w; exact ⟨v, w1, Is.mono xF x w2⟩
      | own ys => obtain ⟨p', us, w1, w2, w3, w4⟩ := w; exact ⟨p', us, w1, by rw [upd_ne (ne rfl w1)]; exact w2, w3, IsL.mono xF _ w4⟩
      | obj p' C ns ys => obtain ⟨dx, fs, w1, w2, w3, w4, w5⟩ := w; exact ⟨dx, fs, w1, by rw [upd_ne (ne rfl w1)]; exact w2, w3, w4, IsL.mono xF _ w5⟩
      | dic ks ys => obtain ⟨p', kvs, w1, w2, w3, w4, w5⟩ := w; exact ⟨p', kvs, w1, by rw [upd_ne (ne rfl w1)]; exact w2, w3, w4, IsL.mono xF _ w5⟩
      | dicT ks ys => obtain ⟨p', kvs, w1, w2, w3, w4, w5⟩ := w; exact ⟨p', kvs, w1, by rw [upd_ne (ne rfl w1)]; exact w2, w3, w4, IsL.mono xF _ w5⟩
  · rcases set_get z1 with ⟨_, rfl⟩ | ⟨_, z1⟩
    · cases m
    · exact R.own j s q z1 m z2
  · rcases set_get z1 with ⟨_, rfl⟩ | ⟨_, z1⟩
    · cases m1
    · rcases set_get z2 with ⟨_, rfl⟩ | ⟨_, z2⟩
      · cases m2
      · exact R.dis j k s t q z1 z2 m1 m2 z3 z4
theorem StR.rebase (R : StR T K B F H σ ss) : StR T K (F, B.2) F H σ ss := ⟨R.len, fun _ _ h => h, R.bH, R.sub, R.nt, R.tb, fun p o e => .inl (by show F p ≠ none; rw [e]; exact fun z => nomatch z), R.slots, R.own, R.dis⟩
theorem StR.unbase {σ' : L2.St} {ss' : SS} (R : StR T K B F H σ ss) (R' : StR T K (F, B.2) F1 H1 σ' ss') : StR T K B F1 H1 σ' ss' := ⟨R'.len, R.bF.trans R'.bF, R'.bH, R'.sub, R'.nt, R'.tb, fun p o e => by
  rcases R'.new p o e with z | z
  · cases q : F p with
    | none => exact absurd q z
    | some u => exact R.new p u q
  · exact .inr z, R'.slots, R'.own, R'.dis⟩
end
section
variable {T : List (Addr × Str)} {X : Cx} {ss : SS} {P : Post} {st : Stmt} {sts rest : List Stmt} {e : Expr} {d : D} {ds : List D} {es : List Expr} {pos : Pos}
/-- an own list is a datum from here on -/
theorem sv_freeze (i : Nat) {xs : List D} (hi : ss[i]? = some (.own xs)) (h : SV T X st (ss.set i (.d (.lst xs))) P) : SV T X st ss P :=
  SV.of h fun B F H σ Dn R g => let ⟨F', _, R'⟩ := R.freezeL hi; ⟨B, F', _, P, ⟨rfl, rfl⟩, R', g.nx, g.rt, g.bk, g.ct⟩
theorem svs_freeze (i : Nat) {xs : List D} (hi : ss[i]? = some (.own xs)) (h : SVs T X sts (ss.set i (.d (.lst xs))) P) : SVs T X sts ss P :=
  SVs.of h fun B F H σ Dn R g => let ⟨F', _, R'⟩ := R.freezeL hi; ⟨B, F', _, P, ⟨rfl, rfl⟩, R', g.nx, g.rt, g.bk, g.ct⟩
/-- x = [..]: a list of one's own -/
theorem sv_setOwn (i : Nat) {x : Str} {pos' pl : Pos} (he : EVs T X es ss ds) (k : P.nx (ss.set i (.own ds))) (hN : X.N.Nodup) (hl : ds.length ≤ 100000 := by exact Nat.le_of_ble_eq_true rfl) (hi : X.N[i]? = some x := by rfl) (hx : Loc X.env.scope x := by first | exact Or.inl rfl | exact Or.inr rfl)
    (hs : swapsWith (.List es pl) (some (.Name x pos')) pos.line X.env = pure false := by rfl) (hf : X.fn x = true ∨ X.env.scope.names.lookup x = some .local := by first | exact .inl rfl | exact .inr rfl | assumption) :
    SV T X (.Assign [.Name x pos'] (.List es pl) pos) ss P :=
  SV.of (ps_set hN hi hx (pe_lst he) hs hf) fun B F H σ Dn R g => evs_go R fun vs F1 H1 n1 R1 i1 => ⟨by rw [i1.length]; exact small_len hl, fun p hp =>
    g.nx _ _ _ _ k (R1.newOwn hp rfl ⟨p, vs, rfl, R1.free hp, upd_same, i1⟩)⟩
/-- x.append(e) -/
theorem sv_append (i : Nat) {xs : List D} {x : Str} {px ap cp : Pos} (hx : ss[i]? = some (.own xs)) (he : EV T X e ss d) (k : P.nx (ss.set i (.own (xs ++ [d])))) (hl : xs.length ≤ 100000)
    (hp : ∀ {te : TE}, PE X e te → PE X (.Call (.Attribute (.Name x px) "append" ap) [e] [] cp) (tBM X.K "list" rAppend (tVar i) (tCons te tNil)) := by
      intro te h; exact pe_bm PySem.F.plainAttrs_list PySem.F.slot_list_append PySem.F.type_list_append mt_append (pv _) (pa_cons h pa_nil))
    (hs : swapsWith (.Call (.Attribute (.Name x px) "append" ap) [e] [] cp) none pos.line X.env = pure false := by rfl) :
    SV T X (.Expr (.Call (.Attribute (.Name x px) "append" ap) [e] [] cp) pos) ss P := by
  refine SV.of (ps_expr (hp he) hs) fun B F H σ Dn R g => ?_
  have hi : i < ss.length := (List.getElem?_eq_some_iff.mp hx).1
  have hsl : i < σ.length := by rw [R.len]; exact hi
  obtain ⟨p, vs, e1, e2, e3, e4⟩ := R.slots i _ _ hx (List.getElem?_eq_getElem hsl)
  have hσ : σ[i]? = some (some (.ref p)) := by rw [List.getElem?_eq_getElem hsl, e1]
  refine ⟨.ref p, hσ, .inl ⟨rfl, vs, SqL.of e3⟩, ev_go R fun v F1 H1 n1 R1 i1 => ?_⟩
  obtain ⟨p', vs', q1, q2, q3, q4⟩ := R1.slots i _ _ hx (List.getElem?_eq_getElem hsl)
  rw [q1] at e1
  cases e1
  refine ⟨p, _, v, rfl, rfl, q3, ?_, g.nx _ _ _ _ k (R1.chg hx rfl hσ rfl q2 ⟨p, _, rfl, q2, upd_same, q4.snoc i1⟩)⟩
  rw [q4.length, sizeLine_eq]; omega
end
end Fd

set_option Elab.async false
set_option linter.all false
set_option maxRecDepth 100000
set_option maxHeartbeats 2000000
/-! Fd3: loops, comprehensions, calls of defs. -/
namespace Fd
open PySem PySem.Spec PyProof.Rows L2
/-! ### what is walked -/
/-- J yields the data xs, one after another; it may lay new objects -/
structure Yl (T : List (Addr × Str)) (K : PySem.W.Frag) (J : It) (F1 : Hp) (xs : List D) : Prop where
  item : ∀ (i : Nat) (F H : Hp), Ext F1 F → Ext F H → i < xs.length → J.go i H ∧ ∀ x H', J.yld i H x H' → ∃ F' d, Nx T F H F' H' ∧ xs[i]? = some d ∧ Is K F' d x
  stop : ∀ (F H : Hp), Ext F1 F → Ext F H → J.stop xs.length H
def tIv (T : List (Addr × Str)) (K : PySem.W.Frag) (ss : SS) (xs : List D) : TI := fun σ H R => ∃ B F, StR T K B F H σ ss ∧ ∀ J F1 H1, Nx T F H F1 H1 → StR T K B F1 H1 σ ss → Yl T K J F1 xs → R J H1
def IV (T : List (Addr × Str)) (X : Cx) (tg e : Expr) (ss : SS) (xs : List D) : Prop := PI X tg e (tIv T X.K ss xs)
section
variable {T : List (Addr × Str)} {X : Cx} {ss : SS} {tg e : Expr} {xs : List D} {d : D}
theorem PI.imp {t t' : TI} (h : PI X tg e t) (k : ∀ σ H R, t' σ H R → t σ H R) : PI X tg e t' := ⟨fun pins s σ H R I q => h.run pins s σ H R I (k σ H R q)⟩
theorem IV.of {t : TI} (h : PI X tg e t) (k : ∀ B F H σ R, StR T X.K B F H σ ss → (∀ J F1 H1, Nx T F H F1 H1 → StR T X.K B F1 H1 σ ss → Yl T X.K J F1 xs → R J H1) → t σ H R) : IV T X tg e ss xs :=
  PI.imp h fun σ H R ⟨B, F, R0, q⟩ => k B F H σ R R0 q
theorem iv_list (he : EV T X e ss (.lst xs)) : IV T X tg e ss xs := IV.of (pi_list he) fun B F H σ R R0 q => ev_go R0 fun v F1 H1 n1 R1 i1 => by
  obtain ⟨a, vs, rfl, e2, e3⟩ := i1
  refine ⟨a, rfl, ⟨vs, SqL.of (R1.sub _ _ e2)⟩, q _ F1 H1 n1 R1 ⟨fun i F H x1 x2 hi => ?_, fun F H x1 x2 => ⟨vs, SqL.of (x2 _ _ (x1 _ _ e2)), by rw [e3.length]; exact Nat.le_refl _⟩⟩⟩
  obtain ⟨v, hv, iv⟩ := IsL.get' e3 (List.getElem?_eq_getElem hi)
  refine ⟨⟨vs, v, SqL.of (x2 _ _ (x1 _ _ e2)), hv⟩, fun x H' y => ?_⟩
  obtain ⟨rfl, y⟩ := y
  have := y vs (SqL.of (x2 _ _ (x1 _ _ e2)))
  rw [hv] at this
  cases this
  exact ⟨F, _, Nx.refl x2, List.getElem?_eq_getElem hi, Is.mono x1 _ iv⟩
theorem iv_rdl (he : EV T X e ss (.rdl xs)) : IV T X tg e ss xs := IV.of (pi_list he) fun B F H σ R R0 q => ev_go R0 fun v F1 H1 n1 R1 i1 => by
  obtain ⟨a, vs, rfl, e2, e3⟩ := i1
  refine ⟨a, rfl, ⟨vs, ext_seqL R1.sub e2⟩, q _ F1 H1 n1 R1 ⟨fun i F H x1 x2 hi => ?_, fun F H x1 x2 => ⟨vs, ext_seqL (x1.trans x2) e2, by rw [e3.length]; exact Nat.le_refl _⟩⟩⟩
  obtain ⟨v, hv, iv⟩ := IsL.get' e3 (List.getElem?_eq_getElem hi)
  refine ⟨⟨vs, v, ext_seqL (x1.trans x2) e2, hv⟩, fun x H' y => ?_⟩
  obtain ⟨rfl, y⟩ := y
  have := y vs (ext_seqL (x1.trans x2) e2)
  rw [hv] at this
  cases this
  exact ⟨F, _, Nx.refl x2, List.getElem?_eq_getElem hi, Is.mono x1 _ iv⟩
theorem iv_tup (he : EV T X e ss (.tup xs)) : IV T X tg e ss xs := IV.of (pi_tup he) fun B F H σ R R0 q => ev_go R0 fun v F1 H1 n1 R1 i1 => by
  obtain ⟨a, vs, rfl, e2, e3⟩ := i1
  refine ⟨a, rfl, ⟨vs, ext_seqT R1.sub e2⟩, q _ F1 H1 n1 R1 ⟨fun i F H x1 x2 hi => ?_, fun F H x1 x2 => ⟨vs, ext_seqT (x1.trans x2) e2, by rw [e3.length]; exact Nat.le_refl _⟩⟩⟩
  obtain ⟨v, hv, iv⟩ := IsL.get' e3 (List.getElem?_eq_getElem hi)
  refine ⟨⟨vs, v, ext_seqT (x1.trans x2) e2, hv⟩, fun x H' y => ?_⟩
  obtain ⟨rfl, y⟩ := y
  have := y vs (ext_seqT (x1.trans x2) e2)
  rw [hv] at this
  cases this
  exact ⟨F, _, Nx.refl x2, List.getElem?_eq_getElem hi, Is.mono x1 _ iv⟩
/-- lo, lo + 1, .. -/
def rng (lo : Int) (n : Nat) : List D := (List.range n).map fun (i : Nat) => D.int (lo + (i : Int))
theorem rng_len (lo : Int) (n : Nat) : (rng lo n).length = n := by simp [rng]
theorem rng_get {lo : Int} {n i : Nat} (h : i < n) : (rng lo n)[i]? = some (.int (lo + (i : Int))) := by
  unfold rng
  rw [List.getElem?_map, List.getElem?_range h]
  rfl
theorem yl_range (K : PySem.W.Frag) (F1 : Hp) (lo : Int) (n : Nat) : Yl T K (Itr lo n) F1 (rng lo n) := by
  refine ⟨fun i F H x1 x2 hi => ?_, fun F H x1 x2 => by show n ≤ _; rw [rng_len]; exact Nat.le_refl _⟩
  rw [rng_len] at hi
  refine ⟨hi, fun x H' y => ?_⟩
  obtain ⟨rfl, rfl⟩ := y
  exact ⟨F, _, Nx.refl x2, rng_get hi, rfl⟩
theorem iv_range1 {a : Expr} {n : Int} {p pos : Pos} (ha : EV T X a ss (.int n)) (hb : -(2 ^ 62) ≤ n ∧ n < 2 ^ 62) (hm : X.mg "range" = none) (hg : Gl X "range" := by rfl) (hs : starEach [a] X.env = [(false, eval a X.env)] := by rfl) :
    IV T X tg (.Call (.Name "range" p) [a] [] pos) ss (rng 0 n.toNat) :=
  IV.of (pi_range1 hg hm (pa_cons ha pa_nil hs) hs) fun B F H σ R R0 q => ev_go R0 fun v F1 H1 n1 R1 i1 => ⟨n, by cases i1; rfl, hb.1, hb.2, q _ F1 H1 n1 R1 (yl_range _ _ _ _)⟩
theorem iv_range2 {a b : Expr} {m n : Int} {p pos : Pos} (ha : EV T X a ss (.int m)) (hb' : EV T X b ss (.int n)) (hb : -(2 ^ 62) ≤ m ∧ m < 2 ^ 62 ∧ -(2 ^ 62) ≤ n ∧ n < 2 ^ 62) (hm : X.mg "range" = none) (hg : Gl X "range" := by rfl)
    (hs : starEach [a, b] X.env = [(false, eval a X.env), (false, eval b X.env)] := by rfl) (hs2 : starEach [b] X.env = [(false, eval b X.env)] := by rfl) :
    IV T X tg (.Call (.Name "range" p) [a, b] [] pos) ss (rng m (n - m).toNat) :=
  IV.of (pi_range2 hg hm (pa_cons ha (pa_cons hb' pa_nil hs2) (by rw [hs, hs2])) hs hs2) fun B F H σ R R0 q => ev_go R0 fun v F1 H1 n1 R1 i1 => ev_go R1 fun u F2 H2 n2 R2 i2 =>
    ⟨m, n, by cases i1; cases i2; rfl, hb, q _ F2 H2 (n1.trans n2) R2 (yl_range _ _ _ _)⟩
/-- a text's signs -/
def signs (x : Str) : List D := x.cps.toList.map fun c => .str ⟨#[c]⟩
theorem iv_str {x : Str} (he : EV T X e ss (.str x)) : IV T X tg e ss (signs x) := IV.of (pi_str he) fun B F H σ R R0 q => ev_go R0 fun v F1 H1 n1 R1 i1 => by
  refine ⟨x, i1, q _ F1 H1 n1 R1 ⟨fun i F H x1 x2 hi => ?_, fun F H x1 x2 => by show _ ≤ _; simp [signs]⟩⟩
  have hi' : i < x.cps.size := by simpa [signs] using hi
  refine ⟨hi', fun y H' z => ?_⟩
  obtain ⟨rfl, c, hc, rfl⟩ := z
  refine ⟨F, .str ⟨#[c]⟩, Nx.refl x2, ?_, rfl⟩
  unfold signs
  rw [List.getElem?_map, Array.getElem?_toList, hc]
  rfl
/-! ### targets -/
inductive Tg where
  | one (j : Nat)
  | many (js : List Nat)
  /-- .. of a list -/
  | manyL (js : List Nat)
def gNames : List Nat → TGs
  | [] => gNil
  | j :: js => gCons (gName j) (gNames js)
def gOf (K : PySem.W.Frag) : Tg → TG
  | .one j => gName j
  | .many js => gTup K js.length (gNames js)
  | .manyL js => gUnl K js.length (gNames js)
def putMany : List Nat → List D → SS → SS
  | j :: js, x :: xs, ss => putMany js xs (ss.set j (.d x))
  | _, _, ss => ss
def Tg.put : Tg → D → SS → SS
  | .one j, x, ss => ss.set j (.d x)
  | .many js, .tup xs, ss => putMany js xs ss
  | .manyL js, .lst xs, ss => putMany js xs ss
  | _, _, ss => ss
def Tg.fits : Tg → D → Bool
  | .one _, _ => true
  | .many js, .tup xs => js.length == xs.length
  | .manyL js, .lst xs => js.length == xs.length
  | _, _ => false
def Tg.slots : Tg → List Nat
  | .one j => [j]
  | .many js => js
  | .manyL js => js
end
section
theorem wipe_get (σ : L2.St) (i : Nat) : ∀ vs : List Nat, (wipe σ vs)[i]? = if i ∈ vs then (σ[i]?).map fun _ => none else σ[i]?
  | [] => by simp [wipe]
  | v :: vs => by
    have ih := wipe_get σ i vs
    unfold wipe
    by_cases e : v = i
    · subst e
      rw [if_pos List.mem_cons_self]
      by_cases h : v < (wipe σ vs).length
      · rw [List.getElem?_set_self h]
        rw [wipe_length] at h
        rw [List.getElem?_eq_getElem h]
        rfl
      · rw [List.getElem?_eq_none (by simpa using h)]
        rw [wipe_length] at h
        rw [List.getElem?_eq_none (by omega)]
        rfl
    · rw [List.getElem?_set_ne e, ih]
      by_cases h : i ∈ vs
      · rw [if_pos h, if_pos (List.mem_cons_of_mem _ h)]
      · rw [if_neg h, if_neg (by simp only [List.mem_cons, not_or]; exact ⟨fun z => e z.symm, h⟩)]
theorem wipe_set {σ : L2.St} {vs : List Nat} {j : Nat} {o : Option V} (h : j ∈ vs) : wipe (σ.set j o) vs = wipe σ vs := by
  apply List.ext_getElem?
  intro i
  rw [wipe_get, wipe_get]
  by_cases e : j = i
  · subst e
    rw [if_pos h, if_pos h]
    by_cases hl : j < σ.length
    · rw [List.getElem?_set_self hl, List.getElem?_eq_getElem hl]; rfl
    · rw [List.getElem?_eq_none (by simpa using hl), List.getElem?_eq_none (by simpa using hl)]
  · rw [List.getElem?_set_ne e]
theorem wipe_wipe {σ : L2.St} {vs : List Nat} : wipe (wipe σ vs) vs = wipe σ vs := by
  apply List.ext_getElem?
  intro i
  rw [wipe_get, wipe_get]
  split
  · rename_i h
    cases σ[i]? <;> rfl
  · rfl
/-- the same of what is known -/
def wipeS (ss : SS) : List Nat → SS
  | [] => ss
  | v :: vs => (wipeS ss vs).set v .no
variable {T : List (Addr × Str)} {K : PySem.W.Frag} {B : Hp × Hp} {F H F1 H1 F2 H2 : Hp} {σ : L2.St} {ss : SS}
theorem StR.wipe (R : StR T K B F H σ ss) : ∀ vs : List Nat, StR T K B F H (L2.wipe σ vs) (wipeS ss vs)
  | [] => R
  | v :: vs => (StR.wipe R vs).forget
theorem names_go : ∀ {js : List Nat} {xs : List D} {vs : List V} {σ : L2.St} {ss : SS} {Q : L2.St → Hp → Prop} {ws : List Nat}, StR T K B F H σ ss → IsL K F xs vs → js.length = xs.length → (∀ j ∈ js, j ∈ ws ∨ ws = []) →
    (∀ σ', StR T K B F H σ' (putMany js xs ss) → (ws ≠ [] → L2.wipe σ' ws = L2.wipe σ ws) → Q σ' H) → gNames js vs σ H Q
  | [], [], _, σ, ss, Q, ws, R, h, _, _, k => by
    cases (show _ = _ from h)
    exact ⟨rfl, k σ R fun _ => rfl⟩
  | j :: js, x :: xs, _, σ, ss, Q, ws, R, h, hl, hw, k => by
    obtain ⟨v, r, rfl, h1, h2⟩ := h
    refine ⟨v, r, rfl, ?_⟩
    show gNames js r (σ.set j (some v)) H Q
    refine names_go (ws := ws) (R.put h1) h2 (by simpa using hl) (fun i hi => hw i (List.mem_cons_of_mem _ hi)) fun σ' R' e => k σ' R' fun hne => ?_
    rw [e hne]
    rcases hw j List.mem_cons_self with q | q
    · exact wipe_set q
    · exact absurd q hne
theorem tg_go {t : Tg} {d : D} {v : V} {Q : L2.St → Hp → Prop} {ws : List Nat} (R : StR T K B F H σ ss) (h : Is K F d v) (hf : t.fits d = true) (hw : ∀ j ∈ t.slots, j ∈ ws ∨ ws = []) (k : ∀ σ', StR T K B F H σ' (t.put d ss) → (ws ≠ [] → L2.wipe σ' ws = L2.wipe σ ws) → Q σ' H) : gOf K t v σ H Q := by
  cases t with
  | one j => exact k _ (R.put h) fun hne => (hw j List.mem_cons_self).elim (fun q => wipe_set q) fun q => absurd q hne
  | many js =>
    cases d with
    | tup xs =>
      obtain ⟨a, vs, rfl, e1, e2⟩ := h
      have hl : js.length = xs.length := by simpa [Tg.fits] using hf
      exact ⟨a, vs, rfl, ext_seqT R.sub e1, by rw [e2.length, hl], names_go R e2 hl hw k⟩
    | _ => cases hf
  | manyL js =>
    cases d with
    | lst xs =>
      obtain ⟨a, vs, rfl, e1, e2⟩ := h
      have hl : js.length = xs.length := by simpa [Tg.fits] using hf
      exact ⟨a, vs, rfl, SqL.of (R.sub _ _ e1), by rw [e2.length, hl], names_go R e2 hl hw k⟩
    | _ => cases hf
end
/-! ### loops -/
section
variable {T : List (Addr × Str)} {X : Cx} {ss : SS} {P : Post} {tg e c : Expr} {body : List Stmt} {xs : List D} {d : D} {pos : Pos}
theorem sv_for (t : Tg) (I : Nat → SS → Prop) (hi : IV T X tg e ss xs) (hg : PG X tg (gOf X.K t)) (h0 : I 0 ss)
    (hs : ∀ i x ss', xs[i]? = some x → I i ss' → t.fits x = true ∧ SVs T X body (t.put x ss') ⟨I (i + 1), P.rt, P.nx, I (i + 1)⟩)
    (hd : ∀ ss', I xs.length ss' → P.nx ss') (hp : PassesOwn (model X.prog X.w) X.A X.env X.xe := by exact PassesOwn.never) (hc : X.calm = true := by rfl) (hf : ∀ x, foldedSetIterable e X.env x = pure x := by intro _; rfl) : SV T X (.For tg e body [] pos) ss P := by
  refine SV.of (ps_for hp hc hi hg (pss_all (T := T) (sts := body)) hf) fun B F H σ Dn R g => ⟨B, F, R, fun J F1 H1 n1 R1 Y => ?_⟩
  refine ⟨fun i m σ' H' => m = xs.length - i ∧ i ≤ xs.length ∧ ∃ F' ss', StR T X.K (F1, B.2) F' H' σ' ss' ∧ I i ss', ⟨xs.length, by simp, Nat.zero_le _, F1, ss, R1.rebase, h0⟩, ?_⟩
  rintro i m σ' H' ⟨rfl, hi', F', ss', R', hI⟩
  by_cases hlt : i < xs.length
  · obtain ⟨go, yl⟩ := Y.item i F' H' R'.bF R'.sub hlt
    refine .inr ⟨go, fun σ2 H2 => ∃ F2 ss2, StR T X.K (F1, B.2) F2 H2 σ2 ss2 ∧ I (i + 1) ss2, fun σ2 H2 ⟨F2, ss2, R2, h2⟩ => ⟨xs.length - (i + 1), by omega, rfl, hlt, F2, ss2, R2, h2⟩, fun v H2 y => ?_⟩
    obtain ⟨F2, x, n2, hx, ix⟩ := yl v H2 y
    obtain ⟨hfit, hbody⟩ := hs i x ss' hx hI
    refine tg_go (ws := []) (R'.grow n2) ix hfit (fun j _ => .inr rfl) fun σ3 R3 _ => ?_
    exact sv_go hbody R3 ⟨fun ss4 σ4 F4 H4 q R4 => ⟨F4, ss4, R4, q⟩, fun d v ss4 σ4 F4 H4 q R4 i4 => g.rt d v ss4 σ4 F4 H4 q (R1.unbase R4) i4, fun ss4 σ4 F4 H4 q R4 => g.nx ss4 σ4 F4 H4 q (R1.unbase R4), fun ss4 σ4 F4 H4 q R4 => ⟨F4, ss4, R4, q⟩⟩
  · have e : i = xs.length := by omega
    subst e
    exact .inl ⟨Y.stop F' H' R'.bF R'.sub, g.nx ss' σ' F' H' (hd ss' hI) (R1.unbase R')⟩
theorem sv_while (I : SS → Prop) (μ : SS → Nat) (h0 : I ss) (hs : ∀ ss', I ss' → ∃ b, TV T X c ss' b ∧ (b = true → SVs T X body ss' ⟨fun s2 => I s2 ∧ μ s2 < μ ss', P.rt, P.nx, fun s2 => I s2 ∧ μ s2 < μ ss'⟩) ∧ (b = false → P.nx ss'))
    (hp : PassesOwn (model X.prog X.w) X.A X.env X.xe := by exact PassesOwn.never) : SV T X (.While c body [] pos) ss P := by
  have hc : PT X c (tTv T X.K fun ss' b => TV T X c ss' b) := pt_fam fun ss' b h => h
  refine SV.of (ps_while hp hc (pss_all (T := T) (sts := body))) fun B F H σ Dn R g => ⟨fun m σ' H' => ∃ F' ss', StR T X.K B F' H' σ' ss' ∧ I ss' ∧ m = μ ss', ⟨_, F, ss, R, h0, rfl⟩, ?_⟩
  rintro m σ' H' ⟨F', ss', R', hI, rfl⟩
  obtain ⟨b, tv, ht, hf⟩ := hs ss' hI
  refine ⟨B, F', ss', b, tv, R', fun F1 H1 n1 R1 => ?_⟩
  cases b with
  | true =>
    refine iteT ⟨fun σ2 H2 => ∃ F2 ss2, StR T X.K B F2 H2 σ2 ss2 ∧ I ss2 ∧ μ ss2 < μ ss', fun σ2 H2 ⟨F2, ss2, R2, h2, l2⟩ => ⟨μ ss2, l2, F2, ss2, R2, h2, rfl⟩, ?_⟩
    exact sv_go (ht rfl) R1 ⟨fun ss4 σ4 F4 H4 q R4 => ⟨F4, ss4, R4, q⟩, g.rt, g.nx, fun ss4 σ4 F4 H4 q R4 => ⟨F4, ss4, R4, q⟩⟩
  | false => exact iteF (g.nx _ _ _ _ (hf rfl) R1)
end
/-! ### comprehensions -/
section
variable {T : List (Addr × Str)} {X : Cx} {ss : SS} {tg e elt : Expr} {ifs : List Expr} {xs : List D} {pos : Pos}
def TsV (T : List (Addr × Str)) (X : Cx) (ifs : List Expr) (ss : SS) (b : Bool) : Prop := PTs X ifs (tTv T X.K fun ss' b' => ss' = ss ∧ b' = b)
theorem PTs.imp {t t' : TT} (h : PTs X ifs t) (k : ∀ σ H Q, t' σ H Q → t σ H Q) : PTs X ifs t' := ⟨fun pins s σ H Q I q => h.run pins s σ H Q I (k σ H Q q)⟩
theorem ts_nil : TsV T X [] ss true := PTs.imp pts_nil fun σ H Q ⟨B, F, ss', b', ⟨e1, e2⟩, R, q⟩ => by subst e1; subst e2; exact q F H R.nx R
theorem ts_one {c : Expr} {b : Bool} (h : TV T X c ss b) : TsV T X [c] ss b := pts_one h
theorem pts_fam {Rl : SS → Bool → Prop} (h : ∀ ss d, Rl ss d → TsV T X ifs ss d) : PTs X ifs (tTv T X.K Rl) := ⟨fun pins s σ H Q I q => by
  obtain ⟨B, F, ss, d, r, R, k⟩ := q
  exact (h ss d r).run pins s σ H Q I ⟨B, F, ss, d, ⟨rfl, rfl⟩, R, k⟩⟩
/-- what the block's items give: keep x, then f x -/
def outs (keep : D → Bool) (f : D → D) (xs : List D) : List D := (xs.filter keep).map f
theorem outs_take {keep : D → Bool} {f : D → D} {xs : List D} {i : Nat} {x : D} (h : xs[i]? = some x) : outs keep f (xs.take (i + 1)) = if keep x = true then outs keep f (xs.take i) ++ [f x] else outs keep f (xs.take i) := by
  have e : xs.take (i + 1) = xs.take i ++ [x] := by
    rw [List.take_succ, h]; rfl
  unfold outs
  rw [e, List.filter_append, List.map_append]
  by_cases hk : keep x = true
  · rw [if_pos hk, List.filter_cons, if_pos hk]; rfl
  · rw [if_neg hk, List.filter_cons, if_neg hk]
    simp
theorem outs_len (keep : D → Bool) (f : D → D) (xs : List D) : (outs keep f xs).length ≤ xs.length := by
  unfold outs
  rw [List.length_map]
  exact List.length_filter_le _ _
/-- the reading's proof, for the value and for the store -/
theorem lc_go {K : PySem.W.Frag} {B : Hp × Hp} {F H : Hp} {σ : L2.St} {vs : List Nat} {t : Tg} {keep : D → Bool} {f : D → D} {Q : VK} (hv : vs ≠ []) (ht : ∀ j ∈ t.slots, j ∈ vs) (hfit : ∀ x ∈ xs, t.fits x = true) (hlen : xs.length ≤ 100000) (R : StR T K B F H σ ss)
    (q : ∀ D vs' F1 H1, Nx T F H F1 H1 → StR T K B F1 H1 σ ss → F1 D = none → Fr B.2 D → Fr H D → H1 D = some (.lst vs') → IsL K F1 (outs keep f xs) vs' → Q (.ref D) H1) :
    tLc (tIv T K ss xs) (gOf K t) (tTv T K fun ss' b => ∃ x ∈ xs, ss' = t.put x (wipeS ss vs) ∧ b = keep x) (tEv T K fun ss' d => ∃ x ∈ xs, keep x = true ∧ ss' = t.put x (wipeS ss vs) ∧ d = f x) vs σ H Q := by
  refine ⟨B, F, R, fun J F1 H1 n1 R1 Y D hD => ?_⟩
  have HD : Fr H D := n1.h.ff hD
  refine ⟨fun i m H' => m = xs.length - i ∧ i ≤ xs.length ∧ ∃ F' acc, Nx T F1 H1 F' H' ∧ F' D = none ∧ H' D = some (.lst acc) ∧ IsL K F' (outs keep f (xs.take i)) acc, ⟨xs.length, by simp, Nat.zero_le _, F1, [], Nx.allocH R1.sub hD, R1.free hD, upd_same, by simp [outs]; exact rfl⟩, ?_⟩
  rintro i m H' ⟨rfl, hi', F', acc, n2, fD, eD, hacc⟩
  by_cases hlt : i < xs.length
  · obtain ⟨go, yl⟩ := Y.item i F' H' n2.f n2.s hlt
    refine .inr ⟨go, fun H2 => ∃ F2 acc', Nx T F1 H1 F2 H2 ∧ F2 D = none ∧ H2 D = some (.lst acc') ∧ IsL K F2 (outs keep f (xs.take (i + 1))) acc', fun H2 ⟨F2, acc', h⟩ => ⟨xs.length - (i + 1), by omega, rfl, hlt, F2, acc', h⟩, fun v H2 y => ?_⟩
    obtain ⟨F2, x, n3, hx, ix⟩ := yl v H2 y
    have hmem : x ∈ xs := List.mem_of_getElem? hx
    have noD : ∀ {Fa Ha Fb Hb : Hp}, Nx T Fa Ha Fb Hb → Fa D = none → ∀ {o : HO}, Ha D = some o → (∀ ps, o ≠ .tbl ps) → (∀ xs, o ≠ .tup xs) → Fb D = none := fun {Fa Ha Fb Hb} n e1 o e2 e3 e4 => by
      cases e : Fb D with
      | none => rfl
      | some u =>
        rcases n.n D u e with z | z
        · exact absurd e1 z
        · exact z.no e2 e3 e4
    have fD2 : F2 D = none := noD n3 fD eD (fun _ z => nomatch z) (fun _ z => nomatch z)
    have n12 := n2.trans n3
    have eD2 := n3.h.k _ _ eD (fun _ z => nomatch z)
    have R2 : StR T K B F2 H2 (L2.wipe σ vs) (wipeS ss vs) := (R1.wipe vs).grow n12
    refine tg_go (ws := vs) R2 ix (hfit x hmem) (fun j hj => .inl (ht j hj)) fun σ3 R3 hw => ⟨by rw [hw hv, wipe_wipe], ?_⟩
    refine ⟨B, F2, _, keep x, ⟨x, hmem, rfl, rfl⟩, R3, fun F3 H3 n4 R4 => ?_⟩
    have fD3 : F3 D = none := noD n4 fD2 eD2 (fun _ z => nomatch z) (fun _ z => nomatch z)
    have eD3 := n4.h.k _ _ eD2 (fun _ z => nomatch z)
    have n13 := n12.trans n4
    have hacc3 := IsL.mono (n3.f.trans n4.f) _ hacc
    cases hk : keep x with
    | true =>
      refine iteT ⟨B, F3, _, f x, ⟨x, hmem, hk, rfl, rfl⟩, R4, fun w F4 H4 n5 R5 i5 => ?_⟩
      have fD4 : F4 D = none := noD n5 fD3 eD3 (fun _ z => nomatch z) (fun _ z => nomatch z)
      have n14 := n13.trans n5
      refine ⟨acc, n5.h.k _ _ eD3 (fun _ z => nomatch z), ?_, F4, acc ++ [w], ⟨n14.f, ⟨fun p o e nn => ?_, fun t => tabs_upd (n14.h.t t) fun o' e z => ?_⟩, fun p o e => ?_, n14.nt, fun p o e => n14.n p o e⟩, fD4, upd_same, ?_⟩
      · have := hacc.length
        have h2 := outs_len keep f (xs.take i)
        rw [List.length_take] at h2
        rw [sizeLine_eq]; omega
      · rw [upd_ne (ne_of_none e hD)]; exact n14.h.k p o e nn
      · rw [n5.h.k _ _ eD3 (fun _ z => nomatch z)] at e
        cases e
        rcases z with ⟨_, z⟩ | ⟨_, _, z⟩ <;> cases z
      · rw [upd_ne (ne_of_none e fD4)]; exact n14.s p o e
      · rw [outs_take hx, if_pos hk]
        exact (IsL.mono n5.f _ hacc3).snoc i5
    | false =>
      refine iteF ⟨F3, acc, n13, fD3, eD3, ?_⟩
      rw [outs_take hx, if_neg (by rw [hk]; decide)]
      exact hacc3
  · have e : i = xs.length := by omega
    subst e
    refine .inl ⟨Y.stop F' H' n2.f n2.s, q D acc F' H' (n1.trans n2) (R1.grow n2) fD ?_ HD eD ?_⟩
    · exact R.base_fr HD
    · rw [List.take_length] at hacc
      exact hacc
theorem Nx.told {F H F1 H1 : Hp} {D : Addr} {o : HO} (n : Nx T F H F1 H1) (h1 : F1 D = none) (h2 : Fr H D) (h3 : H1 D = some o) (ho : ∀ ps, o ≠ .tbl ps := by intro ps z; cases z) : Nx T F H (upd F1 D o) H1 where
  f := n.f.trans (Ext.upd h1)
  h := n.h
  s := fun p u e => by
    by_cases q : p = D
    · subst q; rw [upd_same] at e; rw [h3]; exact e
    · rw [upd_ne q] at e; exact n.s p u e
  nt := fun p ps e => by
    by_cases q : p = D
    · subst q; rw [upd_same] at e; exact absurd (Option.some.inj e) (ho ps)
    · rw [upd_ne q] at e; exact n.nt p ps e
  n := fun p u e => by
    by_cases q : p = D
    · subst q; exact .inr (.inl h2)
    · rw [upd_ne q] at e; exact n.n p u e
/-- [elt for target in iter if ..] -/
theorem ev_lc {scope : Scope} (own : List (Str × Nat)) (t : Tg) (keep : D → Bool) (f : D → D) (hi : IV T X tg e ss xs) (ok : BlkOk X.N X.env.scope scope own)
    (hg : ∀ (s : Shared) (H : Hp) (C : Addr) (cl : List (Str × Addr)) (fp : List Addr), PG (X.blk s H scope (compEnvC scope cl C X.env) fp) tg (gOf X.K t))
    (ht : ∀ (s : Shared) (H : Hp) (C : Addr) (cl : List (Str × Addr)) (fp : List Addr) x, x ∈ xs → TsV T (X.blk s H scope (compEnvC scope cl C X.env) fp) ifs (t.put x (wipeS ss (own.map (·.2)))) (keep x))
    (he : ∀ (s : Shared) (H : Hp) (C : Addr) (cl : List (Str × Addr)) (fp : List Addr) x, x ∈ xs → keep x = true → EV T (X.blk s H scope (compEnvC scope cl C X.env) fp) elt (t.put x (wipeS ss (own.map (·.2)))) (f x))
    (hN : X.N.Nodup) (hfit : ∀ x ∈ xs, t.fits x = true) (hlen : xs.length ≤ 100000) (hv : own.map (·.2) ≠ [] := by decide) (hsl : ∀ j ∈ t.slots, j ∈ own.map (·.2) := by decide) (hc : X.calm = true := by rfl) (hs : ∀ x, foldedSetIterable e X.env x = pure x := by intro _; rfl) :
    EV T X (.ListComp elt [⟨tg, e, ifs, 0⟩] scope pos) ss (.lst (outs keep f xs)) := by
  refine EV.of (pe_lc (tt := tTv T X.K fun ss' b => ∃ x ∈ xs, ss' = t.put x (wipeS ss (own.map (·.2))) ∧ b = keep x) (te := tEv T X.K fun ss' d => ∃ x ∈ xs, keep x = true ∧ ss' = t.put x (wipeS ss (own.map (·.2))) ∧ d = f x) hc hN hi ok hg (fun s H C cl fp => pts_fam (X := X.blk s H scope (compEnvC scope cl C X.env) fp) (Rl := fun ss' b => ∃ x ∈ xs, ss' = t.put x (wipeS ss (own.map (·.2))) ∧ b = keep x) fun ss' b ⟨x, hx, e1, e2⟩ => by rw [e1, e2]; exact ht s H C cl fp x hx)
    (fun s H C cl fp => pe_fam (X := X.blk s H scope (compEnvC scope cl C X.env) fp) (Rl := fun ss' d => ∃ x ∈ xs, keep x = true ∧ ss' = t.put x (wipeS ss (own.map (·.2))) ∧ d = f x) fun ss' d ⟨x, hx, hk, e1, e2⟩ => by rw [e1, e2]; exact he s H C cl fp x hx hk) hs) fun B F H σ Q R q => ?_
  exact lc_go hv hsl hfit hlen R fun D vs' F1 H1 n1 R1 f1 b1 h1 d1 i1 => by
    have n2 := n1.told f1 h1 d1
    exact q _ _ H1 n2 (R.grow n2) ⟨D, vs', rfl, upd_same, IsL.mono (Ext.upd f1) _ i1⟩
end
end Fd

set_option Elab.async false
set_option linter.all false
set_option maxRecDepth 100000
set_option maxHeartbeats 2000000
/-! Fd4: defs by what they make of data; objects; built-in functions. -/
namespace Fd
open PySem PySem.Spec PyProof.Rows L2
/-! ### defs -/
/-- a def that hands back, of the data ds, the datum d, wherever pre ds d -/
def spD (T : List (Addr × Str)) (K : PySem.W.Frag) (n : Nat) (pre : List D → D → Prop) : Sp := fun vs H Q _ => ∃ F ds d, Ext F H ∧ (∀ p ps, F p ≠ some (.tbl ps)) ∧ LamX.Tabs T H ∧ IsL K F ds vs ∧ ds.length = n ∧ pre ds d ∧ ∀ v F1 H1, Nx T F H F1 H1 → Is K F1 d v → Q v H1
/-- the def under the module's name x (level k, n parameters) -/
def FD (T : List (Addr × Str)) (P : Program) (w : World) (K : PySem.W.Frag) (mg : Str → Option Value) (base : Heap) (x : Str) (n k : Nat) (pre : List D → D → Prop) : Prop :=
  ∃ f fd ps, mg x = some (.ref f) ∧ PySem.W.keepIn K (.ref f) = true ∧ Binds K fd ps [] ∧ ps.length = n ∧ FnOk P w K mg base CX0 k f fd ps (spD T K n pre)
def startS (N : List Str) (ds : List D) : SS := ds.map S.d ++ List.replicate (N.length - ds.length) S.no
abbrev bodyX (CX : CXT) (P : Program) (w : World) (K : PySem.W.Frag) (mg : Str → Option Value) (base : Heap) (N : List Str) (qual : Str) (st : Stmt) (f : Addr) (cdv : Value) (A : Around) (outer : List Env) (s : Shared) (H : Hp) (E : XK) : Cx :=
  (cxOf CX P w K mg base N qual (defScope st) f cdv A outer s H E).nox
section
variable {T : List (Addr × Str)} {P : Program} {w : World} {K : PySem.W.Frag} {mg : Str → Option Value} {base : Heap}
theorem start_slots {N : List Str} {F H : Hp} : ∀ {ds : List D} {vs : List V} (m : Nat) (i : Nat) (s : S) (o : Option V), IsL K F ds vs → (ds.map S.d ++ List.replicate m S.no)[i]? = some s → (vs.map some ++ List.replicate m none)[i]? = some o → SlotIs K F H s o
  | [], _, m, i, s, o, h, e1, e2 => by
    cases (show _ = _ from h)
    simp only [List.map_nil, List.nil_append] at e1 e2
    have : s = S.no := by
      rw [List.getElem?_replicate] at e1
      split at e1 <;> simp at e1
      exact e1.symm
    subst this
    exact True.intro
  | x :: xs, _, m, 0, s, o, h, e1, e2 => by
    obtain ⟨v, r, rfl, h1, _⟩ := h
    simp at e1 e2
    subst e1; subst e2
    exact ⟨v, rfl, h1⟩
  | x :: xs, _, m, i + 1, s, o, h, e1, e2 => by
    obtain ⟨v, r, rfl, _, h⟩ := h
    simp only [List.map_cons, List.cons_append, List.getElem?_cons_succ] at e1 e2
    exact start_slots (N := N) m i s o h e1 e2
theorem start_mine {ds : List D} {m i : Nat} {s : S} (h : (ds.map S.d ++ List.replicate m S.no)[i]? = some s) : s.mine = false := by
  have := List.mem_of_getElem? h
  rcases List.mem_append.mp this with q | q
  · obtain ⟨x, _, rfl⟩ := List.mem_map.mp q; rfl
  · rw [(List.mem_replicate.mp q).2]; rfl
theorem start_str {N : List Str} {F H : Hp} {ds : List D} {vs : List V} (x : Ext F H) (nt : ∀ p ps, F p ≠ some (.tbl ps)) (tb : LamX.Tabs T H) (h : IsL K F ds vs) : StR T K (F, H) F H (L2.start N vs) (startS N ds) where
  len := by unfold L2.start startS; simp [h.length]
  bF := fun _ _ h => h
  bH := .refl H
  sub := x
  nt := nt
  tb := tb
  new := fun p o e => .inl (by show F p ≠ none; rw [e]; exact fun z => nomatch z)
  slots := fun i s o e1 e2 => by
    unfold L2.start at e2
    unfold startS at e1
    rw [h.length] at e2
    exact start_slots (N := N) _ i s o h e1 e2
  own := fun i s p e1 m _ => by
    unfold startS at e1
    rw [start_mine e1] at m; cases m
  dis := fun i j s t p e1 _ m _ _ _ => by
    unfold startS at e1
    rw [start_mine e1] at m; cases m
theorem StR.back {B : Hp × Hp} {F H : Hp} {σ : L2.St} {ss : SS} (R : StR T K B F H σ ss) : Nx T B.1 B.2 F H := ⟨R.bF, R.bH, R.sub, fun p ps e => absurd e (R.nt p ps), fun p o e => R.new p o e⟩
/-- THE RULE for a def -/
theorem fd_ok {x qual : Str} {st : Stmt} {f : Addr} {fd : FuncData} {N ps : List Str} {k n : Nat} {pre : List D → D → Prop} (F : Fun K x qual st f fd) (S : FnScope N ps (defScope st)) (hn : ps.length = n)
    (h : ∀ (cdv : Value) (A : Around) (outer : List Env) (s : Shared) (H : Hp) (E : XK) (ds : List D) (d : D), Room k (A.deeper (envOfC qual (defScope st) s.heap.objs.size f cdv)) → ds.length = n → pre ds d →
      SVs T (bodyX CX0 P w K mg base N qual st f cdv A outer s H E) (defBody st) (startS N ds) { nx := fun _ => d = .non, rt := fun d' => d' = d }) : FnOk P w K mg base CX0 (k + 1) f fd ps (spD T K n pre) := by
  refine F.ok S (fun vs H Q E ⟨F, ds, d, _, _, _, i, l, _⟩ => by rw [i.length, l, hn]) (fun cdv A outer s H vs Q E hr hsp => ?_)
  obtain ⟨F0, ds, d, x, nt, tb, i, l, p, q⟩ := hsp
  refine ⟨_, h cdv A outer s H E ds d hr l p, (F0, H), F0, _, _, ⟨rfl, rfl⟩, start_str x nt tb i, fun ss' σ' F1 H1 e R1 => ?_, fun d' v ss' σ' F1 H1 e R1 i1 => ?_, fun _ _ _ _ z => z.elim, fun _ _ _ _ z => z.elim⟩
  · subst e
    exact q .non F1 H1 R1.back rfl
  · subst e
    exact q v F1 H1 R1.back i1
theorem FD.mk {x : Str} {f : Addr} {fd : FuncData} {ps : List Str} {n k : Nat} {pre : List D → D → Prop} (h1 : mg x = some (.ref f)) (h2 : PySem.W.keepIn K (.ref f) = true) (h3 : Binds K fd ps []) (h4 : ps.length = n) (h5 : FnOk P w K mg base CX0 k f fd ps (spD T K n pre)) : FD T P w K mg base x n k pre :=
  ⟨f, fd, ps, h1, h2, h3, h4, h5⟩
end
section
variable {T : List (Addr × Str)} {X : Cx} {ss : SS} {e a b c o : Expr} {es : List Expr} {d : D} {ds : List D} {x m : Str} {p pos apos : Pos} {n k : Nat} {pre : List D → D → Prop}
/-- f(..) -/
theorem ev_call (G : FD T X.prog X.w X.K X.mg X.base x n k pre) (hr : Room k X.A) (ha : EVs T X (e :: es) ss ds) (hp : pre ds d) (hn : ds.length = n := by rfl) (hg : Gl X x := by rfl) (hdb : (x == ("__debug__" : Str)) = false := by decide)
    (he : starEach (e :: es) X.env = (false, eval e X.env) :: starEach es X.env := by rfl) (hpl : (backTo pos (starEach es X.env)).any (·.1) = false := by rfl) : EV T X (.Call (.Name x p) (e :: es) [] pos) ss d := by
  obtain ⟨f, fd, ps, h1, h2, h3, h4, h5⟩ := G
  refine EV.of (pe_call h5 hr hg h1 h2 h3 .nil pass0 ha hdb he hpl) fun B F H σ Q R q => evs_go R fun vs F1 H1 n1 R1 i1 => ?_
  show spD T X.K n pre (vs ++ []) H1 Q E0
  rw [List.append_nil]
  exact ⟨F1, ds, d, R1.sub, R1.nt, R1.tb, i1, hn, hp, fun v F2 H2 n2 i2 => q v F2 H2 (n1.trans n2) (R1.grow n2) i2⟩
theorem ev_call0 (G : FD T X.prog X.w X.K X.mg X.base x 0 k pre) (hr : Room k X.A) (hp : pre [] d) (hg : Gl X x := by rfl) (hdb : (x == ("__debug__" : Str)) = false := by decide) : EV T X (.Call (.Name x p) [] [] pos) ss d := by
  obtain ⟨f, fd, ps, h1, h2, h3, h4, h5⟩ := G
  refine EV.of (pe_call0 h5 hr hg h1 h2 h3 .nil pass0 hdb) fun B F H σ Q R q => ?_
  show spD T X.K 0 pre ([] ++ []) H Q E0
  exact ⟨F, [], d, R.sub, R.nt, R.tb, rfl, rfl, hp, fun v F2 H2 n2 i2 => q v F2 H2 n2 (R.grow n2) i2⟩
/-- o.f -/
theorem ev_fld {C : Addr} {ns : List Str} {xs : List D} {f : Str} (he : EV T X o ss (.ins C ns xs)) (cl : Cls X.K C) (na : NoAttr X.K C f) (i : Nat) (hn : ns[i]? = some f) (hx : xs[i]? = some d) (nd : ns.Nodup)
    (hb : attributeBase o f X.env (eval o X.env) = eval o X.env := by rfl) : EV T X (.Attribute o f pos) ss d :=
  EV.of (pe_fld he hb) fun B F H σ Q R q => ev_go R fun v F1 H1 n1 R1 i1 => by
    obtain ⟨a, dx, fs, rfl, e1, e2, e3⟩ := i1
    obtain ⟨w, hw, iw⟩ := IsL.get' e3 hx
    refine ⟨a, C, dx, fs, w, rfl, R1.sub _ _ e1, cl, na, ?_, q w F1 H1 n1 R1 iw⟩
    have look : ∀ {l : List (Str × V)} {j : Nat}, (l.map (·.1)).Nodup → (l.map (·.1))[j]? = some f → (l.map (·.2))[j]? = some w → l.lookup f = some w := by
      intro l
      induction l with
      | nil => intro j _ h; simp at h
      | cons y r ih =>
        intro j nd h1 h2
        cases j with
        | zero =>
          simp at h1 h2
          subst h1; subst h2
          simp [List.lookup]
        | succ j =>
          simp at h1 h2
          have nd' : (y.1 :: r.map (·.1)).Nodup := nd
          obtain ⟨n1, n2⟩ := List.nodup_cons.mp nd'
          have ne : ¬ f = y.1 := fun z => n1 (by rw [← z]; exact List.mem_of_getElem? (l := r.map (·.1)) (by simpa using h1))
          have hb : (f == y.1) = false := beq_eq_false_iff_ne.mpr ne
          simp only [List.lookup, hb]
          exact ih n2 (by simpa using h1) (by simpa using h2)
    subst e2
    exact look nd hn hw
/-! built-in functions -/
theorem ev_blt {id : String} {r : List V → Hp → VK → Prop} (hc : CallR X (.builtin id) r) (ha : EVs T X (e :: es) ss ds) (hm : X.mg x = none) (hv : bootBuiltins x = some (.builtin id))
    (k : ∀ B F H σ vs Q, StR T X.K B F H σ ss → IsL X.K F ds vs → (∀ z F1 H1, Nx T F H F1 H1 → StR T X.K B F1 H1 σ ss → Is X.K F1 d z → Q z H1) → r vs H Q) (hg : Gl X x := by rfl) (hn : x ≠ "__name__" := by decide) (hdb : (x == ("__debug__" : Str)) = false := by decide)
    (he : starEach (e :: es) X.env = (false, eval e X.env) :: starEach es X.env := by rfl) (hpl : (backTo pos (starEach es X.env)).any (·.1) = false := by rfl) : EV T X (.Call (.Name x p) (e :: es) [] pos) ss d :=
  EV.of (pe_callB hc hg hm hv ha hn hdb he hpl) fun B F H σ Q R q => evs_go R fun vs F1 H1 n1 R1 i1 => k B F1 H1 σ vs Q R1 i1 fun z F2 H2 n2 R2 i2 => q z F2 H2 (n1.trans n2) R2 i2
theorem ev_bty {tn : String} {r : List V → Hp → VK → Prop} (hc : CallR X (.type tn) r) (ha : EVs T X (e :: es) ss ds) (hm : X.mg x = none) (hv : bootBuiltins x = some (.type tn))
    (k : ∀ B F H σ vs Q, StR T X.K B F H σ ss → IsL X.K F ds vs → (∀ z F1 H1, Nx T F H F1 H1 → StR T X.K B F1 H1 σ ss → Is X.K F1 d z → Q z H1) → r vs H Q) (hg : Gl X x := by rfl) (hn : x ≠ "__name__" := by decide) (hdb : (x == ("__debug__" : Str)) = false := by decide)
    (he : starEach (e :: es) X.env = (false, eval e X.env) :: starEach es X.env := by rfl) (hpl : (backTo pos (starEach es X.env)).any (·.1) = false := by rfl) : EV T X (.Call (.Name x p) (e :: es) [] pos) ss d :=
  EV.of (pe_callTy hc hg hm hv ha hn hdb he hpl) fun B F H σ Q R q => evs_go R fun vs F1 H1 n1 R1 i1 => k B F1 H1 σ vs Q R1 i1 fun z F2 H2 n2 R2 i2 => q z F2 H2 (n1.trans n2) R2 i2
/-- f(..), f a module's name for a built-in function -/
theorem ev_blf {id : String} {r : List V → Hp → VK → Prop} (hc : CallR X (.builtin id) r) (ha : EVs T X (e :: es) ss ds) (hm : X.mg x = some (.builtin id))
    (k : ∀ B F H σ vs Q, StR T X.K B F H σ ss → IsL X.K F ds vs → (∀ z F1 H1, Nx T F H F1 H1 → StR T X.K B F1 H1 σ ss → Is X.K F1 d z → Q z H1) → r vs H Q) (hg : Gl X x := by rfl) (hdb : (x == ("__debug__" : Str)) = false := by decide)
    (he : starEach (e :: es) X.env = (false, eval e X.env) :: starEach es X.env := by rfl) (hpl : (backTo pos (starEach es X.env)).any (·.1) = false := by rfl) : EV T X (.Call (.Name x p) (e :: es) [] pos) ss d :=
  EV.of (pe_callBfun hc hg hm ha hdb he hpl) fun B F H σ Q R q => evs_go R fun vs F1 H1 n1 R1 i1 => k B F1 H1 σ vs Q R1 i1 fun z F2 H2 n2 R2 i2 => q z F2 H2 (n1.trans n2) R2 i2
theorem isL1 {K : PySem.W.Frag} {F : Hp} {x : D} {vs : List V} (h : IsL K F [x] vs) : ∃ v, vs = [v] ∧ Is K F x v := by
  obtain ⟨v, r, rfl, h1, h2⟩ := h
  cases (show _ = _ from h2)
  exact ⟨v, rfl, h1⟩
theorem isL2 {K : PySem.W.Frag} {F : Hp} {x y : D} {vs : List V} (h : IsL K F [x, y] vs) : ∃ v w, vs = [v, w] ∧ Is K F x v ∧ Is K F y w := by
  obtain ⟨v, r, rfl, h1, h2⟩ := h
  obtain ⟨w, rfl, h3⟩ := isL1 h2
  exact ⟨v, w, rfl, h1, h3⟩
theorem ev_abs {i : Int} (ha : EV T X e ss (.int i)) (hm : X.mg "abs" = none) (hg : Gl X "abs" := by rfl) (he : starEach [e] X.env = [(false, eval e X.env)] := by rfl) : EV T X (.Call (.Name "abs" p) [e] [] pos) ss (.int (if i < 0 then -i else i)) :=
  ev_blt call_abs (evs_cons ha evs_nil he) hm (by decide +kernel) (fun B F H σ vs Q R i1 q => by
    obtain ⟨v, rfl, h⟩ := isL1 i1
    cases h
    exact ⟨i, rfl, q _ F H R.nx R rfl⟩) hg (he := he)
theorem ev_int1 {i : Int} (ha : EV T X e ss (.int i)) (hm : X.mg "int" = none) (hg : Gl X "int" := by rfl) (he : starEach [e] X.env = [(false, eval e X.env)] := by rfl) : EV T X (.Call (.Name "int" p) [e] [] pos) ss (.int i) :=
  ev_bty call_int1 (evs_cons ha evs_nil he) hm (by decide +kernel) (fun B F H σ vs Q R i1 q => by
    obtain ⟨v, rfl, h⟩ := isL1 i1
    cases h
    exact .inl ⟨i, rfl, q _ F H R.nx R rfl⟩) hg (he := he)
theorem ev_strI {i : Int} (hz : i.natAbs.log2 < 1920) (ha : EV T X e ss (.int i)) (hm : X.mg "str" = none) (hg : Gl X "str" := by rfl) (he : starEach [e] X.env = [(false, eval e X.env)] := by rfl) : EV T X (.Call (.Name "str" p) [e] [] pos) ss (.str (toString i)) :=
  ev_bty call_str_int (evs_cons ha evs_nil he) hm (by decide +kernel) (fun B F H σ vs Q R i1 q => by
    obtain ⟨v, rfl, h⟩ := isL1 i1
    cases h
    exact ⟨i, rfl, hz, q _ F H R.nx R rfl⟩) hg (he := he)
theorem ev_gcd {i j : Int} (ha : EV T X a ss (.int i)) (hb : EV T X b ss (.int j)) (hm : X.mg x = some (.builtin "math.gcd")) (hg : Gl X x := by rfl) (hdb : (x == ("__debug__" : Str)) = false := by decide) (he : starEach [a, b] X.env = (false, eval a X.env) :: starEach [b] X.env := by rfl) (he2 : starEach [b] X.env = [(false, eval b X.env)] := by rfl) (hpl : (backTo pos (starEach [b] X.env)).any (·.1) = false := by rfl) :
    EV T X (.Call (.Name x p) [a, b] [] pos) ss (.int ((Nat.gcd i.natAbs j.natAbs : Nat) : Int)) :=
  ev_blf cr_gcd (evs_cons ha (evs_cons hb evs_nil he2) he) hm (fun B F H σ vs Q R i1 q => by
    obtain ⟨v, w, rfl, h, h2⟩ := isL2 i1
    cases h; cases h2
    exact ⟨i, j, rfl, q _ F H R.nx R rfl⟩) hg hdb he hpl
/-- len of a list, a tuple, a text -/
def D.len : D → Option Nat
  | .lst xs => some xs.length
  | .rdl xs => some xs.length
  | .tup xs => some xs.length
  | .str x => if x.length ≤ sizeLine then some x.length else none
  | _ => none
theorem ev_len {y : D} {n : Nat} (h : y.len = some n) (ha : EV T X e ss y) (hm : X.mg "len" = none) (hg : Gl X "len" := by rfl) (he : starEach [e] X.env = [(false, eval e X.env)] := by rfl) : EV T X (.Call (.Name "len" p) [e] [] pos) ss (.int n) :=
  ev_blt call_len (evs_cons ha evs_nil he) hm PySem.boot_len (fun B F H σ vs Q R i1 q => by
    obtain ⟨v, rfl, i⟩ := isL1 i1
    refine ⟨v, n, rfl, ?_, q _ F H R.nx R rfl⟩
    cases y with
    | lst xs =>
      obtain ⟨a, us, rfl, e1, e2⟩ := i
      have : xs.length = n := Option.some.inj h
      exact .inl ⟨us, SqL.of (R.sub _ _ e1), by rw [e2.length, this]⟩
    | rdl xs =>
      obtain ⟨a, us, rfl, e1, e2⟩ := i
      have : xs.length = n := Option.some.inj h
      exact .inl ⟨us, ext_seqL R.sub e1, by rw [e2.length, this]⟩
    | tup xs =>
      obtain ⟨a, us, rfl, e1, e2⟩ := i
      have : xs.length = n := Option.some.inj h
      exact .inr ⟨us, ext_seqT R.sub e1, by rw [e2.length, this]⟩
    | str z =>
      cases i
      have h' : (if z.length ≤ sizeLine then some z.length else none) = some n := h
      split at h'
      · cases h'; exact ⟨by assumption, rfl⟩
      · cases h'
    | _ => cases h) hg (he := he)
/-- % and // by great divisors, * of great ints -/
theorem ev_mul {i j : Int} (hc : CMul i j) (ha : EV T X a ss (.int i)) (hb : EV T X b ss (.int j)) : EV T X (.BinOp a .Mult b pos) ss (.int (i * j)) :=
  ev_op op_mul ha hb fun B F H σ v u Q R i1 i2 q => ⟨i, j, i1, i2, hc, q _ F H R.nx R rfl⟩
theorem ev_mulW {i j : Int} (hc : CMulW i j) (ha : EV T X a ss (.int i)) (hb : EV T X b ss (.int j)) : EV T X (.BinOp a .Mult b pos) ss (.int (i * j)) :=
  ev_op op_mulW ha hb fun B F H σ v u Q R i1 i2 q => ⟨i, j, i1, i2, hc, q _ F H R.nx R rfl⟩
theorem ev_fdivW {i j : Int} (hc : CDivW i j) (ha : EV T X a ss (.int i)) (hb : EV T X b ss (.int j)) : EV T X (.BinOp a .FloorDiv b pos) ss (.int (i / j)) :=
  ev_op op_fdivW ha hb fun B F H σ v u Q R i1 i2 q => ⟨i, j, i1, i2, hc, q _ F H R.nx R rfl⟩
/-! a if t else b, and, or -/
theorem ev_if {t : Bool} (hc : TV T X c ss t) (h1 : t = true → EV T X a ss d) (h2 : t = false → EV T X b ss d) : EV T X (.IfExp c a b pos) ss d := by
  have p1 : PE X a (tEv T X.K fun ss' d' => EV T X a ss' d') := pe_fam fun _ _ h => h
  have p2 : PE X b (tEv T X.K fun ss' d' => EV T X b ss' d') := pe_fam fun _ _ h => h
  refine EV.of (pe_ifExp hc p1 p2) fun B F H σ Q R q => tv_go R fun F1 H1 n1 R1 => ?_
  cases t with
  | true => exact iteT ⟨B, F1, ss, d, h1 rfl, R1, fun v F2 H2 n2 R2 i2 => q v F2 H2 (n1.trans n2) R2 i2⟩
  | false => exact iteF ⟨B, F1, ss, d, h2 rfl, R1, fun v F2 H2 n2 R2 i2 => q v F2 H2 (n1.trans n2) R2 i2⟩
theorem tv_if {t u : Bool} {e : Expr} (h : EV T X (.IfExp c a b pos) ss (.bl u)) (he : ∀ whole, isTrue (.IfExp c a b pos) X.env whole = (do let v ← whole; standAt (Expr.IfExp c a b pos).pos; holding [v] (truthy v)) := by intro _; rfl) : TV T X (.IfExp c a b pos) ss u := tv_of h he
theorem ev_not {t : Bool} (h : EV T X a ss (.bl t)) : EV T X (.UnaryOp .Not a pos) ss (.bl (!t)) :=
  EV.of (pe_not h) fun B F H σ Q R q => ev_go R fun v F1 H1 n1 R1 i1 => ⟨t, i1, q _ F1 H1 n1 R1 rfl⟩
theorem ev_one {op} {d : D} (h : EV T X a ss d) : EV T X (.BoolOp op [a] pos) ss d := pe_one h
theorem ev_andB {t u : Bool} (h : EV T X a ss (.bl t)) (g : t = true → EV T X (.BoolOp .And (b :: es) pos) ss (.bl u)) : EV T X (.BoolOp .And (a :: b :: es) pos) ss (.bl (t && u)) := by
  have p2 : PE X (.BoolOp .And (b :: es) pos) (tEv T X.K fun ss' d' => EV T X (.BoolOp .And (b :: es) pos) ss' d') := pe_fam fun _ _ h => h
  refine EV.of (pe_and h p2) fun B F H σ Q R q => ev_go R fun v F1 H1 n1 R1 i1 => ⟨t, i1, ?_⟩
  cases t with
  | true => exact iteT ⟨B, F1, ss, .bl u, g rfl, R1, fun v F2 H2 n2 R2 i2 => q v F2 H2 (n1.trans n2) R2 i2⟩
  | false => exact iteF (q _ F1 H1 n1 R1 rfl)
theorem ev_orB {t u : Bool} (h : EV T X a ss (.bl t)) (g : t = false → EV T X (.BoolOp .Or (b :: es) pos) ss (.bl u)) : EV T X (.BoolOp .Or (a :: b :: es) pos) ss (.bl (t || u)) := by
  have p2 : PE X (.BoolOp .Or (b :: es) pos) (tEv T X.K fun ss' d' => EV T X (.BoolOp .Or (b :: es) pos) ss' d') := pe_fam fun _ _ h => h
  refine EV.of (pe_or h p2) fun B F H σ Q R q => ev_go R fun v F1 H1 n1 R1 i1 => ⟨t, i1, ?_⟩
  cases t with
  | true => exact iteT (q _ F1 H1 n1 R1 rfl)
  | false => exact iteF ⟨B, F1, ss, .bl u, g rfl, R1, fun v F2 H2 n2 R2 i2 => q v F2 H2 (n1.trans n2) R2 i2⟩
theorem tw_andB {t u : Bool} (h : TV T X a ss t) (g : t = true → TW T X (.BoolOp .And (b :: es) pos) ss u) : TW T X (.BoolOp .And (a :: b :: es) pos) ss (t && u) := by
  have p2 : PW X (.BoolOp .And (b :: es) pos) (tTv T X.K fun ss' d' => TW T X (.BoolOp .And (b :: es) pos) ss' d') := ⟨fun wh pins s σ H Q I ⟨B, F, ss, d, r, R, k⟩ => r.run wh pins s σ H Q I ⟨B, F, ss, d, ⟨rfl, rfl⟩, R, k⟩⟩
  refine PW.imp (pw_and h p2) fun σ H Q ⟨B, F, ss', d', ⟨e1, e2⟩, R, q⟩ => ?_
  subst e1; subst e2
  refine tv_go R fun F1 H1 n1 R1 => ?_
  cases t with
  | true => exact iteT ⟨B, F1, _, u, g rfl, R1, fun F2 H2 n2 R2 => q F2 H2 (n1.trans n2) R2⟩
  | false => exact iteF (q F1 H1 n1 R1)
theorem tw_orB {t u : Bool} (h : TV T X a ss t) (g : t = false → TW T X (.BoolOp .Or (b :: es) pos) ss u) : TW T X (.BoolOp .Or (a :: b :: es) pos) ss (t || u) := by
  have p2 : PW X (.BoolOp .Or (b :: es) pos) (tTv T X.K fun ss' d' => TW T X (.BoolOp .Or (b :: es) pos) ss' d') := ⟨fun wh pins s σ H Q I ⟨B, F, ss, d, r, R, k⟩ => r.run wh pins s σ H Q I ⟨B, F, ss, d, ⟨rfl, rfl⟩, R, k⟩⟩
  refine PW.imp (pw_or h p2) fun σ H Q ⟨B, F, ss', d', ⟨e1, e2⟩, R, q⟩ => ?_
  subst e1; subst e2
  refine tv_go R fun F1 H1 n1 R1 => ?_
  cases t with
  | true => exact iteT (q F1 H1 n1 R1)
  | false => exact iteF ⟨B, F1, _, u, g rfl, R1, fun F2 H2 n2 R2 => q F2 H2 (n1.trans n2) R2⟩
theorem EV.cast {d d' : D} (h : EV T X e ss d) (q : d = d') : EV T X e ss d' := q ▸ h
theorem TV.cast {t u : Bool} (h : TV T X e ss t) (q : t = u) : TV T X e ss u := q ▸ h
end
end Fd

set_option Elab.async false
set_option linter.all false
set_option maxRecDepth 100000
set_option maxHeartbeats 4000000
/-! Fd5: operators of own classes, by the library's own terms: an int to the left, ==, !=. -/
namespace FdS
open PySem PySem.Spec PyProof.Rows PySem.W
/-- an int's method that declines an instance -/
abbrev Decl (x C dx : Addr) : PySem.Spec := fun _ R s => s.heap.get? x = some (PySem.W.instObj C dx) ∧ R (.ok (.ret Value.notImplemented)) s
theorem int_add_inst (a : Int) (t : Tok) (x C dx : Addr) : Meets (Builtin.«int.__add__» ⟨[.int a t, .ref x], []⟩) (Decl x C dx) :=
  .of_wp fun prog w A R s h => by obtain ⟨hp, g, d, tk, os⟩ := s; obtain ⟨hl, h⟩ := h; simp only [PySem.W.instObj] at hl; wp_walk; exact ⟨_, rfl, h⟩
theorem int_sub_inst (a : Int) (t : Tok) (x C dx : Addr) : Meets (Builtin.«int.__sub__» ⟨[.int a t, .ref x], []⟩) (Decl x C dx) :=
  .of_wp fun prog w A R s h => by obtain ⟨hp, g, d, tk, os⟩ := s; obtain ⟨hl, h⟩ := h; simp only [PySem.W.instObj] at hl; wp_walk; exact ⟨_, rfl, h⟩
theorem int_mul_inst (a : Int) (t : Tok) (x C dx : Addr) : Meets (Builtin.«int.__mul__» ⟨[.int a t, .ref x], []⟩) (Decl x C dx) :=
  .of_wp fun prog w A R s h => by obtain ⟨hp, g, d, tk, os⟩ := s; obtain ⟨hl, h⟩ := h; simp only [PySem.W.instObj] at hl; wp_walk; exact ⟨_, rfl, h⟩
theorem int_eq_inst (a : Int) (t : Tok) (x C dx : Addr) : Meets (Builtin.«int.__eq__» ⟨[.int a t, .ref x], []⟩) (Decl x C dx) :=
  .of_wp fun prog w A R s h => by obtain ⟨hp, g, d, tk, os⟩ := s; obtain ⟨hl, h⟩ := h; simp only [PySem.W.instObj] at hl; wp_walk; exact ⟨_, rfl, h⟩
theorem int_ne_inst (a : Int) (t : Tok) (x C dx : Addr) : Meets (Builtin.«int.__ne__» ⟨[.int a t, .ref x], []⟩) (Decl x C dx) :=
  .of_wp fun prog w A R s h => by obtain ⟨hp, g, d, tk, os⟩ := s; obtain ⟨hl, h⟩ := h; simp only [PySem.W.instObj] at hl; wp_walk; exact ⟨_, rfl, h⟩
section
variable {prog : Program} {w : World} {A : Around} {E : Value → Shared → Prop} {s : Shared} {K : Frag} {x C dx f f0 : Addr} {od : Option Obj}
/-- the left int declines, the instance's reflected method gives -/
theorem bin_int {op : Operator} {id : String} {B : Builtin} {i : Int} {t : Tok} {Q : Value → Shared → Prop} (X : K.In s.heap) (I : InstAt s.heap x (PySem.W.instObj C dx) C od) (slot : Slot "int" (PySem.dunder op.info.2) id) (entry : entryFor table id = some B) (args : argsOk id ⟨[.int i t, .ref x], []⟩)
    (g : Meets (B ⟨[.int i t, .ref x], []⟩) (Decl x C dx)) (fills : fillsNumberSlot (.type "int") op.info.2 = pure true) (hc : selfFirst K C = true) (hs : findIn K (.ref C) (PySem.dunder op.info.2) = some (some (.ref f0)))
    (hr : findIn K (.ref C) (dunderR op.info.2) = some (some (.ref f))) (hf : isFn K (.ref f) = true) (hsub : subIn K (.ref C) (.type "int") = some false)
    (h : wpAny (model prog w) A (call (.ref f) [.ref x, .int i t]) (PySem.W.CmpBack Q) E s) : wpAny (model prog w) A (binaryOp op (.int i t) (.ref x)) Q E s := by
  obtain ⟨cd, rest, hcd, hm⟩ := ksp_first hc
  rcases hi : op.info with ⟨sym, nm'⟩
  rw [hi] at hs hr fills slot
  dsimp only at hs hr fills slot
  have one := ksp_try (name := dunderR nm') X I hr hf h
  have hx : s.heap.get? x = some (PySem.W.instObj C dx) := I.1
  have L3 : Looks (model prog w) s.heap (fillsNumberSlot (.ref C) nm') true := fills_K X hcd hm hs
  simp only [binaryOp, hi]
  refine wpAny_holding (wpAny_bind ?_)
  unfold binaryOp1
  refine wpAny_bind (wpAny_typeOf (typeIs_int s i t) (wpAny_bind (I.type.here (wpAny_bind (wpAny_of_eq fills ?_)))))
  have hne : (Value.type "int" == Value.ref C) = false := Bool.eq_false_iff.mpr fun q => by cases beq_iff_eq.mp q
  simp only [hne, Bool.false_eq_true, if_false]
  refine wpAny_bind (L3.here ?_)
  simp only [Bool.and_self, if_true]
  refine wpAny_bind ((looks_subIn X hsub).here ?_)
  have hpy : numberSlotInPython (.type "int") nm' = pure false := rfl
  simp only [Bool.false_eq_true, if_false, pure_bind, Bool.not_false, Bool.and_self, if_true, hpy]
  refine wpAny_bind (wpAny_tryMethod_declines (typeIs_int s i t) slot (call_meets slot (typeIs_int s i t) entry args g ⟨hx, rfl, ?_⟩))
  simp only []
  refine wpAny_bind (wpAny_mono one (fun r s' hr' => ?_) fun _ _ e => e)
  obtain ⟨v, rfl, hq⟩ := hr'
  exact wpAny_bind (wpAny_rule (wpAny_pure (wpAny_pure hq)))
/-- tryCompare by an own method -/
theorem try_own {b : Value} {name : Str} {Q : Value → Shared → Prop} {ox : Obj} (X : K.In s.heap) (I : InstAt s.heap x ox C od) (hs : findIn K (.ref C) name = some (some (.ref f))) (hf : isFn K (.ref f) = true)
    (h : wpAny (model prog w) A (call (.ref f) [.ref x, b]) (PySem.W.CmpBack Q) E s) : wpAny (model prog w) A (tryCompare (.ref x) name b) (fun r s' => ∃ v, r = some v ∧ Q v s') E s := by
  unfold tryCompare
  refine wpAny_bind (ifBound_K X I hs hf (wpAny_mono h (fun v s' hv => ?_) fun _ _ e => e))
  cases v <;> first | exact hv.elim | exact wpAny_pure ⟨_, rfl, hv⟩
/-- tryCompare "__ne__" by object.__ne__ over an own __eq__ that gives a bool -/
theorem try_ne {b : Value} {Q : Value → Shared → Prop} {ox : Obj} (hu : A.units + 1 < cLine) (X : K.In s.heap) (I : InstAt s.heap x ox C od) (hn : findIn K (.ref C) "__ne__" = some (some (.builtin "object.__ne__"))) (hob : subIn K (.ref C) (.type "object") = some true)
    (hs : findIn K (.ref C) "__eq__" = some (some (.ref f))) (hf : isFn K (.ref f) = true)
    (h : wpAny (model prog w) A.in1 (call (.ref f) [.ref x, b]) (fun v s' => ∃ k, v = .bool k ∧ Q (.bool (!k)) s') E s) : wpAny (model prog w) A (tryCompare (.ref x) "__ne__" b) (fun r s' => ∃ v, r = some v ∧ Q v s') E s := by
  unfold tryCompare
  refine wpAny_bind ?_
  simp only [callSpecialIfBound?, bindSpecialIfBound?]
  refine wpAny_holding (wpAny_bind (wpAny_bind (wpAny_bind (I.type.here ((looks_findIn X hn).here ?_)))))
  have run : wpAny (model prog w) A (call (.builtin "object.__ne__") ([.ref x] ++ [b])) (fun v s' => ∃ k, v = .bool k ∧ Q (.bool k) s') E s := by
    refine wpAny_call (codeAny_call_builtin F.cmp_object.ne.plain F.cmpEntry_ne (check_slot F.cmpKind_ne F.cmpSplit_ne (I.type.andThen (looks_subIn X hob)) (F.cmpArgs_ne _ _) ?_))
    show wpAny _ A.in1 (Builtin.«object.__ne__» ⟨[.ref x, b], []⟩) _ _ s
    unfold Builtin.«object.__ne__»
    refine wpAny_bind (wpAny_of_eq (a := (.ref x, [b])) rfl ?_)
    refine wpAny_bind (wpAny_cRoomFor hu ?_)
    refine wpAny_bind (ifBound_K X I hs hf (wpAny_mono h (fun v s' hv => ?_) fun _ _ e => e))
    obtain ⟨k, rfl, hq⟩ := hv
    refine wpAny_bind (wpAny_truthy_bool ?_)
    exact wpAny_pure ⟨_, rfl, hq⟩
  have fin : wpAny (model prog w) A (call (.builtin "object.__ne__") ([.ref x] ++ [b]) >>= fun v => pure (some v)) (fun a s₁ => wpAny (model prog w) A (match a with | some .notImplemented | none => pure none | some v => pure (some v)) (fun r s' => ∃ v, r = some v ∧ Q v s') E s₁) E s :=
    wpAny_bind (wpAny_mono run (fun v s' hv => by obtain ⟨k, rfl, hq⟩ := hv; exact wpAny_pure (wpAny_pure ⟨_, rfl, hq⟩)) fun _ _ e => e)
  simp only [F.cmp_object.ne.bind]
  refine wpAny_bind (wpAny_askSetting (wpAny_ite ?_))
  split
  · exact wpAny_bind (wpAny_pure (wpAny_pure fin))
  · exact wpAny_tryCatch (wpAny_bind (wpAny_pure (wpAny_pure fin)))
/-- x op b, the left an instance: its own answer is taken -/
theorem cmp_left {op : CmpOp} {b tb : Value} {Q : Value → Shared → Prop} {ox : Obj} (hu : A.units < cLine) (X : K.In s.heap) (I : InstAt s.heap x ox C od) (hb : Looks (model prog w) s.heap (typeOf b) tb) (hn : notFirst K C tb = true)
    (one : wpAny (model prog w) A (tryCompare (.ref x) (cmpInfo op).2.1 b) (fun r s' => ∃ v, r = some v ∧ Q v s') E s) : wpAny (model prog w) A (richCompare op (.ref x) b) Q E s := by
  unfold richCompare
  simp only [oneThing_ref]
  refine wpAny_holding (wpAny_bind (wpAny_cRoomFor hu ?_))
  refine wpAny_bind (I.type.here (wpAny_bind (hb.here ?_)))
  split
  · rename_i q
    have e : subIn K tb (.ref C) = some false := by
      rcases Bool.or_eq_true_iff.mp hn with e | e
      · rw [beq_iff_eq.mp e] at q; simp at q
      · exact beq_iff_eq.mp e
    refine wpAny_bind ((looks_subIn X e).here ?_)
    simp only [Bool.false_eq_true, if_false]
    refine wpAny_bind (wpAny_mono one (fun r s' z => ?_) fun _ _ e => e)
    obtain ⟨v, rfl, hq⟩ := z
    exact wpAny_pure hq
  · refine wpAny_bind (wpAny_pure ?_)
    simp only [Bool.false_eq_true, if_false]
    refine wpAny_bind (wpAny_mono one (fun r s' z => ?_) fun _ _ e => e)
    obtain ⟨v, rfl, hq⟩ := z
    exact wpAny_pure hq
/-- i op x, the right an instance: the int declines -/
theorem cmp_int {op : CmpOp} {id : String} {B : Builtin} {i : Int} {t : Tok} {Q : Value → Shared → Prop} (hu : A.units < cLine) (X : K.In s.heap) (I : InstAt s.heap x (PySem.W.instObj C dx) C od) (slot : Slot "int" (cmpInfo op).2.1 id) (entry : entryFor table id = some B) (args : argsOk id ⟨[.int i t, .ref x], []⟩)
    (g : Meets (B ⟨[.int i t, .ref x], []⟩) (Decl x C dx)) (hsub : subIn K (.ref C) (.type "int") = some false)
    (one : wpAny (model prog w) A (tryCompare (.ref x) (cmpInfo op).2.2 (.int i t)) (fun r s' => ∃ v, r = some v ∧ Q v s') E s) : wpAny (model prog w) A (richCompare op (.int i t) (.ref x)) Q E s := by
  have hx : s.heap.get? x = some (PySem.W.instObj C dx) := I.1
  unfold richCompare
  have h1 : oneThing? op (.int i t) (.ref x) = none := rfl
  simp only [h1]
  refine wpAny_holding (wpAny_bind (wpAny_cRoomFor hu ?_))
  refine wpAny_bind (wpAny_typeOf (typeIs_int s i t) (wpAny_bind (I.type.here ?_)))
  have hne : (Value.type "int" != Value.ref C) = true := rfl
  simp only [hne, if_true]
  refine wpAny_bind ((looks_subIn X hsub).here ?_)
  simp only [Bool.false_eq_true, if_false, Bool.not_false, if_true]
  refine wpAny_bind (wpAny_tryCompare_declines (typeIs_int s i t) slot (call_meets slot (typeIs_int s i t) entry args g ⟨hx, rfl, ?_⟩))
  refine wpAny_bind (wpAny_mono one (fun r s' z => ?_) fun _ _ e => e)
  obtain ⟨v, rfl, hq⟩ := z
  exact wpAny_pure hq
end
end FdS

set_option Elab.async false
set_option linter.all false
set_option maxRecDepth 100000
set_option maxHeartbeats 4000000
/-! Fd6: operators of own classes on data. -/
namespace Fd
open PySem PySem.Spec PyProof.Rows L2
/-- a two-place operation on data -/
def rD (T : List (Addr × Str)) (K : PySem.W.Frag) (pre : D → D → D → Prop) : R2 := fun x y H Q => ∃ F dx dy d, Ext F H ∧ (∀ p ps, F p ≠ some (.tbl ps)) ∧ LamX.Tabs T H ∧ Is K F dx x ∧ Is K F dy y ∧ pre dx dy d ∧ ∀ v F1 H1, Nx T F H F1 H1 → Is K F1 d v → Q v H1
def OpD (T : List (Addr × Str)) (X : Cx) (f : Value → Value → Sem Value) (pre : D → D → D → Prop) : Prop := OpR X f (rD T X.K pre)
section
variable {T : List (Addr × Str)} {X : Cx} {ss : SS} {a b : Expr} {pos : Pos} {x y d : D} {pre pre' : D → D → D → Prop}
theorem OpD.or {f : Value → Value → Sem Value} (h : OpD T X f pre) (h' : OpD T X f pre') : OpD T X f (fun x y d => pre x y d ∨ pre' x y d) := fun pins s σ H x y v u Q I rx ry ⟨F, dx, dy, d, e, nt, tbs, i1, i2, p, q⟩ => by
  rcases p with p | p
  · exact h pins s σ H x y v u Q I rx ry ⟨F, dx, dy, d, e, nt, tbs, i1, i2, p, q⟩
  · exact h' pins s σ H x y v u Q I rx ry ⟨F, dx, dy, d, e, nt, tbs, i1, i2, p, q⟩
theorem ev_opD {op : Operator} (ho : OpD T X (binaryOp op) pre) (ha : EV T X a ss x) (hb : EV T X b ss y) (hp : pre x y d) : EV T X (.BinOp a op b pos) ss d :=
  ev_op ho ha hb fun B F H σ v u Q R i1 i2 q => ⟨F, x, y, d, R.sub, R.nt, R.tb, i1, i2, hp, fun z F1 H1 n1 iz => q z F1 H1 n1 (R.grow n1) iz⟩
theorem ev_cmpD {op : CmpOp} (ho : OpD T X (compareOp op) pre) (ha : EV T X a ss x) (hb : EV T X b ss y) (hp : pre x y d) (h1 : behindInMarks op b = false := by first | exact nomark _ | rfl) : EV T X (.Compare a [op] [b] pos) ss d :=
  ev_cmp ho ha hb (fun B F H σ v u Q R i1 i2 q => ⟨F, x, y, d, R.sub, R.nt, R.tb, i1, i2, hp, fun z F1 H1 n1 iz => q z F1 H1 n1 (R.grow n1) iz⟩) h1
theorem tv_cmpD {op : CmpOp} {k : Bool} (ho : OpD T X (compareOp op) pre) (ha : EV T X a ss x) (hb : EV T X b ss y) (hp : pre x y (.bl k)) (h1 : behindInMarks op b = false := by first | exact nomark _ | rfl) : TV T X (.Compare a [op] [b] pos) ss k :=
  tv_cmp ho ha hb (fun B F H σ v u Q R i1 i2 q => ⟨F, x, y, .bl k, R.sub, R.nt, R.tb, i1, i2, hp, fun z F1 H1 n1 iz => by cases iz; exact q F1 H1 n1 (R.grow n1)⟩) h1
theorem opD_I0 {f : Value → Value → Sem Value} {g : Int → Int → Int} (h : OpR X f (rI0 fun i j => .int (g i j))) : OpD T X f (fun x y d => ∃ i j, x = .int i ∧ y = .int j ∧ d = .int (g i j)) := fun pins s σ H x y v u Q I rx ry ⟨F, dx, dy, d, e, nt, tbs, i1, i2, ⟨i, j, e1, e2, e3⟩, q⟩ => by
  subst e1; subst e2; subst e3
  exact h pins s σ H x y v u Q I rx ry ⟨i, j, i1, i2, q _ F H (Nx.refl e) rfl⟩
theorem opD_I {f : Value → Value → Sem Value} {C : Int → Int → Prop} {g : Int → Int → Int} (h : OpR X f (rI C fun i j => .int (g i j))) : OpD T X f (fun x y d => ∃ i j, x = .int i ∧ y = .int j ∧ C i j ∧ d = .int (g i j)) := fun pins s σ H x y v u Q I rx ry ⟨F, dx, dy, d, e, nt, tbs, i1, i2, ⟨i, j, e1, e2, c, e3⟩, q⟩ => by
  subst e1; subst e2; subst e3
  exact h pins s σ H x y v u Q I rx ry ⟨i, j, i1, i2, c, q _ F H (Nx.refl e) rfl⟩
end
/-! ### the types of data -/
def D.ty? : D → Option Value
  | .non => some (.type "NoneType") | .bl _ => some (.type "bool") | .int _ => some (.type "int") | .str _ => some (.type "str") | .lst _ => some (.type "list") | .tup _ => some (.type "tuple")
  | .ins C _ _ => some (.ref C) | .dct _ _ => some (.type "dict") | _ => none
section
variable {T : List (Addr × Str)} {X : Cx} {pins : List (Addr × Obj)} {σ : L2.St} {F H : Hp} {s : Shared}
theorem looks_ty {d : D} {v : V} {u t : Value} (I : Inv X pins σ H s) (e : Ext F H) (i : Is X.K F d v) (r : RelV v u) (h : d.ty? = some t) : PySem.W.Looks (model X.prog X.w) s.heap (typeOf u) t := by
  cases d with
  | non => cases i; cases r; cases h; exact PySem.W.Looks.of_pure rfl
  | bl b => cases i; cases r; cases h; exact PySem.W.Looks.of_pure rfl
  | int z => cases i; obtain ⟨t', rfl⟩ := r; cases h; exact PySem.W.Looks.of_pure rfl
  | str z => cases i; obtain ⟨t', rfl⟩ := r; cases h; exact PySem.W.Looks.of_pure rfl
  | lst xs =>
    obtain ⟨a, vs, rfl, e1, _⟩ := i
    cases r; cases h
    obtain ⟨its, _, ⟨o, n, e2, e3, _⟩, _⟩ := I.list (SqL.of (e _ _ e1))
    have : PySem.W.Looks (model X.prog X.w) s.heap (typeOf (.ref a)) o.cls := (PySem.W.Looks.ld e2).andThen .now
    rw [e3] at this
    exact this
  | tup xs =>
    obtain ⟨a, vs, rfl, e1, _⟩ := i
    cases r; cases h
    obtain ⟨its, _, ⟨o, e2, e3, _⟩, _⟩ := I.tuple (ext_seqT e e1)
    have : PySem.W.Looks (model X.prog X.w) s.heap (typeOf (.ref a)) o.cls := (PySem.W.Looks.ld e2).andThen .now
    rw [e3] at this
    exact this
  | ins C ns xs =>
    obtain ⟨a, dx, fs, rfl, e1, _⟩ := i
    cases r; cases h
    obtain ⟨mA, O, _⟩ := ins_get I.hok (e _ _ e1)
    obtain ⟨od, J, _⟩ := O.look
    exact J.type
  | dct ks xs =>
    obtain ⟨a, kvs, rfl, e1, _⟩ := i
    cases r; cases h
    obtain ⟨_, _, vs, _, o, es, ep, h1, h2, _⟩ := (show ObjOk X.prog X.w H s.heap a (.dK kvs) from I.hok a _ (e _ _ e1))
    have : PySem.W.Looks (model X.prog X.w) s.heap (typeOf (.ref a)) o.cls := (PySem.W.Looks.ld h1).andThen .now
    rw [h2.1] at this
    exact this
  | _ => cases h
/-- one level down -/
abbrev Cx.in1 (X : Cx) : Cx := { X with A := X.A.in1 }
theorem Inv.in1 (I : Inv X pins σ H s) : Inv (Cx.in1 X) pins σ H s :=
  ⟨⟨I.ok.mod, I.ok.kind, I.ok.glob, I.ok.blt, I.ok.above, I.ok.inj, I.ok.has, I.ok.cab, I.ok.hd, I.ok.frames, I.ok.stk, I.ok.exf, I.ok.bs, I.ok.bsz, I.ok.noex, I.ok.exfs, I.ok.funs, I.ok.frf⟩, I.os, I.bare, I.base, I.loc, I.cell, I.free, I.freeC, I.pin, I.hok, I.len⟩
theorem Inv.out1 (I : Inv (Cx.in1 X) pins σ H s) : Inv X pins σ H s :=
  ⟨⟨I.ok.mod, I.ok.kind, I.ok.glob, I.ok.blt, I.ok.above, I.ok.inj, I.ok.has, I.ok.cab, I.ok.hd, I.ok.frames, I.ok.stk, I.ok.exf, I.ok.bs, I.ok.bsz, I.ok.noex, I.ok.exfs, I.ok.funs, I.ok.frf⟩, I.os, I.bare, I.base, I.loc, I.cell, I.free, I.freeC, I.pin, I.hok, I.len⟩
theorem back_of {Q : VK} {u : Value} {s' : Shared} (h : EP X pins σ Q u s') : PySem.W.CmpBack (EP X pins σ Q) u s' := by
  obtain ⟨v, H', I', r, q⟩ := id h
  cases v with
  | non => cases (show u = Value.none from r); exact h
  | bl b => cases (show u = Value.bool b from r); exact h
  | int i => obtain ⟨t, e⟩ := (show ∃ t, u = Value.int i t from r); cases e; exact h
  | str x => obtain ⟨t, e⟩ := (show ∃ t, u = Value.str x t from r); cases e; exact h
  | byt b => obtain ⟨t, e⟩ := (show ∃ t, u = Value.bytes b t from r); cases e; exact h
  | flt b => obtain ⟨t, e⟩ := (show ∃ t, u = Value.float b t from r); cases e; exact h
  | ref a => cases (show u = Value.ref a from r); exact h
  | ty n => cases (show u = Value.type n from r); exact h
end
/-! ### a method that an operator calls -/
structure OwnM (T : List (Addr × Str)) (P : Program) (w : World) (K : PySem.W.Frag) (mg : Str → Option Value) (base : Heap) (C : Addr) (m : Str) (n k : Nat) (pre : List D → D → Prop) (f : Addr) : Prop where
  at_ : PySem.W.findIn K (.ref C) m = some (some (.ref f))
  fn : PySem.W.isFn K (.ref f) = true
  kp : PySem.W.keepIn K (.ref f) = true
  ok : ∃ fd ps, Binds K fd ps [] ∧ ps.length = n ∧ FnOk P w K mg base CX0 k f fd ps (spD T K n pre)
section
variable {T : List (Addr × Str)} {X : Cx} {pins : List (Addr × Obj)} {σ : L2.St} {F H : Hp} {s : Shared} {C f f0 : Addr} {k n : Nat} {pre : List D → D → Prop} {m : Str}
theorem OwnM.run {P : Program} {w : World} {K : PySem.W.Frag} {mg : Str → Option Value} {base : Heap} (M : OwnM T X.prog X.w X.K X.mg X.base C m n k pre f) (hr : Room k X.A) (I : Inv X pins σ H s) {us : List Value} {vs : List V} {ds : List D} {d : D} {Q : VK} (r : Vals vs us) (e : Ext F H) (nt : ∀ p ps, F p ≠ some (.tbl ps)) (tbs : LamX.Tabs T H) (i : IsL X.K F ds vs) (hn : ds.length = n)
    (hp : pre ds d) (q : ∀ v F1 H1, Nx T F H F1 H1 → Is X.K F1 d v → Q v H1) : wpAny (model X.prog X.w) X.A (call (.ref f) us) (EP X pins σ Q) X.xe s := by
  obtain ⟨fd, ps, hb, hl, F0⟩ := M.ok
  refine run_fn (dvs := []) (ds := []) F0 hr hb .nil pass0 I r ?_
  rw [List.append_nil]
  exact ⟨F, ds, d, e, nt, tbs, i, hn, hp, q⟩
/-- -x -/
theorem un_own (M : OwnM T X.prog X.w X.K X.mg X.base C "__neg__" 1 k pre f) (hr : Room k X.A) : UnR X (unaryOp .USub) (fun x H Q => ∃ F ns xs d, Ext F H ∧ (∀ p ps, F p ≠ some (.tbl ps)) ∧ LamX.Tabs T H ∧ Is X.K F (.ins C ns xs) x ∧ pre [.ins C ns xs] d ∧ ∀ v F1 H1, Nx T F H F1 H1 → Is X.K F1 d v → Q v H1) := by
  intro pins s σ H x v Q I rx ⟨F, ns, xs, d, e, nt, tbs, i, p, q⟩
  obtain ⟨a, dx, fs, rfl, e1, e2, e3⟩ := id i
  cases rx
  obtain ⟨mA, J, _⟩ := ins_get I.hok (e _ _ e1)
  obtain ⟨od, J, _⟩ := J.look
  obtain ⟨mm, hF⟩ := I.fr
  exact PySem.W.ksp_neg hF I.ok.mod.kin J M.at_ M.fn (M.run (P := X.prog) (w := X.w) (K := X.K) (mg := X.mg) (base := X.base) hr I (vs := [.ref a]) (.cons rfl .nil) e nt tbs (.cons i .nil) rfl p q)
/-- x op y, x of one's own class, y too -/
theorem bin_own {op : Operator} (M : OwnM T X.prog X.w X.K X.mg X.base C (PySem.dunder op.info.2) 2 k pre f) (hr : Room k X.A) (hc : PySem.W.selfFirst X.K C = true) :
    OpD T X (binaryOp op) (fun x y d => ∃ ns xs ms ys, x = .ins C ns xs ∧ y = .ins C ms ys ∧ pre [x, y] d) := by
  intro pins s σ H x y v u Q I rx ry ⟨F, dx, dy, d, e, nt, tbs, i1, i2, ⟨ns, xs, ms, ys, h1, h2, p⟩, q⟩
  subst h1; subst h2
  have lb := looks_ty I e i2 ry (t := .ref C) rfl
  obtain ⟨a, da, fs, rfl, e1, _⟩ := id i1
  cases rx
  obtain ⟨mA, J, _⟩ := ins_get I.hok (e _ _ e1)
  obtain ⟨od, J, _⟩ := J.look
  obtain ⟨mm, hF⟩ := I.fr
  exact PySem.W.binop_K hF I.ok.mod.kin J lb hc M.at_ M.fn (wpAny_mono (M.run (P := X.prog) (w := X.w) (K := X.K) (mg := X.mg) (base := X.base) hr I (vs := [.ref a, y]) (.cons rfl (.cons ry .nil)) e nt tbs (.cons i1 (.cons i2 .nil)) rfl p q) (fun v s' h => back_of h) fun _ _ z => z)
/-- x op i, x of one's own class, i an int -/
theorem bin_ownI {op : Operator} {fo ro : Option Value} (M : OwnM T X.prog X.w X.K X.mg X.base C (PySem.dunder op.info.2) 2 k pre f) (hr : Room k X.A) (hc : PySem.W.selfFirst X.K C = true) (hR : PySem.W.findIn X.K (.ref C) (dunderR op.info.2) = some (some (.ref f0)))
    (h1 : PySem.W.findIn X.K (.type "int") (PySem.dunder op.info.2) = some fo) (h2 : PySem.W.findIn X.K (.type "int") (dunderR op.info.2) = some ro) (hsub : PySem.W.subIn X.K (.type "int") (.ref C) = some false) :
    OpD T X (binaryOp op) (fun x y d => ∃ ns xs j, x = .ins C ns xs ∧ y = .int j ∧ pre [x, y] d) := by
  intro pins s σ H x y v u Q I rx ry ⟨F, dx, dy, d, e, nt, tbs, i1, i2, ⟨ns, xs, j, h1', h2', p⟩, q⟩
  subst h1'; subst h2'
  have ht : ∃ t, u = .int j t := by cases i2; exact ry
  obtain ⟨t, rfl⟩ := ht
  obtain ⟨a, da, fs, rfl, e1, _⟩ := id i1
  cases rx
  obtain ⟨mA, J, _⟩ := ins_get I.hok (e _ _ e1)
  obtain ⟨od, J, _⟩ := J.look
  obtain ⟨mm, hF⟩ := I.fr
  exact PySem.W.ksp_binT (T := "int") hF I.ok.mod.kin J rfl hc M.at_ M.fn hR (.inr ⟨_, rfl⟩) h1 h2 hsub (wpAny_mono (M.run (P := X.prog) (w := X.w) (K := X.K) (mg := X.mg) (base := X.base) hr I (vs := [.ref a, y]) (.cons rfl (.cons ry .nil)) e nt tbs (.cons i1 (.cons i2 .nil)) rfl p q) (fun v s' h => back_of h) fun _ _ z => z)
/-- i op x, i an int: the reflected method -/
theorem bin_Iown {op : Operator} {idn : String} {B : Builtin} (M : OwnM T X.prog X.w X.K X.mg X.base C (dunderR op.info.2) 2 k pre f) (hr : Room k X.A) (hc : PySem.W.selfFirst X.K C = true) (hs : PySem.W.findIn X.K (.ref C) (PySem.dunder op.info.2) = some (some (.ref f0)))
    (slot : Slot "int" (PySem.dunder op.info.2) idn) (entry : entryFor table idn = some B) (args : ∀ a b, argsOk idn ⟨[a, b], []⟩) (g : ∀ i t x C dx, Meets (B ⟨[.int i t, .ref x], []⟩) (FdS.Decl x C dx)) (fills : fillsNumberSlot (.type "int") op.info.2 = pure true)
    (hsub : PySem.W.subIn X.K (.ref C) (.type "int") = some false) : OpD T X (binaryOp op) (fun x y d => ∃ ns xs j, x = .int j ∧ y = .ins C ns xs ∧ pre [y, x] d) := by
  intro pins s σ H x y v u Q I rx ry ⟨F, dx, dy, d, e, nt, tbs, i1, i2, ⟨ns, xs, j, h1', h2', p⟩, q⟩
  subst h1'; subst h2'
  have ht : ∃ t, v = .int j t := by cases i1; exact rx
  obtain ⟨t, rfl⟩ := ht
  obtain ⟨a, da, fs, rfl, e1, _⟩ := id i2
  cases ry
  obtain ⟨mA, J, _⟩ := ins_get I.hok (e _ _ e1)
  obtain ⟨od, J, _⟩ := J.look
  exact FdS.bin_int I.kIn J slot entry (args _ _) (g _ _ _ _ _) fills hc hs M.at_ M.fn hsub (wpAny_mono (M.run (P := X.prog) (w := X.w) (K := X.K) (mg := X.mg) (base := X.base) hr I (vs := [.ref a, x]) (.cons rfl (.cons rx .nil)) e nt tbs (.cons i2 (.cons i1 .nil)) rfl p q) (fun v s' h => back_of h) fun _ _ z => z)
/-- the facts of == and != -/
structure EqM (T : List (Addr × Str)) (P : Program) (w : World) (K : PySem.W.Frag) (mg : Str → Option Value) (base : Heap) (C : Addr) (k : Nat) (pre : List D → D → Prop) (f : Addr) : Prop where
  m : OwnM T P w K mg base C "__eq__" 2 k pre f
  ne : PySem.W.findIn K (.ref C) "__ne__" = some (some (.builtin "object.__ne__"))
  ob : PySem.W.subIn K (.ref C) (.type "object") = some true
theorem eq_own (M : EqM T X.prog X.w X.K X.mg X.base C k pre f) (hr : Room k X.A) : OpD T X (compareOp .Eq) (fun x y d => ∃ ns xs tb r, x = .ins C ns xs ∧ y.ty? = some tb ∧ PySem.W.notFirst X.K C tb = true ∧ d = .bl r ∧ pre [x, y] d) := by
  intro pins s σ H x y v u Q I rx ry ⟨F, dx, dy, d, e, nt, tbs, i1, i2, ⟨ns, xs, tb, r, h1', h2', h3, h4, p⟩, q⟩
  subst h1'
  have lb := looks_ty I e i2 ry h2'
  obtain ⟨a, da, fs, rfl, e1, _⟩ := id i1
  cases rx
  obtain ⟨mA, J, _⟩ := ins_get I.hok (e _ _ e1)
  obtain ⟨od, J, _⟩ := J.look
  show wpAny _ _ (richCompare .Eq _ _) _ _ _
  exact FdS.cmp_left hr.units0 I.kIn J lb h3 (FdS.try_own I.kIn J M.m.at_ M.m.fn (wpAny_mono (M.m.run (P := X.prog) (w := X.w) (K := X.K) (mg := X.mg) (base := X.base) hr I (vs := [.ref a, y]) (.cons rfl (.cons ry .nil)) e nt tbs (.cons i1 (.cons i2 .nil)) rfl p q) (fun v s' h => back_of h) fun _ _ z => z))
theorem ne_run (M : EqM T X.prog X.w X.K X.mg X.base C k pre f) (hr : Room (k + 1) X.A) {a : Addr} {y : V} {u : Value} {r : Bool} {dx dy : D} {Q : VK} (I : Inv X pins σ H s) (ry : RelV y u) (e : Ext F H) (nt : ∀ p ps, F p ≠ some (.tbl ps)) (tbs : LamX.Tabs T H) (i1 : Is X.K F dx (.ref a)) (i2 : Is X.K F dy y) (p : pre [dx, dy] (.bl r))
    (q : ∀ v F1 H1, Nx T F H F1 H1 → Is X.K F1 (.bl (!r)) v → Q v H1) : wpAny (model X.prog X.w) X.A.in1 (call (.ref f) [.ref a, u]) (fun v s' => ∃ k, v = .bool k ∧ EP X pins σ Q (.bool (!k)) s') X.xe s := by
  refine wpAny_mono (OwnM.run (X := Cx.in1 X) (P := X.prog) (w := X.w) (K := X.K) (mg := X.mg) (base := X.base) (vs := [.ref a, y]) (Q := fun v H1 => v = .bl r ∧ Q (.bl (!r)) H1) M.m hr.in1 (Inv.in1 I) (.cons rfl (.cons ry .nil)) e nt tbs (.cons i1 (.cons i2 .nil)) rfl p fun v F1 H1 n1 iv => ⟨iv, q _ F1 H1 n1 rfl⟩) (fun v s' h => ?_) fun _ _ z => z
  obtain ⟨v', H', I', rv, ev, q'⟩ := h
  subst ev
  cases rv
  exact ⟨r, rfl, .bl (!r), H', Inv.out1 I', rfl, q'⟩
theorem ne_own (M : EqM T X.prog X.w X.K X.mg X.base C k pre f) (hr : Room (k + 1) X.A) : OpD T X (compareOp .NotEq) (fun x y d => ∃ ns xs tb r, x = .ins C ns xs ∧ y.ty? = some tb ∧ PySem.W.notFirst X.K C tb = true ∧ d = .bl (!r) ∧ pre [x, y] (.bl r)) := by
  intro pins s σ H x y v u Q I rx ry ⟨F, dx, dy, d, e, nt, tbs, i1, i2, ⟨ns, xs, tb, r, h1', h2', h3, h4, p⟩, q⟩
  subst h1'; subst h4
  have lb := looks_ty I e i2 ry h2'
  obtain ⟨a, da, fs, rfl, e1, _⟩ := id i1
  cases rx
  obtain ⟨mA, J, _⟩ := ins_get I.hok (e _ _ e1)
  obtain ⟨od, J, _⟩ := J.look
  show wpAny _ _ (richCompare .NotEq _ _) _ _ _
  exact FdS.cmp_left hr.units0 I.kIn J lb h3 (FdS.try_ne (by have := hr.units; omega) I.kIn J M.ne M.ob M.m.at_ M.m.fn (ne_run M hr I ry e nt tbs i1 i2 p q))
theorem eq_Iown (M : EqM T X.prog X.w X.K X.mg X.base C k pre f) (hr : Room k X.A) (hsub : PySem.W.subIn X.K (.ref C) (.type "int") = some false) : OpD T X (compareOp .Eq) (fun x y d => ∃ ns xs j r, x = .int j ∧ y = .ins C ns xs ∧ d = .bl r ∧ pre [y, x] d) := by
  intro pins s σ H x y v u Q I rx ry ⟨F, dx, dy, d, e, nt, tbs, i1, i2, ⟨ns, xs, j, r, h1', h2', h3, p⟩, q⟩
  subst h1'; subst h2'
  have ht : ∃ t, v = .int j t := by cases i1; exact rx
  obtain ⟨t, rfl⟩ := ht
  obtain ⟨a, da, fs, rfl, e1, _⟩ := id i2
  cases ry
  obtain ⟨mA, J, _⟩ := ins_get I.hok (e _ _ e1)
  obtain ⟨od, J, _⟩ := J.look
  show wpAny _ _ (richCompare .Eq _ _) _ _ _
  exact FdS.cmp_int hr.units0 I.kIn J PySem.F.slot_int_eq PySem.F.entry_int_eq (PySem.F.args_int_eq_2 _ _) (FdS.int_eq_inst _ _ _ _ _) hsub (FdS.try_own I.kIn J M.m.at_ M.m.fn (wpAny_mono (M.m.run (P := X.prog) (w := X.w) (K := X.K) (mg := X.mg) (base := X.base) hr I (vs := [.ref a, x]) (.cons rfl (.cons rx .nil)) e nt tbs (.cons i2 (.cons i1 .nil)) rfl p q) (fun v s' h => back_of h) fun _ _ z => z))
theorem ne_Iown (M : EqM T X.prog X.w X.K X.mg X.base C k pre f) (hr : Room (k + 1) X.A) (hsub : PySem.W.subIn X.K (.ref C) (.type "int") = some false) : OpD T X (compareOp .NotEq) (fun x y d => ∃ ns xs j r, x = .int j ∧ y = .ins C ns xs ∧ d = .bl (!r) ∧ pre [y, x] (.bl r)) := by
  intro pins s σ H x y v u Q I rx ry ⟨F, dx, dy, d, e, nt, tbs, i1, i2, ⟨ns, xs, j, r, h1', h2', h3, p⟩, q⟩
  subst h1'; subst h2'; subst h3
  have ht : ∃ t, v = .int j t := by cases i1; exact rx
  obtain ⟨t, rfl⟩ := ht
  obtain ⟨a, da, fs, rfl, e1, _⟩ := id i2
  cases ry
  obtain ⟨mA, J, _⟩ := ins_get I.hok (e _ _ e1)
  obtain ⟨od, J, _⟩ := J.look
  show wpAny _ _ (richCompare .NotEq _ _) _ _ _
  exact FdS.cmp_int hr.units0 I.kIn J PySem.F.slot_int_ne PySem.F.entry_int_ne (PySem.F.args_int_ne_2 _ _) (FdS.int_ne_inst _ _ _ _ _) hsub (FdS.try_ne (by have := hr.units; omega) I.kIn J M.ne M.ob M.m.at_ M.m.fn (ne_run M hr I rx e nt tbs i2 i1 p q))
end
end Fd

set_option Elab.async false
set_option linter.all false
set_option maxRecDepth 100000
set_option maxHeartbeats 4000000
/-! ExS: own exceptions over ValueError whose __init__ says super().__init__(text), and perhaps self.f = what it was given. -/
namespace PySem
namespace ExS
open PySem.W PySem.Calls PyProof.Rows PySem.HandSPX
/-! ### the text of __init__ -/
def iA0 (p1 : Pos) : Arguments := { posonlyargs := [], args := [{ arg := "self", annotation := none, pos := p1 }], vararg := none, kwonlyargs := [], kw_defaults := [], kwarg := none, defaults := [] }
def iA (y : Str) (p1 p2 : Pos) : Arguments := { posonlyargs := [], args := [{ arg := "self", annotation := none, pos := p1 }, { arg := y, annotation := none, pos := p2 }], vararg := none, kwonlyargs := [], kw_defaults := [], kwarg := none, defaults := [] }
/-- what a method call asks, beside: whether its object's name was imported -/
def plS (q1 q2 : Pos) (env : Env) : Sem Bool := do return (← importBound (.Call (.Name "super" q1) [] [] q2) env).getD true
def supS (tx : Str) (j : Nat) (q1 q2 q3 q4 q5 q6 : Pos) : Stmt := .Expr (.Call (.Attribute (.Call (.Name "super" q1) [] [] q2) "__init__" q3) [.Constant (.str tx) j q4] [] q5) q6
def atS (f y : Str) (q7 q8 q9 qa : Pos) : Stmt := .Assign [.Attribute (.Name "self" q7) f q8] (.Name y q9) qa
def iS0 : Scope := { kind := .function, names := [(PySem.Str.ofString "self", .local), (PySem.Str.ofString "__class__", .free), (PySem.Str.ofString "super", .globalImplicit)], isGenerator := false, isCoroutine := false, more := [] }
def iS (y : Str) : Scope := { kind := .function, names := [(PySem.Str.ofString "self", .local), (y, .local), (PySem.Str.ofString "__class__", .free), (PySem.Str.ofString "super", .globalImplicit)], isGenerator := false, isCoroutine := false, more := [] }
/-- what the written part says of a class of exceptions -/
structure ExCls (prog : Program) (K : Frag) (mg : Str → Option Value) (C fI cc cda : Addr) : Prop where
  cls : ∃ nm q N bs bm sn sub ab col dd k0 k1 k2 k3 k5, K.lookup C = some (excClassObj nm q C N bs bm true sn sub ab col dd k0 k1 k2 k3 k5 "ValueError.__new__") ∧ refsVE bm = true
  sa : findIn K (.ref C) "__setattr__" = some (some (.builtin "object.__setattr__"))
  ga : findIn K (.ref C) "__getattribute__" = some (some (.builtin "BaseException.__getattribute__"))
  gg : findIn K (.ref C) "__getattr__" = some none
  iC : findIn K (.ref C) "__init__" = some (some (.ref fI))
  tC : typeIn K (.ref fI) = some (.type "function")
  kC : keepIn K (.ref C) = true
  exC : subIn K (.ref C) (.type "BaseException") = some true
  veC : subIn K (.ref C) (.type "ValueError") = some true
  seC : mroIn K C (.ref C) = some true
  tyC : typeIn K (.ref C) = some (.type "type")
  hdC : hasDictIn K C = true
  cell : ∃ cl cld csl, K.lookup cc = some ⟨cl, cld, .cell (some (.ref C)), csl⟩
  code : ∃ ccl cdd vs ccs file tf, K.lookup cda = some ⟨ccl, cdd, .fields vs, ccs⟩ ∧ vs[2]? = some (.str file tf) ∧ ((prog.main.file : Str) == file) = true
  sup : ks_superIn K C C "__init__" = some (some (.builtin "ValueError.__init__"))
  opq : nsIn K cStatics "thirdparty.any" = some none
  mgs : mg "super" = none
  top : (prog.main.scope.names.lookup ("super" : Str)).isSome = false
section
variable {prog : Program} {w : World} {A : Around} {E : Value → Shared → Prop} {R : Result → Shared → Prop} {s : Shared} {K : Frag} {mg : Str → Option Value} {C fI cc cda : Addr}
theorem call_ve {u e t0 : Addr} {rest : List Value} {nm q : Str} {N : Addr} {bs bm : List Value} {hdct : Bool} {sn : List Str} {sub : List Value} {ab : Bool} {col : Option Bool} {dd : Option Addr} {k0 k1 k2 k3 k5 : Option Value} {h : Heap} {g : Array GenState} {d : Drawn} {t : Nat} {os : OsState} {Q : Value → Shared → Prop}
    (hC : h.get? C = some (excClassObj nm q C N bs bm hdct sn sub ab col dd k0 k1 k2 k3 k5 "ValueError.__new__")) (he : h.get? e = some (excO C t0)) (hu : h.get? u = some (kxs_mw "ValueError.__init__" e)) (hrest : rest.length ≤ sizeLine)
    (hq : ∀ h' t1, (∀ b o, b ≠ e → h.get? b = some o → h'.get? b = some o) → h'.get? e = some (excO C t1) → Q .none ⟨h', g, d, t, os⟩) :
    wpAny (model prog w) A (call (.ref u) rest) Q E ⟨h, g, d, t, os⟩ := by
  refine wpAny_call (codeAny_of_tree ?_)
  show wpAny _ A.in1 (callAny (.ref u) ⟨rest, []⟩) _ _ _
  simp only [callAny]
  refine wpAny_bind (wpAny_load hu ?_)
  simp only [kxs_mw, show (Value.type "method-wrapper" == Value.type "method" || Value.type "method-wrapper" == Value.type "builtin_function_or_method" || Value.type "method-wrapper" == Value.type "method-wrapper") = true by decide, if_true]
  refine KFB.if_so (by decide) ?_
  refine wpAny_bind (check_bound_init F.excBase_ValueError.toExcCallFacts hC he rfl ?_)
  refine wpAny_bind (wpAny_pure (wpAny_pure ?_))
  refine ⟨plainId_quiet F.excBase_ValueError.init.plain _, codeAny_builtin F.excBase_ValueError.initEntry ?_⟩
  exact exc_init_tree (cls := .ref C) (t0 := t0) (dv := none) (c2 := .none) (c3 := .none) (b4 := .bool false) he hrest fun h' k e' _ => hq h' _ k e'
/-- super().__init__(tx) in the __init__ that runs over x -/
theorem sup_stmt {tx : Str} {j : Nat} {q1 q2 q3 q4 q5 q6 : Pos} {body : List Stmt} {sc : Scope} {qual : Str} {L x t0 : Addr} {m mb : Str → Option Value} {fd : FuncData} {ar : Arg} {oc : Value} {od : Option Addr} {osl : Array (Option Value)} {Q : Flow → Shared → Prop} (T : ExCls prog K mg C fI cc cda) (X : K.In s.heap)
    (hg : s.heap.Ns mainGlobals mg) (hb : s.heap.Ns builtinsNs mb) (hbt : mb "super" = bootBuiltins "super") (hx : s.heap.get? x = some (excO C t0)) (hns : s.heap.Ns L m) (hv : m "self" = some (.ref x)) (hxL : x ≠ L)
    (hf : K.lookup fI = some ⟨oc, od, .func fd, osl⟩) (hp : (fd.params.posonlyargs ++ fd.params.args).head? = some ar) (har : ar.arg = ("self" : Str)) (hk : sc.kind = .function) (hs1 : sc.names.lookup ("super" : Str) = some .globalImplicit) (hs2 : sc.names.lookup ("__class__" : Str) = some .free) (hs3 : sc.names.lookup ("self" : Str) = some .local)
    (hsw : swapsWith (.Call (.Attribute (.Call (.Name "super" q1) [] [] q2) "__init__" q3) [.Constant (.str tx) j q4] [] q5) none q6.line (ksEnv qual sc L fI (.ref cda) cc) = pure false)
    (hev : eval (.Call (.Attribute (.Call (.Name "super" q1) [] [] q2) "__init__" q3) [.Constant (.str tx) j q4] [] q5) (ksEnv qual sc L fI (.ref cda) cc) = (do
      let ov ← attributeBase (.Call (.Name "super" q1) [] [] q2) "__init__" (ksEnv qual sc L fI (.ref cda) cc) (eval (.Call (.Name "super" q1) [] [] q2) (ksEnv qual sc L fI (.ref cda) cc))
      standAt q3.atName
      let (f, first) ← holding [ov] (getMethod ov "__init__" (plS q1 q2 (ksEnv qual sc L fI (.ref cda) cc)))
      callWith q5 f first (backTo q5 (starEach [.Constant (.str tx) j q4] (ksEnv qual sc L fI (.ref cda) cc))) []))
    (hq : ∀ h' tk t1, (∀ b o, b ≠ x → s.heap.get? b = some o → h'.get? b = some o) → h'.get? x = some (excO C t1) → s.heap.objs.size ≤ h'.objs.size → Q .next { s with heap := h', toks := tk }) :
    _root_.PySem.wpAt (model prog w) A (.func body (ksEnv qual sc L fI (.ref cda) cc)) (exec (supS tx j q1 q2 q3 q4 q5 q6) (ksEnv qual sc L fI (.ref cda) cc)) Q E s := by
  obtain ⟨nm, q, N, bs, bm, sn, sub, ab, col, dd, k0, k1, k2, k3, k5, hC, hbm⟩ := T.cls
  obtain ⟨cl, cld, csl, hcell⟩ := T.cell
  obtain ⟨ccl, cdd, vs, ccs, file, tf, hcode, hvs, hfile⟩ := T.code
  have hcl : clsIn K C = some { name := nm, bases := bs, mro := .ref C :: bm, ns := N, qualname := q, hasDict := true, slotNames := sn, subclasses := sub, abstract := ab, collection := col, hasDel := false } := by unfold clsIn; rw [hC] <;> rfl
  have I0 : InstAt s.heap x (excO C t0) C none := ⟨hx, rfl, rfl, trivial⟩
  have hxC : x ≠ C := ks_ne X I0 hcl
  obtain ⟨hh, g, d, t, os⟩ := s
  have hD1 : hh.get? C = some (excClassObj nm q C N bs bm true sn sub ab col dd k0 k1 k2 k3 k5 "ValueError.__new__") := X _ _ hC
  refine ks_wpAt_Expr_any (ks_wpAt_MethodCall ?_ hev) (by simp [interactive, hk]) hsw
  refine ks_wpAt_super_base (env := ksEnv qual sc L fI (.ref cda) cc) hs1 hs2 (by decide +kernel) rfl (X _ _ hf) rfl hp rfl (X _ _ hcode) rfl hvs hfile T.top ?_
  refine ks_loadName_global hk hs1 (loadGlobal_builtin (env := ksEnv qual sc L fI (.ref cda) cc) hg T.mgs hb (hbt.trans (by decide +kernel)) ⟨rfl, ?_⟩)
  refine wpAny_loadName_free hk hs2 rfl ⟨_, X _ _ hcell, rfl⟩ ?_
  rw [har]
  refine wpAny_loadName_local hk hs3 hns hv ?_
  refine ks_wpAny_isType_cls hD1 rfl ⟨rfl, ?_⟩
  refine ks_wpAny_call_super hD1 rfl hx rfl (fun c e => by cases e) (looks_mroIn X T.seC) (fun h1 e1 u1 => ?_)
  have X1 : K.In h1 := X.keeps u1
  have hx1 := u1 _ _ hx
  have I1 : InstAt h1 x (excO C t0) C none := ⟨hx1, rfl, rfl, trivial⟩
  have hI : Looks (model prog w) h1 (isInstance (.ref x) (.type "ValueError")) true := I1.type.andThen (looks_subIn X1 T.veC)
  have hsup := T.sup
  unfold ks_superIn at hsup
  rw [hcl] at hsup
  refine kxs_getMethod kxs_ValueError e1 (looks_opaque X1 T.opq) (l₀ := .ref C :: bm) ?_ rfl X1 hsup hI hxC (by decide +kernel) ?_
  · exact fun A Q E s k q => wpAny_bind ((looks_clsIn X1 hcl) A _ E s k (wpAny_pure q))
  have u2 : ∀ b o, h1.get? b = some o → (h1.push (kxs_mw "ValueError.__init__" x)).get? b = some o := fun b o e => Heap.get?_push_of_some _ e
  have hmw : (h1.push (kxs_mw "ValueError.__init__" x)).get? h1.objs.size = some (kxs_mw "ValueError.__init__" x) := Heap.get?_push_size _ rfl
  show wpAny _ _ (callWith q5 (.ref h1.objs.size) [] (backTo q5 (starEach [.Constant (.str tx) j q4] _)) []) _ _ _
  refine kxs_callWith (i := "ValueError.__init__") (x := x) (by rfl) ?_
  refine evalArgs_plain ?_
  show wpAny _ _ (spliced ((false, eval (.Constant (.str tx) j q4) _) :: backTo q5 (starEach [] _))) _ _ _
  refine spliced_cons (Constant_str ?_)
  refine spliced_nil ?_
  refine ⟨hmw, ?_⟩
  refine call_ve (u2 _ _ (X1 _ _ hC)) (u2 _ _ hx1) hmw (by show 1 ≤ sizeLine; rw [sizeLine_eq]; decide) fun h' t1 k' hx' => ?_
  have keep : ∀ b o, b ≠ x → hh.get? b = some o → h'.get? b = some o := fun b o hb e => k' b o hb (u2 _ _ (u1 _ _ e))
  have z1 : hh.objs.size < h1.objs.size := Heap.lt_size e1
  have z2 : h1.objs.size ≠ x := fun z => by
    have := Heap.lt_size hx
    rw [← z] at this
    exact Nat.lt_irrefl _ (Nat.lt_trans this z1)
  exact hq h' _ t1 keep hx' (Nat.le_of_lt (Nat.lt_trans z1 (Heap.lt_size (k' _ _ z2 hmw))))
/-- what __init__ leaves of a fresh exception at x, where it stores f -/
structure InitEnd (h h' : Heap) (x C dx t1 : Addr) (f : Str) (v : Value) : Prop where
  keep : ∀ b o, b ≠ x → h.get? b = some o → h'.get? b = some o
  obj : h'.get? x = some { cls := .ref C, dict := some dx, data := .fields #[.ref t1, .none, .none, .none, .bool false, .none] }
  dbig : h.objs.size ≤ dx
  dne : dx ≠ x
  ns : h'.Ns1 dx (fun y => if y = f then some v else none)
/-- the __init__ of a class that stores f -/
structure ExFn1 (K : Frag) (C fI cc cda : Addr) (f y : Str) : Prop where
  fn : ∃ (qual tx : Str) (j : Nat) (oc : Value) (od : Option Addr) (doc pm : Value) (an : Option Addr) (ct : Value) (osl : Array (Option Value)) (p1 p2 q1 q2 q3 q4 q5 q6 q7 q8 q9 qa : Pos),
    K.lookup fI = some ⟨oc, od, .func (ksFn "__init__" qual (iA y p1 p2) [supS tx j q1 q2 q3 q4 q5 q6, atS f y q7 q8 q9 qa] (iS y) .none .none doc pm an (.ref cda) ct cc), osl⟩ ∧ codeIn K (.ref cda) qual = true ∧
    (∀ L, swapsWith (.Call (.Attribute (.Call (.Name "super" q1) [] [] q2) "__init__" q3) [.Constant (.str tx) j q4] [] q5) none q6.line (ksEnv qual (iS y) L fI (.ref cda) cc) = pure false) ∧
    (∀ L, eval (.Call (.Attribute (.Call (.Name "super" q1) [] [] q2) "__init__" q3) [.Constant (.str tx) j q4] [] q5) (ksEnv qual (iS y) L fI (.ref cda) cc) = (do
      let ov ← attributeBase (.Call (.Name "super" q1) [] [] q2) "__init__" (ksEnv qual (iS y) L fI (.ref cda) cc) (eval (.Call (.Name "super" q1) [] [] q2) (ksEnv qual (iS y) L fI (.ref cda) cc))
      standAt q3.atName
      let (f, first) ← holding [ov] (getMethod ov "__init__" (plS q1 q2 (ksEnv qual (iS y) L fI (.ref cda) cc)))
      callWith q5 f first (backTo q5 (starEach [.Constant (.str tx) j q4] (ksEnv qual (iS y) L fI (.ref cda) cc))) [])) ∧
    (∀ L, swapsWith (.Name y q9) (some (.Attribute (.Name "self" q7) f q8)) qa.line (ksEnv qual (iS y) L fI (.ref cda) cc) = pure false)
  noN : findIn K (.ref C) f = some none
  ys : (("self" : Str) == y) = false
  yd : (y == ("__debug__" : Str)) = false
  nc : ∀ x ∈ (iS y).names, x.2 ≠ .cell
  l1 : (iS y).names.lookup ("self" : Str) = some .local
  l2 : (iS y).names.lookup y = some .local
  l3 : (iS y).names.lookup ("super" : Str) = some .globalImplicit
  l4 : (iS y).names.lookup ("__class__" : Str) = some .free
  bd : ∀ (qual : Str) (body : List Stmt) (doc pm : Value) (an : Option Addr) (cv ct : Value) (p1 p2 : Pos) (x : Addr) (v : Value), bindArgs (ksFn "__init__" qual (iA y p1 p2) body (iS y) .none .none doc pm an cv ct cc) ⟨[.ref x, v], []⟩ = pure [(("self" : Str), Value.ref x), (y, v)]
structure ExFn0 (K : Frag) (fI cc cda : Addr) : Prop where
  fn : ∃ (qual tx : Str) (j : Nat) (oc : Value) (od : Option Addr) (doc pm : Value) (an : Option Addr) (ct : Value) (osl : Array (Option Value)) (p1 q1 q2 q3 q4 q5 q6 : Pos),
    K.lookup fI = some ⟨oc, od, .func (ksFn "__init__" qual (iA0 p1) [supS tx j q1 q2 q3 q4 q5 q6] iS0 .none .none doc pm an (.ref cda) ct cc), osl⟩ ∧ codeIn K (.ref cda) qual = true ∧
    (∀ L, swapsWith (.Call (.Attribute (.Call (.Name "super" q1) [] [] q2) "__init__" q3) [.Constant (.str tx) j q4] [] q5) none q6.line (ksEnv qual iS0 L fI (.ref cda) cc) = pure false) ∧
    (∀ L, eval (.Call (.Attribute (.Call (.Name "super" q1) [] [] q2) "__init__" q3) [.Constant (.str tx) j q4] [] q5) (ksEnv qual iS0 L fI (.ref cda) cc) = (do
      let ov ← attributeBase (.Call (.Name "super" q1) [] [] q2) "__init__" (ksEnv qual iS0 L fI (.ref cda) cc) (eval (.Call (.Name "super" q1) [] [] q2) (ksEnv qual iS0 L fI (.ref cda) cc))
      standAt q3.atName
      let (f, first) ← holding [ov] (getMethod ov "__init__" (plS q1 q2 (ksEnv qual iS0 L fI (.ref cda) cc)))
      callWith q5 f first (backTo q5 (starEach [.Constant (.str tx) j q4] (ksEnv qual iS0 L fI (.ref cda) cc))) []))
theorem init0 (T : ExCls prog K mg C fI cc cda) (Fn : ExFn0 K fI cc cda) {x t0 : Addr} {mb : Str → Option Value} (X : K.In s.heap) (hlim : s.heap.NoLimit) (hg : s.heap.Ns mainGlobals mg) (hb : s.heap.Ns builtinsNs mb) (hbt : mb "super" = bootBuiltins "super") (hx : s.heap.get? x = some (excO C t0)) (hroom : A.depth < recursionLimit)
    (hq : ∀ h' tk t1, (∀ b o, b ≠ x → s.heap.get? b = some o → h'.get? b = some o) → h'.get? x = some (excO C t1) → s.heap.objs.size ≤ h'.objs.size → R (.ok (.ret .none)) { s with heap := h', toks := tk }) :
    codeAny (model prog w) A (.call (.ref fI) ⟨[.ref x], []⟩) R s := by
  obtain ⟨qual, tx, j, oc, od, doc, pm, an, ct, osl, p1, q1, q2, q3, q4, q5, q6, ho, hcd, hsw, hev⟩ := Fn.fn
  have c0 : ∀ x ∈ iS0.names, x.2 ≠ .cell := by decide +kernel
  have l0 : iS0.names.lookup ("self" : Str) = some .local := by decide +kernel
  have l1 : iS0.names.lookup ("super" : Str) = some .globalImplicit := by decide +kernel
  have l2 : iS0.names.lookup ("__class__" : Str) = some .free := by decide +kernel
  have m0 : ([(("self" : Str), Value.ref x)].reverse.lookup ("self" : Str)) = some (.ref x) := by simp [List.lookup]
  refine ks_codeAny_call_defAt (fd := ksFn "__init__" qual (iA0 p1) [supS tx j q1 q2 q3 q4 q5 q6] iS0 .none .none doc pm an (.ref cda) ct cc) (body := [supS tx j q1 q2 q3 q4 q5 q6]) (binds := [("self", .ref x)]) hroom (X _ _ ho) rfl hlim (codeRec_of X hcd) rfl (BindsTo.of_eq (by first | rfl | with_unfolding_all rfl)) c0 (by
    intro y hy
    simp at hy
    subst hy
    exact l0) (fun h₁ hns hk₁ => ?_)
  have hxL : x ≠ s.heap.objs.size := Nat.ne_of_lt (Heap.lt_size hx)
  have hsz : s.heap.objs.size < h₁.objs.size := hns.lt
  refine ks_wpAt_execs_cons ?_
  refine sup_stmt (m := fun z => [(("self" : Str), Value.ref x)].reverse.lookup z) (L := s.heap.objs.size) T (X.keeps hk₁) (hg.keeps hk₁) (hb.keeps hk₁) hbt (hk₁ _ _ hx) hns m0 hxL ho rfl rfl rfl l1 l2 l0 (hsw _) (hev _) fun h' tk t1 k hx' z => ?_
  refine wpAt_of_wpAny (wpAny_execs_nil ?_)
  exact hq h' tk t1 (fun b o hb e => k b o hb (hk₁ b o e)) hx' (Nat.le_of_lt (Nat.lt_of_lt_of_le hsz z))
theorem init1 {f y : Str} (T : ExCls prog K mg C fI cc cda) (Fn : ExFn1 K C fI cc cda f y) {x t0 : Addr} {v : Value} {mb : Str → Option Value} (X : K.In s.heap) (hlim : s.heap.NoLimit) (hg : s.heap.Ns mainGlobals mg) (hb : s.heap.Ns builtinsNs mb) (hbt : mb "super" = bootBuiltins "super") (hx : s.heap.get? x = some (excO C t0)) (hlk : K.lookup x = none) (hroom : A.depth < recursionLimit)
    (hq : ∀ h' tk dx t1, InitEnd s.heap h' x C dx t1 f v → R (.ok (.ret .none)) { s with heap := h', toks := tk }) :
    codeAny (model prog w) A (.call (.ref fI) ⟨[.ref x, v], []⟩) R s := by
  obtain ⟨qual, tx, j, oc, od, doc, pm, an, ct, osl, p1, p2, q1, q2, q3, q4, q5, q6, q7, q8, q9, qa, ho, hcd, hsw, hev, hsw2⟩ := Fn.fn
  obtain ⟨nm, q, N, bs, bm, sn, sub, ab, col, dd, k0, k1, k2, k3, k5, hC, hbm⟩ := T.cls
  have hcl : clsIn K C = some { name := nm, bases := bs, mro := .ref C :: bm, ns := N, qualname := q, hasDict := true, slotNames := sn, subclasses := sub, abstract := ab, collection := col, hasDel := false } := by unfold clsIn; rw [hC] <;> rfl
  have ys := Fn.ys
  have l1 := Fn.l1
  have l2 := Fn.l2
  have l3 := Fn.l3
  have l4 := Fn.l4
  refine ks_codeAny_call_defAt (fd := ksFn "__init__" qual (iA y p1 p2) [supS tx j q1 q2 q3 q4 q5 q6, atS f y q7 q8 q9 qa] (iS y) .none .none doc pm an (.ref cda) ct cc) (body := [supS tx j q1 q2 q3 q4 q5 q6, atS f y q7 q8 q9 qa]) (binds := [("self", .ref x), (y, v)]) hroom (X _ _ ho) rfl hlim (codeRec_of X hcd) rfl (BindsTo.of_eq (Fn.bd ..)) Fn.nc (by
    intro z hz
    simp at hz
    rcases hz with h | h
    · rw [h]; exact l1
    · rw [h]; exact l2) (fun h₁ hns hk₁ => ?_)
  have hxL : x ≠ s.heap.objs.size := Nat.ne_of_lt (Heap.lt_size hx)
  have hsz : s.heap.objs.size < h₁.objs.size := hns.lt
  have m1 : ([(("self" : Str), Value.ref x), (y, v)].reverse.lookup ("self" : Str)) = some (.ref x) := by
    simp only [List.reverse_cons, List.reverse_nil, List.nil_append, List.cons_append, List.lookup, ys, beq_self_eq_true]
  have m2 : ([(("self" : Str), Value.ref x), (y, v)].reverse.lookup y) = some v := by
    simp only [List.reverse_cons, List.reverse_nil, List.nil_append, List.cons_append, List.lookup, beq_self_eq_true]
  refine ks_wpAt_execs_cons ?_
  refine sup_stmt (m := fun z => [(("self" : Str), Value.ref x), (y, v)].reverse.lookup z) (L := s.heap.objs.size) T (X.keeps hk₁) (hg.keeps hk₁) (hb.keeps hk₁) hbt (hk₁ _ _ hx) hns m1 hxL ho rfl rfl rfl l3 l4 l1 (hsw _) (hev _) fun h2 tk t1 k hx2 z => ?_
  have X2 : K.In h2 := fun a o e => k a o (fun w => by rw [w, hlk] at e; cases e) (hk₁ _ _ (X a o e))
  have hn2 : h2.Ns s.heap.objs.size (fun z => [(("self" : Str), Value.ref x), (y, v)].reverse.lookup z) := by
    obtain ⟨oL, es, ep, e1, r⟩ := hns
    exact ⟨oL, es, ep, k _ _ (Ne.symm hxL) e1, r⟩
  refine wpAt_of_wpAny (wpAny_execs_cons (plainObj_wpAny_Assign_Attribute ?_ (hsw2 _)))
  refine wpAny_Name (wpAny_loadName_local rfl l2 hn2 m2 ?_) Fn.yd
  refine wpAny_Name (wpAny_loadName_local rfl l1 hn2 m1 ?_) (by decide)
  refine set_plain X2 (ox := excO C t1) (od := none) ⟨hx2, rfl, rfl, trivial⟩ T.sa ?_
  refine exc_osa X2 hx2 hcl (show refsVE (.ref C :: bm) = true from hbm) rfl Fn.noN (fun h₃ tk₃ dx k₃ dn dne hx₃ hn₃ => ?_)
  exact wpAny_execs_nil (hq h₃ tk₃ dx t1 ⟨fun b o hb e => k₃ b o hb (k b o hb (hk₁ b o e)), hx₃, Nat.le_of_lt (Nat.lt_of_lt_of_le hsz (Nat.le_trans z dn)), dne, hn₃⟩)

/-- a made exception -/
structure Made1 (h h' : Heap) (e C d : Addr) (f : Str) (v : Value) : Prop where
  keep : ∀ b o, h.get? b = some o → h'.get? b = some o
  new : h.objs.size ≤ e
  obj : ∃ t1, h'.get? e = some { cls := .ref C, dict := some d, data := .fields #[.ref t1, .none, .none, .none, .bool false, .none] }
  dbig : h.objs.size ≤ d
  dne : d ≠ e
  ns : h'.Ns1 d (fun y => if y = f then some v else none)
structure Made0 (h h' : Heap) (e C : Addr) : Prop where
  keep : ∀ b o, h.get? b = some o → h'.get? b = some o
  new : h.objs.size ≤ e
  obj : ∃ t1, h'.get? e = some (excO C t1)
theorem one_size (v : Value) : [v].length ≤ sizeLine := by
  rw [sizeLine_eq]
  exact (by decide : 1 ≤ 16777216)
theorem made1 {f y : Str} (T : ExCls prog K mg C fI cc cda) (Fn : ExFn1 K C fI cc cda f y) {v : Value} {mb : Str → Option Value} (X : K.In s.heap) (hlim : s.heap.NoLimit) (hg : s.heap.Ns mainGlobals mg) (hb : s.heap.Ns builtinsNs mb) (hbt : mb "super" = bootBuiltins "super") (hroom : A.depth + 1 < recursionLimit)
    (hq : ∀ h' tk e d, Made1 s.heap h' e C d f v → R (.ok (.ret (.ref e))) { s with heap := h', toks := tk }) :
    codeAny (model prog w) A (.call (.ref C) ⟨[v], []⟩) R s := by
  obtain ⟨nm, q, N, bs, bm, sn, sub, ab, col, dd, k0, k1, k2, k3, k5, hC, hbm⟩ := T.cls
  obtain ⟨hp, g, dr, tk, os⟩ := s
  have k : ∀ b o, hp.get? b = some o → ((hp.push (kdv_tup [v])).push (excO C hp.objs.size)).get? b = some o := fun b o e => Heap.get?_push_of_some _ (Heap.get?_push_of_some _ e)
  have hget : ((hp.push (kdv_tup [v])).push (excO C hp.objs.size)).get? (hp.objs.size + 1) = some (excO C hp.objs.size) := by heap_get
  have hnx : K.lookup (hp.objs.size + 1) = none := by
    cases e : K.lookup (hp.objs.size + 1) with
    | none => rfl
    | some o =>
      have z : hp.get? (hp.objs.size + 1) = some o := X _ _ e
      exact absurd (Nat.lt_of_succ_lt (Heap.lt_size z)) (Nat.lt_irrefl _)
  refine call_own F.excBase_ValueError (fun X => refsVE_contains X bm hbm) (X _ _ hC) (looks_findIn X T.iC) (fun self => bind_fn X self T.tC) (one_size v) ?_
  refine init1 (s := ⟨(hp.push (kdv_tup [v])).push (excO C hp.objs.size), g, dr, tk, os⟩) T Fn (X.keeps k) (hlim.keeps k) (hg.keeps k) (hb.keeps k) hbt hget hnx ?_ fun h' tk' dx t1 ⟨k', hx, dn, dne, hns⟩ => ?_
  · show A.depth + 1 < recursionLimit
    exact hroom
  · have old : ∀ b o, hp.get? b = some o → h'.get? b = some o := fun b o e => k' b o (Nat.ne_of_lt (Nat.lt_succ_of_lt (Heap.lt_size e))) (k b o e)
    have z : hp.objs.size + 1 + 1 ≤ dx := by
      first
        | (simpa only [Heap.size_push] using dn)
        | exact dn
        | (have q := dn; rw [Heap.size_push, Heap.size_push] at q; exact q)
    exact ⟨rfl, hq h' tk' (hp.objs.size + 1) dx ⟨old, Nat.le_succ _, ⟨_, hx⟩, Nat.le_trans (Nat.le_trans (Nat.le_succ _) (Nat.le_succ _)) z, dne, hns⟩⟩
theorem made0 (T : ExCls prog K mg C fI cc cda) (Fn : ExFn0 K fI cc cda) {mb : Str → Option Value} (X : K.In s.heap) (hlim : s.heap.NoLimit) (hg : s.heap.Ns mainGlobals mg) (hb : s.heap.Ns builtinsNs mb) (hbt : mb "super" = bootBuiltins "super") (hroom : A.depth + 1 < recursionLimit)
    (hq : ∀ h' tk e, Made0 s.heap h' e C → R (.ok (.ret (.ref e))) { s with heap := h', toks := tk }) :
    codeAny (model prog w) A (.call (.ref C) ⟨[], []⟩) R s := by
  obtain ⟨nm, q, N, bs, bm, sn, sub, ab, col, dd, k0, k1, k2, k3, k5, hC, hbm⟩ := T.cls
  obtain ⟨hp, g, dr, tk, os⟩ := s
  have k : ∀ b o, hp.get? b = some o → ((hp.push (kdv_tup [])).push (excO C hp.objs.size)).get? b = some o := fun b o e => Heap.get?_push_of_some _ (Heap.get?_push_of_some _ e)
  have hget : ((hp.push (kdv_tup [])).push (excO C hp.objs.size)).get? (hp.objs.size + 1) = some (excO C hp.objs.size) := by heap_get
  refine call_own F.excBase_ValueError (fun X => refsVE_contains X bm hbm) (X _ _ hC) (looks_findIn X T.iC) (fun self => bind_fn X self T.tC) (by rw [sizeLine_eq]; exact (by decide : 0 ≤ 16777216)) ?_
  refine init0 (s := ⟨(hp.push (kdv_tup [])).push (excO C hp.objs.size), g, dr, tk, os⟩) T Fn (X.keeps k) (hlim.keeps k) (hg.keeps k) (hb.keeps k) hbt hget ?_ fun h' tk' t1 k' hx z => ?_
  · show A.depth + 1 < recursionLimit
    exact hroom
  · have old : ∀ b o, hp.get? b = some o → h'.get? b = some o := fun b o e => k' b o (Nat.ne_of_lt (Nat.lt_succ_of_lt (Heap.lt_size e))) (k b o e)
    exact ⟨rfl, hq h' tk' (hp.objs.size + 1) ⟨old, Nat.le_succ _, _, hx⟩⟩
end
end ExS
end PySem

namespace L2
open PySem PySem.Spec PyProof.Rows PySem.ExS
section
variable {X : Cx} {pins : List (Addr × Obj)} {σ : L2.St} {H : Hp} {s : Shared} {C fI cc cda : Addr} {f y x : Str} {k : Nat} {e : Expr} {es : List Expr} {te : TE} {ta : TA} {p pos : Pos}
theorem xd_ok {P : Program} {w : World} {H : Hp} {h : Heap} {d : Addr} {f : Str} {v : V} {u : Value} (r : RelV v u) (hn : h.Ns1 d (fun y => if y = f then some u else none)) : ObjOk P w H h d (exd d [(f, v)]) :=
  exd_ok hn (relO_put (fs := []) r fun g => True.intro)
/-- two new objects are laid and tracked -/
theorem Inv.laid2 {h' : Heap} {a d : Addr} {o u : HO} {t' : Nat} (I : Inv X pins σ H s) (k : ∀ b w, s.heap.get? b = some w → h'.get? b = some w) (ha : s.heap.objs.size ≤ a) (hd : s.heap.objs.size ≤ d) (ne : d ≠ a) (no : ∀ x, u ≠ .own x) (nt : ∀ xs, u ≠ .tup xs) (no2 : ∀ x, o ≠ .own x) (nt2 : ∀ xs, o ≠ .tup xs)
    (n1 : ObjOk X.prog X.w (upd (upd H d u) a o) h' d u) (n2 : ObjOk X.prog X.w (upd (upd H d u) a o) h' a o) : Inv X pins σ (upd (upd H d u) a o) { s with heap := h', toks := t' } := by
  have fa : H a = none := I.hok.fresh ha
  have fd : H d = none := I.hok.fresh hd
  have na : ∀ {b w}, s.heap.get? b = some w → b ≠ a := fun {b w} q => Nat.ne_of_lt (Nat.lt_of_lt_of_le (Heap.lt_size q) ha)
  have nd : ∀ {b w}, s.heap.get? b = some w → b ≠ d := fun {b w} q => Nat.ne_of_lt (Nat.lt_of_lt_of_le (Heap.lt_size q) hd)
  have up : ∀ {b w}, H b = some w → upd (upd H d u) a o b = some w := fun {b w} q => by rw [upd_ne (ne_of_none q fa), upd_ne (ne_of_none q fd)]; exact q
  refine I.un ⟨fun b w q n _ _ => k b w q, fun b w q n _ _ => ⟨w.slots, k b w q⟩, fun b w q n _ => by rw [upd_ne (na q), upd_ne (nd q)]; exact n, fun b w q _ => ⟨w, k b w q⟩, fun b xs q => up q, fun b w xs q => up q, fun b ps q => ⟨#[], by rw [up q]; simp⟩⟩ fun b w q => ?_
  by_cases hb : b = a
  · subst hb; rw [upd_same] at q; cases q; exact n2
  · rw [upd_ne hb] at q
    by_cases hb2 : b = d
    · subst hb2; rw [upd_same] at q; cases q; exact n1
    · rw [upd_ne hb2] at q
      exact (I.hok b w q).stay (fun c v _ z => k c v z) (fun c z => up z) fun c xs z => up z
/-- the value of C(e): a new exception, held -/
def tExV1 (C : Addr) (f : Str) (ta : TA) : TE := fun σ H Q => ta σ H fun vs H1 => ∃ v, vs = [v] ∧ ∀ a d, H1 a = none → H1 d = none → d ≠ a → Q (.ref a) (upd (upd H1 d (exd d [(f, v)])) a (exo a C (some d)))
def tExV0 (C : Addr) : TE := fun σ H Q => ∀ a, H a = none → Q (.ref a) (upd H a (exo a C none))
theorem pe_exv1 (T : ExCls X.prog X.K X.mg C fI cc cda) (Fn : ExFn1 X.K C fI cc cda f y) (hr : Room k X.A) (he : PA X [e] ta) (hm : X.mg x = some (.ref C)) (hg : Gl X x := by rfl) (hdb : (x == ("__debug__" : Str)) = false := by decide)
    (hst : starEach [e] X.env = [(false, eval e X.env)] := by rfl) (hpl : (backTo pos (starEach [] X.env)).any (·.1) = false := by rfl) : PE X (.Call (.Name x p) [e] [] pos) (tExV1 C f ta) := by
  refine ⟨fun pins s σ H Q I h => ?_⟩
  refine wpAny_Call_Name_kw (ld_glob I hg hm ?_ hdb)
  refine PySem.W.callWith_K (h₀ := X.base) I.ok.mod.kin T.kC (thn (he.run pos pins s σ H _ I h) fun us s1 ⟨vs, H1, I1, r1, v, ev, q⟩ => ⟨I1.kIn, ?_⟩) hst hpl
  subst ev
  obtain ⟨u, rfl, ru⟩ := vals1 r1
  show wpAny _ _ (call (.ref C) [u]) _ _ _
  obtain ⟨mb, h1, h2⟩ := I1.mod.blt
  have hlim := I1.nolimit
  have kin := I1.kIn
  have g1 := I1.mod.glob.keeps I1.bk
  have g2 := h1.keeps I1.bk
  obtain ⟨hp, g, dr, tk, os⟩ := s1
  refine wpAny_call (made1 T Fn kin hlim g1 g2 (h2 _ (by decide)) (by have := hr.dp; omega) fun h' tk' e d M => ?_)
  obtain ⟨t1, ho⟩ := M.obj
  have J := I1.laid2 (t' := tk') (o := exo e C (some d)) (u := exd d [(f, v)]) M.keep M.new M.dbig M.dne (fun x => exd_own) (fun xs => exd_tup) (fun x => exo_own) (fun xs => exo_tup) (xd_ok ru M.ns) (exo_ok ho)
  exact ⟨.ref e, _, J, rfl, q e d (I1.hok.fresh M.new) (I1.hok.fresh M.dbig) M.dne⟩
theorem pe_exv0 (T : ExCls X.prog X.K X.mg C fI cc cda) (Fn : ExFn0 X.K fI cc cda) (hr : Room k X.A) (hm : X.mg x = some (.ref C)) (hg : Gl X x := by rfl) (hdb : (x == ("__debug__" : Str)) = false := by decide) : PE X (.Call (.Name x p) [] [] pos) (tExV0 C) := by
  refine ⟨fun pins s σ H Q I h => ?_⟩
  refine wpAny_Call_Name_kw (ld_glob I hg hm ?_ hdb)
  refine PySem.W.callWith_K0 I.kIn T.kC ?_
  show wpAny _ _ (call (.ref C) []) _ _ _
  obtain ⟨mb, h1, h2⟩ := I.mod.blt
  have hlim := I.nolimit
  have kin := I.kIn
  have g1 := I.mod.glob.keeps I.bk
  have g2 := h1.keeps I.bk
  obtain ⟨hp, g, dr, tk, os⟩ := s
  refine wpAny_call (made0 T Fn kin hlim g1 g2 (h2 _ (by decide)) (by have := hr.dp; omega) fun h' tk' e M => ?_)
  obtain ⟨t1, ho⟩ := M.obj
  have J : Inv X pins σ (upd H e (exo e C none)) ⟨h', g, dr, tk', os⟩ := I.laid (t' := tk') (o := exo e C none) M.keep M.new (exo_ok ho)
  exact ⟨.ref e, _, J, rfl, h e (I.hok.fresh M.new)⟩
/-- e.f, e an exception that is held -/
def tExF (C : Addr) (f : Str) (te : TE) : TE := fun σ H Q => te σ H fun x H1 => ∃ a d fs v, x = .ref a ∧ H1 a = some (exo a C (some d)) ∧ H1 d = some (exd d fs) ∧ fs.lookup f = some v ∧ Q v H1
theorem pe_exf (T : ExCls X.prog X.K X.mg C fI cc cda) (hno : PySem.W.findIn X.K (.ref C) f = some none) (he : PE X e te) (hb : attributeBase e f X.env (eval e X.env) = eval e X.env := by rfl) : PE X (.Attribute e f pos) (tExF C f te) := by
  refine ⟨fun pins s σ H Q I h => ?_⟩
  refine attr_of hb (thn (he.run pins s σ H _ I h) fun u s1 hh => ?_)
  obtain ⟨x, H1, I1, rx, a, d, fs, v, ex, ea, ed, l, q⟩ := hh
  subst ex
  obtain rfl : u = Value.ref a := rx
  obtain ⟨t1, ha⟩ := exo_at I1.hok ea
  obtain ⟨mA, hns, hr⟩ := exd_at I1.hok ed
  obtain ⟨od, ho, hl⟩ := lookIn_ns hns
  obtain ⟨u, hu, ru⟩ := RelO.some_of (v := v) (o := mA f) (by rw [← l]; exact hr f)
  have J : PySem.W.InstAt s1.heap a { cls := .ref C, dict := some d, data := .fields #[.ref t1, .none, .none, .none, .bool false, .none] } C (some od) := ⟨ha, rfl, rfl, ho⟩
  exact HandSPX.exc_get I1.kIn J T.ga T.gg T.exC (PySem.W.findObj_own T.hdC hno rfl (by rw [hl, hu])) (handed_of ru) ⟨v, H1, I1.tok _, ru, q⟩
end
end L2

set_option Elab.async false
set_option linter.all false
set_option maxRecDepth 100000
set_option maxHeartbeats 4000000
/-! Fd7: lists joined, repeated, extended; all; count; == of data; exceptions as data. -/
namespace Fd
open PySem PySem.Spec PyProof.Rows L2
section
variable {T : List (Addr × Str)} {X : Cx} {ss : SS} {P : Post} {a b e : Expr} {es : List Expr} {xs ys : List D} {d : D} {x : Str} {p pos : Pos}
/-- xs + ys: a new list -/
theorem ev_cat (hl : xs.length + ys.length ≤ 100000) (ha : EV T X a ss (.lst xs)) (hb : EV T X b ss (.lst ys)) : EV T X (.BinOp a .Add b pos) ss (.lst (xs ++ ys)) :=
  ev_op op_cat ha hb fun B F H σ v u Q R i1 i2 q => by
    obtain ⟨l, vs, rfl, e1, e2⟩ := i1
    obtain ⟨m, us, rfl, f1, f2⟩ := i2
    refine ⟨l, m, vs, us, rfl, rfl, R.sub _ _ e1, R.sub _ _ f1, by rw [e2.length, f2.length]; exact small_len hl, fun p hp => ?_⟩
    have n := Nx.alloc (T := T) (o := .lst (vs ++ us)) R.sub hp
    exact q _ _ _ n (R.grow n) ⟨p, _, rfl, upd_same, IsL.mono n.f _ (e2.append f2)⟩
theorem isL_rep {K : PySem.W.Frag} {F : Hp} {xs : List D} {vs : List V} (h : IsL K F xs vs) : ∀ n : Nat, IsL K F (List.replicate n xs).flatten (List.replicate n vs).flatten
  | 0 => rfl
  | n + 1 => by
    rw [List.replicate_succ, List.replicate_succ, List.flatten_cons, List.flatten_cons]
    exact h.append (isL_rep h n)
/-- xs * k -/
theorem ev_rep {k : Int} (hk : 0 ≤ k ∧ k ≤ 1000) (hl : xs.length * k.toNat ≤ 100000) (ha : EV T X a ss (.lst xs)) (hb : EV T X b ss (.int k)) : EV T X (.BinOp a .Mult b pos) ss (.lst (List.replicate k.toNat xs).flatten) :=
  ev_op op_rep ha hb fun B F H σ v u Q R i1 i2 q => by
    obtain ⟨l, vs, rfl, e1, e2⟩ := i1
    refine ⟨l, k, vs, rfl, i2, R.sub _ _ e1, by omega, by omega, by rw [e2.length]; exact small_len hl, fun p hp => ?_⟩
    have n := Nx.alloc (T := T) (o := .lst (List.replicate k.toNat vs).flatten) R.sub hp
    exact q _ _ _ n (R.grow n) ⟨p, _, rfl, upd_same, IsL.mono n.f _ (isL_rep e2 _)⟩
/-- x.extend(ys) -/
theorem sv_extend (i : Nat) {x : Str} {px ap cp : Pos} (hx : ss[i]? = some (.own xs)) (he : EV T X e ss (.lst ys)) (k : P.nx (ss.set i (.own (xs ++ ys)))) (hl : xs.length + ys.length ≤ 100000)
    (hp : ∀ {te : TE}, PE X e te → PE X (.Call (.Attribute (.Name x px) "extend" ap) [e] [] cp) (tBM X.K "list" rExtend (tVar i) (tCons te tNil)) := by
      intro te h; exact pe_bm PySem.F.plainAttrs_list PySem.F.slot_list_extend PySem.F.type_list_extend mt_extend (pv _) (pa_cons h pa_nil))
    (hs : swapsWith (.Call (.Attribute (.Name x px) "extend" ap) [e] [] cp) none pos.line X.env = pure false := by rfl) :
    SV T X (.Expr (.Call (.Attribute (.Name x px) "extend" ap) [e] [] cp) pos) ss P := by
  refine SV.of (ps_expr (hp he) hs) fun B F H σ Dn R g => ?_
  have hi : i < ss.length := (List.getElem?_eq_some_iff.mp hx).1
  have hsl : i < σ.length := by rw [R.len]; exact hi
  obtain ⟨p, vs, e1, e2, e3, e4⟩ := R.slots i _ _ hx (List.getElem?_eq_getElem hsl)
  have hσ : σ[i]? = some (some (.ref p)) := by rw [List.getElem?_eq_getElem hsl, e1]
  refine ⟨.ref p, hσ, .inl ⟨rfl, vs, SqL.of e3⟩, ev_go R fun v F1 H1 n1 R1 i1 => ?_⟩
  obtain ⟨p', vs', q1, q2, q3, q4⟩ := R1.slots i _ _ hx (List.getElem?_eq_getElem hsl)
  rw [q1] at e1
  cases e1
  obtain ⟨m, us, rfl, f1, f2⟩ := i1
  refine ⟨p, m, _, us, rfl, rfl, q3, R1.sub _ _ f1, ?_, g.nx _ _ _ _ k (R1.chg hx rfl hσ rfl q2 ⟨p, _, rfl, q2, upd_same, q4.append f2⟩)⟩
  rw [q4.length, f2.length]
  exact small_len hl
theorem isL_bl {K : PySem.W.Frag} {F : Hp} : ∀ {bs : List Bool} {vs : List V}, IsL K F (bs.map D.bl) vs → vs = bs.map V.bl
  | [], _, h => h
  | b :: bs, _, h => by
    obtain ⟨v, r, rfl, h1, h2⟩ := h
    cases h1
    rw [isL_bl h2]
    rfl
/-- all(list of truth values) -/
theorem ev_all {bs : List Bool} (ha : EV T X e ss (.lst (bs.map D.bl))) (hm : X.mg "all" = none) (hc : X.calm = true := by rfl) (hg : Gl X "all" := by rfl) (he : starEach [e] X.env = [(false, eval e X.env)] := by rfl) : EV T X (.Call (.Name "all" p) [e] [] pos) ss (.bl (bs.all id)) :=
  ev_blt (cr_all hc) (evs_cons ha evs_nil he) hm (by decide +kernel) (fun B F H σ vs Q R i1 q => by
    obtain ⟨v, rfl, h⟩ := isL1 i1
    obtain ⟨l, us, rfl, e1, e2⟩ := h
    rw [isL_bl e2] at e1
    exact ⟨l, bs, rfl, SqL.of (R.sub _ _ e1), q _ F H R.nx R rfl⟩) hg (he := he)
theorem ev_any {bs : List Bool} (ha : EV T X e ss (.lst (bs.map D.bl))) (hm : X.mg "any" = none) (hc : X.calm = true := by rfl) (hg : Gl X "any" := by rfl) (he : starEach [e] X.env = [(false, eval e X.env)] := by rfl) : EV T X (.Call (.Name "any" p) [e] [] pos) ss (.bl (bs.any id)) :=
  ev_blt (cr_any hc) (evs_cons ha evs_nil he) hm (by decide +kernel) (fun B F H σ vs Q R i1 q => by
    obtain ⟨v, rfl, h⟩ := isL1 i1
    obtain ⟨l, us, rfl, e1, e2⟩ := h
    rw [isL_bl e2] at e1
    exact ⟨l, bs, rfl, SqL.of (R.sub _ _ e1), q _ F H R.nx R rfl⟩) hg (he := he)
/-! list.count(True) -/
def rCntB (K : PySem.W.Frag) : V → List V → Hp → VK → Prop := fun x xs H Q => ∃ (p : Addr) (bs : List Bool), x = .ref p ∧ xs = [.bl true] ∧ SqL K H p (bs.map V.bl) ∧ Q (.int ((bs.filter id).length : Nat)) H
def eqT : Value → Bool
  | .bool b => b
  | _ => false
theorem bool_vals : ∀ {bs : List Bool} {its : List Value}, Vals (bs.map V.bl) its → its = bs.map Value.bool
  | [], _, .nil => rfl
  | b :: bs, _, .cons r t => by
    cases r
    rw [bool_vals t]
    rfl
theorem count_bools : ∀ bs : List Bool, (bs.map Value.bool).countP eqT = (bs.filter id).length
  | [] => rfl
  | b :: bs => by
    rw [List.map_cons, List.countP_cons, count_bools bs, List.filter_cons]
    cases b
    · rfl
    · simp [eqT]
theorem mt_cntB : MtR X "list.count" (rCntB X.K) := by
  intro pins s σ H x xs v us Q I rx rxs h
  obtain ⟨p, bs, rfl, rfl, hs, q⟩ := h
  cases rx
  obtain ⟨u, rfl, ru⟩ := rxs.one
  obtain rfl : u = Value.bool true := ru
  obtain ⟨its, rv, ⟨⟨cls, dd, data, sl⟩, n, ho, hc, hdn, hd⟩, hlen⟩ := I.list hs
  simp only at hc hd
  subst hc hd
  have hi := bool_vals rv
  subst hi
  refine call_meets PySem.F.slot_list_count ⟨_, ho, rfl⟩ PySem.F.entry_list_count (PySem.F.args_list_count_2 _ _)
    (SeqAt.list_countAt p (bs.map Value.bool).toArray n dd sl (.bool true) eqT) ⟨ho, fun y hy => ?_, ?_⟩
  · have hy' : y ∈ bs.map Value.bool := by simpa using hy
    obtain ⟨b, _, rfl⟩ := List.mem_map.mp hy'
    have := eqAt_V (A := X.A.in1) (s := s) (y := .bl b) (x := .bl true) (u := .bool b) (v := .bool true) rfl rfl rfl rfl
    cases b <;> exact this
  · refine ⟨.int ((bs.filter id).length : Nat), H, I.tok _, ⟨s.toks, ?_⟩, q⟩
    show Value.int (((bs.map Value.bool).toArray.toList.countP eqT : Nat) : Int) s.toks = _
    rw [show (bs.map Value.bool).toArray.toList = bs.map Value.bool from rfl, count_bools]
theorem ev_countT {o : Expr} {bs : List Bool} {ap cp bp : Pos} {j} (ho : EV T X o ss (.lst (bs.map D.bl)))
    (hp : ∀ {to te : TE}, PE X o to → PE X (.Constant (.bool true) j bp) te → PE X (.Call (.Attribute o "count" ap) [.Constant (.bool true) j bp] [] cp) (tBM X.K "list" (rCntB X.K) to (tCons te tNil)) := by
      intro to te h h2; exact pe_bm PySem.F.plainAttrs_list PySem.F.slot_list_count PySem.F.type_list_count mt_cntB h (pa_cons h2 pa_nil)) :
    EV T X (.Call (.Attribute o "count" ap) [.Constant (.bool true) j bp] [] cp) ss (.int ((bs.filter id).length : Nat)) :=
  EV.of (hp ho (ev_bl (ss := ss))) fun B F H σ Q R q => ev_go R fun v F1 H1 n1 R1 i1 => by
    obtain ⟨l, us, rfl, e1, e2⟩ := i1
    rw [isL_bl e2] at e1
    refine ⟨.inl ⟨rfl, _, SqL.of (R1.sub _ _ e1)⟩, ev_go R1 fun w F2 H2 n2 R2 i2 => ?_⟩
    cases i2
    exact ⟨l, bs, rfl, rfl, SqL.of (R2.sub _ _ (n2.f _ _ e1)), q _ F2 H2 (n1.trans n2) R2 rfl⟩
end
/-! ### == of data -/
mutual
def D.py : D → Option PyData
  | .non => some .none | .bl b => some (.bool b) | .int i => some (.int i) | .str x => some (.str x)
  | .lst xs => (D.pys xs).map .list | .rdl xs => (D.pys xs).map .list | .tup xs => (D.pys xs).map .tuple
  | _ => none
def D.pys : List D → Option (List PyData)
  | [] => some []
  | x :: xs => match D.py x, D.pys xs with
    | some p, some ps => some (p :: ps)
    | _, _ => none
end
section
variable {K : PySem.W.Frag} {F H : Hp}
mutual
theorem py_dp (e : Ext F H) : ∀ (d : D) {v : V} {p : PyData}, Is K F d v → d.py = some p → Dp K H v p
  | .non, _, _, h, q => by cases h; cases q; exact .non
  | .bl b, _, _, h, q => by cases h; cases q; exact .bl b
  | .int i, _, _, h, q => by cases h; cases q; exact .int i
  | .str x, _, _, h, q => by cases h; cases q; exact .str x
  | .lst xs, _, _, h, q => by
    obtain ⟨a, vs, rfl, e1, e2⟩ := h
    obtain ⟨ps, hp, rfl⟩ := Option.map_eq_some_iff.mp q
    exact .lst (SqL.of (e _ _ e1)) (pys_dp e xs e2 hp)
  | .rdl xs, _, _, h, q => by
    obtain ⟨a, vs, rfl, e1, e2⟩ := h
    obtain ⟨ps, hp, rfl⟩ := Option.map_eq_some_iff.mp q
    exact .lst (ext_seqL e e1) (pys_dp e xs e2 hp)
  | .tup xs, _, _, h, q => by
    obtain ⟨a, vs, rfl, e1, e2⟩ := h
    obtain ⟨ps, hp, rfl⟩ := Option.map_eq_some_iff.mp q
    exact .tup (ext_seqT e e1) (pys_dp e xs e2 hp)
  | .ins _ _ _, _, _, _, q => by cases q
  | .dct _ _, _, _, _, q => by cases q
  | .tk _, _, _, _, q => by cases q
  | .dcT _ _, _, _, _, q => by cases q
  | .exc _ _ _, _, _, _, q => by cases q
  | .adr _, _, _, _, q => by cases q
  | .ty _, _, _, _, q => by cases q
theorem pys_dp (e : Ext F H) : ∀ (ds : List D) {vs : List V} {ps : List PyData}, IsL K F ds vs → D.pys ds = some ps → DpAll K H vs ps
  | [], _, _, h, q => by cases (show _ = _ from h); cases q; exact .nil
  | x :: xs, _, _, h, q => by
    obtain ⟨v, r, rfl, h1, h2⟩ := h
    unfold D.pys at q
    cases e1 : D.py x with
    | none => rw [e1] at q; cases q
    | some p =>
      cases e2 : D.pys xs with
      | none => rw [e1, e2] at q; cases q
      | some ps =>
        rw [e1, e2] at q
        cases q
        exact .cons (py_dp e x h1 e1) (pys_dp e xs h2 e2)
end
end
section
variable {T : List (Addr × Str)} {X : Cx} {ss : SS} {a b : Expr} {pos : Pos} {x y : D} {p q : PyData} {k : Nat}
theorem opD_eq (hr : Room k X.A) : OpD T X (compareOp .Eq) (fun x y d => ∃ p q, x.py = some p ∧ y.py = some q ∧ SeqAt.shaped p = true ∧ SeqAt.shaped q = true ∧ d = .bl (PyData.eqv p q)) := fun pins s σ H x y v u Q I rx ry ⟨F, dx, dy, d, e, nt, tb, i1, i2, ⟨p, q, h1, h2, h3, h4, h5⟩, k⟩ => by
  subst h5
  exact op_eqD hr.units pins s σ H x y v u Q I rx ry ⟨p, q, py_dp e _ i1 h1, py_dp e _ i2 h2, h3, h4, k _ F H (Nx.refl e) rfl⟩
theorem opD_ne (hr : Room k X.A) : OpD T X (compareOp .NotEq) (fun x y d => ∃ p q, x.py = some p ∧ y.py = some q ∧ SeqAt.shaped p = true ∧ SeqAt.shaped q = true ∧ d = .bl (!PyData.eqv p q)) := fun pins s σ H x y v u Q I rx ry ⟨F, dx, dy, d, e, nt, tb, i1, i2, ⟨p, q, h1, h2, h3, h4, h5⟩, k⟩ => by
  subst h5
  exact op_neD hr.units pins s σ H x y v u Q I rx ry ⟨p, q, py_dp e _ i1 h1, py_dp e _ i2 h2, h3, h4, k _ F H (Nx.refl e) rfl⟩
theorem tv_neD (hr : Room k X.A) (ha : EV T X a ss x) (hb : EV T X b ss y) (h1 : x.py = some p) (h2 : y.py = some q) (h3 : SeqAt.shaped p = true) (h4 : SeqAt.shaped q = true) : TV T X (.Compare a [.NotEq] [b] pos) ss (!PyData.eqv p q) :=
  tv_cmpD (opD_ne hr) ha hb ⟨p, q, h1, h2, h3, h4, rfl⟩
theorem tv_eqD (hr : Room k X.A) (ha : EV T X a ss x) (hb : EV T X b ss y) (h1 : x.py = some p) (h2 : y.py = some q) (h3 : SeqAt.shaped p = true) (h4 : SeqAt.shaped q = true) : TV T X (.Compare a [.Eq] [b] pos) ss (PyData.eqv p q) :=
  tv_cmpD (opD_eq hr) ha hb ⟨p, q, h1, h2, h3, h4, rfl⟩
end
/-! ### exceptions that are held -/
section
open PySem.ExS
variable {T : List (Addr × Str)} {X : Cx} {ss : SS} {e c : Expr} {es : List Expr} {d : D} {x f y : Str} {p pos : Pos} {C fI cc cda : Addr} {k : Nat}
theorem ev_exc1 (EC : ExCls X.prog X.K X.mg C fI cc cda) (Fn : ExFn1 X.K C fI cc cda f y) (hr : Room k X.A) (hm : X.mg x = some (.ref C)) (he : EV T X e ss d) (hg : Gl X x := by rfl) (hdb : (x == ("__debug__" : Str)) = false := by decide)
    (hst : starEach [e] X.env = [(false, eval e X.env)] := by rfl) (hpl : (backTo pos (starEach [] X.env)).any (·.1) = false := by rfl) : EV T X (.Call (.Name x p) [e] [] pos) ss (.exc C [f] [d]) :=
  EV.of (pe_exv1 EC Fn hr (evs_cons he evs_nil hst) hm hg hdb hst hpl) fun B F H σ Q R q => evs_go R fun vs F1 H1 n1 R1 i1 => by
    obtain ⟨v, rfl, h⟩ := isL1 i1
    refine ⟨v, rfl, fun a dd ha hd ne => ?_⟩
    have m1 := Nx.alloc (T := T) (o := exd dd [(f, v)]) R1.sub hd
    have ha' : upd H1 dd (exd dd [(f, v)]) a = none := by rw [upd_ne (Ne.symm ne)]; exact ha
    have m2 := Nx.alloc (T := T) (o := exo a C (some dd)) (F := upd F1 dd (exd dd [(f, v)])) m1.s ha'
    have m := (n1.trans m1).trans m2
    refine q _ _ _ m (R.grow m) ⟨a, some dd, [(f, v)], rfl, upd_same, rfl, .cons (Is.mono (m1.f.trans m2.f) _ h) .nil, fun d' e' => ?_, fun z => nomatch z⟩
    cases e'
    rw [upd_ne ne, upd_same]
theorem ev_exc0 (EC : ExCls X.prog X.K X.mg C fI cc cda) (Fn : ExFn0 X.K fI cc cda) (hr : Room k X.A) (hm : X.mg x = some (.ref C)) (hg : Gl X x := by rfl) (hdb : (x == ("__debug__" : Str)) = false := by decide) : EV T X (.Call (.Name x p) [] [] pos) ss (.exc C [] []) :=
  EV.of (pe_exv0 EC Fn hr hm hg hdb) fun B F H σ Q R q => fun a ha => by
    have m := Nx.alloc (T := T) (o := exo a C none) R.sub ha
    exact q _ _ _ m (R.grow m) ⟨a, none, [], rfl, upd_same, rfl, rfl, (fun d' e' => nomatch e'), fun _ => rfl⟩
theorem ev_excF (EC : ExCls X.prog X.K X.mg C fI cc cda) (hno : PySem.W.findIn X.K (.ref C) f = some none) (he : EV T X e ss (.exc C [f] [d])) (hb : attributeBase e f X.env (eval e X.env) = eval e X.env := by rfl) : EV T X (.Attribute e f pos) ss d :=
  EV.of (pe_exf EC hno he hb) fun B F H σ Q R q => ev_go R fun v F1 H1 n1 R1 i1 => by
    obtain ⟨a, od, fs, rfl, e1, e2, e3, e4, e5⟩ := i1
    cases fs with
    | nil => cases e2
    | cons q0 r =>
      cases r with
      | cons _ _ => cases e2
      | nil =>
        obtain ⟨g, v⟩ := q0
        obtain rfl : g = f := by simpa using e2
        obtain ⟨v', hv, iv⟩ := isL1 e3
        have : v = v' := by simpa using hv
        subst this
        cases od with
        | none => cases e5 rfl
        | some dd => exact ⟨a, dd, _, v, rfl, R1.sub _ _ e1, R1.sub _ _ (e4 dd rfl), by simp [List.lookup], q v F1 H1 n1 R1 iv⟩
/-- what isinstance asks of a class of exceptions -/
structure ExIs (K : PySem.W.Frag) (C : Addr) : Prop where
  cl : (PySem.W.clsIn K C).isSome = true
  ga : PySem.W.findIn K (.ref C) "__getattribute__" = some (some (.builtin "BaseException.__getattribute__"))
  gg : PySem.W.findIn K (.ref C) "__getattr__" = some none
  be : PySem.W.subIn K (.ref C) (.type "BaseException") = some true
  ca : PySem.W.findIn K (.ref C) "__class__" = some (some (.builtin "object.__class__"))
  gd : PySem.W.specialIn K (.builtin "object.__class__") "__get__" = some (some (.builtin "getset_descriptor.__get__"))
  tk : PySem.W.takesIn K (.builtin "object.__class__") = some true
  ob : PySem.W.mroIn K C (.type "object") = some true
def rIsE (K : PySem.W.Frag) : List V → Hp → VK → Prop := fun xs H Q => ∃ (a C : Addr) (od : Option Addr) (c : V) (u : Value) (b : Bool), xs = [.ref a, c] ∧ H a = some (exo a C od) ∧ (∀ d, od = some d → ∃ fs, H d = some (exd d fs)) ∧ ClsV c u ∧ ExIs K C ∧ PySem.W.kitOne K (.ref C) u = some b ∧ Q (.bl b) H
theorem call_isE : CallR X (.builtin "isinstance") (rIsE X.K) := by
  intro pins s σ H xs us Q I r h
  obtain ⟨a, C, od, c, u, b, rfl, ea, ed, k, T, e, q⟩ := h
  obtain ⟨u1, u2, rfl, r1, r2⟩ := vals2 r
  have e2 := k.eq r2
  subst e2
  cases r1
  obtain ⟨t1, ha⟩ := exo_at I.hok ea
  have J : ∃ oo, PySem.W.InstAt s.heap a { cls := .ref C, dict := od, data := .fields #[.ref t1, .none, .none, .none, .bool false, .none] } C oo := by
    cases od with
    | none => exact ⟨none, ha, rfl, rfl, trivial⟩
    | some d =>
      obtain ⟨fs, hd⟩ := ed d rfl
      obtain ⟨mA, ⟨o, es, ep, ho, _⟩, _⟩ := exd_at I.hok hd
      exact ⟨some o, ha, rfl, rfl, ho⟩
  obtain ⟨oo, J⟩ := J
  exact PySem.W.kia_one (PySem.W.kitx_exc (ox := { cls := .ref C, dict := od, data := .fields #[.ref t1, .none, .none, .none, .bool false, .none] }) (od := oo) T.cl T.ga T.gg T.be T.ca T.gd T.tk T.ob) I.kIn J e (fun z => nomatch z) fun tk => ⟨.bl b, H, I.tok tk, rfl, q⟩
/-- isinstance(e, D) -/
theorem ev_isE {ns : List Str} {xs : List D} {D' : Addr} {b : Bool} {cn : Str} {pc : Pos} (EC : ExIs X.K C) (he : EV T X e ss (.exc C ns xs)) (hcm : X.mg cn = some (.ref D')) (hk : PySem.W.kitOne X.K (.ref C) (.ref D') = some b) (hm : X.mg "isinstance" = none)
    (hcg : Gl X cn := by rfl) (hcd : (cn == ("__debug__" : Str)) = false := by decide) (hg : Gl X "isinstance" := by rfl) (hst : starEach [e, .Name cn pc] X.env = (false, eval e X.env) :: starEach [.Name cn pc] X.env := by rfl) (hst2 : starEach [.Name cn pc] X.env = [(false, eval (.Name cn pc) X.env)] := by rfl)
    (hpl : (backTo pos (starEach [.Name cn pc] X.env)).any (·.1) = false := by rfl) : EV T X (.Call (.Name "isinstance" p) [e, .Name cn pc] [] pos) ss (.bl b) :=
  EV.of (pe_callB call_isE hg hm (by decide +kernel) (pa_cons he (pa_cons (pe_glob hcg hcm (show RelV (.ref D') (.ref D') from rfl) hcd) pa_nil hst2) hst) (by decide) (by decide) hst hpl) fun B F H σ Q R q => ev_go R fun v F1 H1 n1 R1 i1 => by
    obtain ⟨a, od, fs, rfl, e1, e2, e3, e4, e5⟩ := i1
    exact ⟨a, C, od, _, _, b, rfl, R1.sub _ _ e1, fun d z => ⟨fs, R1.sub _ _ (e4 d z)⟩, .own D', EC, hk, q _ F1 H1 n1 R1 rfl⟩
/-- isinstance(e, ValueError) -/
theorem ev_isB {ns : List Str} {xs : List D} {b : Bool} {cn : Str} {tn : String} {pc : Pos} (EC : ExIs X.K C) (he : EV T X e ss (.exc C ns xs)) (hcm : X.mg cn = none) (hcv : bootBuiltins cn = some (.type tn)) (hk : PySem.W.kitOne X.K (.ref C) (.type tn) = some b) (hm : X.mg "isinstance" = none)
    (hcg : Gl X cn := by rfl) (hcn : cn ≠ "__name__" := by decide) (hcd : (cn == ("__debug__" : Str)) = false := by decide) (hg : Gl X "isinstance" := by rfl) (hst : starEach [e, .Name cn pc] X.env = (false, eval e X.env) :: starEach [.Name cn pc] X.env := by rfl) (hst2 : starEach [.Name cn pc] X.env = [(false, eval (.Name cn pc) X.env)] := by rfl)
    (hpl : (backTo pos (starEach [.Name cn pc] X.env)).any (·.1) = false := by rfl) : EV T X (.Call (.Name "isinstance" p) [e, .Name cn pc] [] pos) ss (.bl b) :=
  EV.of (pe_callB call_isE hg hm (by decide +kernel) (pa_cons he (pa_cons (pe_bltn hcg hcm hcv (show RelV (.ty tn) (.type tn) from rfl) hcn hcd) pa_nil hst2) hst) (by decide) (by decide) hst hpl) fun B F H σ Q R q => ev_go R fun v F1 H1 n1 R1 i1 => by
    obtain ⟨a, od, fs, rfl, e1, e2, e3, e4, e5⟩ := i1
    exact ⟨a, C, od, _, _, b, rfl, R1.sub _ _ e1, fun d z => ⟨fs, R1.sub _ _ (e4 d z)⟩, .ty tn, EC, hk, q _ F1 H1 n1 R1 rfl⟩
end
end Fd

set_option Elab.async false
set_option linter.all false
set_option maxRecDepth 100000
set_option maxHeartbeats 4000000
/-! Fd8: a, b = x, y; objects that are made: self.f = x in __init__, and C(..). -/
namespace Fd
open PySem PySem.Spec PyProof.Rows L2
section
variable {T : List (Addr × Str)} {X : Cx} {ss : SS} {P : Post} {a b c e : Expr} {es : List Expr} {d d1 d2 d3 : D} {x y z : Str} {pos : Pos}
theorem isL3 {K : PySem.W.Frag} {F : Hp} {x y z : D} {vs : List V} (h : IsL K F [x, y, z] vs) : ∃ u v w, vs = [u, v, w] ∧ Is K F x u ∧ Is K F y v ∧ Is K F z w := by
  obtain ⟨v, r, rfl, h1, h2⟩ := h
  obtain ⟨u, w, rfl, h3, h4⟩ := isL2 h2
  exact ⟨v, u, w, rfl, h1, h3, h4⟩
/-- a, b = x, y -/
theorem sv_par (i j : Nat) {px py pt : Pos} {kt k2 pt2} (he : EVs T X [a, b] ss [d1, d2]) (k : P.nx ((ss.set i (.d d1)).set j (.d d2))) (hN : X.N.Nodup) (hij : i ≠ j := by decide) (hc : X.calm = true := by rfl) (hi : X.N[i]? = some x := by rfl) (hj : X.N[j]? = some y := by rfl)
    (hx : X.env.scope.names.lookup x = some .local := by rfl) (hy : X.env.scope.names.lookup y = some .local := by rfl)
    (hw : swappedStores [.Tuple [.Name x px, .Name y py] kt pt] (.Tuple [a, b] k2 pt2) X.env = pure (some [x, y]) := by rfl)
    (hs : swapsWithSole [.Tuple [.Name x px, .Name y py] kt pt] (.Tuple [a, b] k2 pt2) pos.line X.env = pure false := by rfl) : SV T X (.Assign [.Tuple [.Name x px, .Name y py] kt pt] (.Tuple [a, b] k2 pt2) pos) ss P :=
  SV.of (ps_par hc hN hi hj hij hx hy he hw hs) fun B F H σ Dn R g => evs_go R fun vs F1 H1 n1 R1 i1 => by
    obtain ⟨v, w, rfl, h1, h2⟩ := isL2 i1
    exact ⟨v, w, rfl, g.nx _ _ _ _ k ((R1.put h1).put h2)⟩
theorem sv_par3 (i j l : Nat) {px py pz pt : Pos} {kt k2 pt2} (he : EVs T X [a, b, c] ss [d1, d2, d3]) (k : P.nx (((ss.set i (.d d1)).set j (.d d2)).set l (.d d3))) (hN : X.N.Nodup) (hij : i ≠ j := by decide) (hil : i ≠ l := by decide) (hjl : j ≠ l := by decide) (hc : X.calm = true := by rfl)
    (hi : X.N[i]? = some x := by rfl) (hj : X.N[j]? = some y := by rfl) (hl : X.N[l]? = some z := by rfl)
    (hx : X.env.scope.names.lookup x = some .local := by rfl) (hy : X.env.scope.names.lookup y = some .local := by rfl) (hz : X.env.scope.names.lookup z = some .local := by rfl)
    (hw : swappedStores [.Tuple [.Name x px, .Name y py, .Name z pz] kt pt] (.Tuple [a, b, c] k2 pt2) X.env = pure (some [x, y, z]) := by rfl)
    (hs : swapsWithSole [.Tuple [.Name x px, .Name y py, .Name z pz] kt pt] (.Tuple [a, b, c] k2 pt2) pos.line X.env = pure false := by rfl) : SV T X (.Assign [.Tuple [.Name x px, .Name y py, .Name z pz] kt pt] (.Tuple [a, b, c] k2 pt2) pos) ss P :=
  SV.of (ps_par3 hc hN hi hj hl hij hil hjl hx hy hz he hw hs) fun B F H σ Dn R g => evs_go R fun vs F1 H1 n1 R1 i1 => by
    obtain ⟨u, v, w, rfl, h1, h2, h3⟩ := isL3 i1
    exact ⟨u, v, w, rfl, g.nx _ _ _ _ k (((R1.put h1).put h2).put h3)⟩
/-- // by a divisor of either sign, not too great -/
def CDivX (_ j : Int) : Prop := j ≠ 0 ∧ j.natAbs.log2 < 9000
theorem op_fdivX : OpR X (binaryOp .FloorDiv) (rI CDivX fun i j => .int (i.fdiv j)) := opI fun _ _ _ _ _ _ _ hc q => floordiv_int hc.1 q (.inl (PyProof.noPylong_of_log2 hc.2))
theorem ev_fdivX {i j : Int} (hc : CDivX i j) (ha : EV T X a ss (.int i)) (hb : EV T X b ss (.int j)) : EV T X (.BinOp a .FloorDiv b pos) ss (.int (i.fdiv j)) :=
  ev_op op_fdivX ha hb fun B F H σ v u Q R i1 i2 q => ⟨i, j, i1, i2, hc, q _ F H R.nx R rfl⟩
/-! ### objects -/
theorem putF_new {f : Str} {v : V} : ∀ {fs : List (Str × V)}, f ∉ fs.map (·.1) → putF f v fs = fs ++ [(f, v)]
  | [], _ => rfl
  | (g, u) :: r, h => by
    have ne : g ≠ f := fun z => h (by simp [z])
    show (if g = f then (g, v) :: r else (g, u) :: putF f v r) = _
    rw [if_neg ne, putF_new (fs := r) fun z => h (by simp at z ⊢; exact .inr z)]
    rfl
/-- self.f = e, a new field -/
theorem sv_fldO (i : Nat) {p C : Addr} {ns : List Str} {xs : List D} {f s : Str} {po pa : Pos} (hi : ss[i]? = some (.obj p C ns xs)) (he : EV T X e ss d) (k : P.nx (ss.set i (.obj p C (ns ++ [f]) (xs ++ [d])))) (cl : Cls X.K C) (na : NoAttr X.K C f) (nf : f ∉ ns) (hl : ns.length < 1000)
    (hN : X.N[i]? = some s := by rfl) (hv : Vis X.env.scope s := by first | exact Or.inl rfl | exact Or.inr (Or.inl rfl) | exact Or.inr (Or.inr rfl)) (hd : (s == ("__debug__" : Str)) = false := by decide) (hcd : (s == ("__classdict__" : Str)) = false := by decide)
    (hs : swapsWith e (some (.Attribute (.Name s po) f pa)) pos.line X.env = pure false := by rfl) : SV T X (.Assign [.Attribute (.Name s po) f pa] e pos) ss P :=
  SV.of (ps_fld (pe_var hN hv hd hcd) he hs) fun B F H σ Dn R g => ev_go R fun v F1 H1 n1 R1 i1 => by
    have hsl : i < σ.length := by rw [R1.len]; exact (List.getElem?_eq_some_iff.mp hi).1
    obtain ⟨dx, fs, e1, e2, e3, e4, e5⟩ := R1.slots i _ _ hi (List.getElem?_eq_getElem hsl)
    have hσ : σ[i]? = some (some (.ref p)) := by rw [List.getElem?_eq_getElem hsl, e1]
    subst e4
    have key := R1.chg (o := .ins C dx (putF f v fs)) (s' := .obj p C (fs.map (·.1) ++ [f]) (xs ++ [d])) hi rfl hσ rfl e2 ⟨dx, _, rfl, e2, upd_same, by rw [putF_new nf]; simp, by rw [putF_new nf, List.map_append]; exact e5.snoc i1⟩
    exact ⟨.ref p, hσ, p, C, dx, fs, rfl, e3, cl, na, by simpa using hl, g.nx _ _ F1 _ k key⟩
end
section
variable {T : List (Addr × Str)} {K : PySem.W.Frag} {B : Hp × Hp} {F H : Hp} {σ : L2.St} {ss : SS}
/-- an own object is never changed again: a datum -/
theorem StR.freezeO {i : Nat} {C : Addr} {ns : List Str} {xs : List D} {p : Addr} (R : StR T K B F H σ ss) (h : ss[i]? = some (.obj p C ns xs)) : ∃ F', Nx T B.1 B.2 F' H ∧ Is K F' (.ins C ns xs) (.ref p) := by
  have hi : i < ss.length := (List.getElem?_eq_some_iff.mp h).1
  have hsl : i < σ.length := by rw [R.len]; exact hi
  obtain ⟨dx, fs, e, e1, e2, e3, e4⟩ := R.slots i _ _ h (List.getElem?_eq_getElem hsl)
  have hσ : σ[i]? = some (some (.ref p)) := by rw [List.getElem?_eq_getElem hsl, e]
  have hB := R.own i _ p h rfl hσ
  have xF : Ext F (upd F p (.ins C dx fs)) := Ext.upd e1
  refine ⟨upd F p (.ins C dx fs), ⟨R.bF.trans xF, R.bH, fun q u z => ?_, fun q ps z => ?_, fun q u z => ?_⟩, p, dx, fs, rfl, upd_same, e3, IsL.mono xF _ e4⟩
  · by_cases hq : q = p
    · subst hq; rw [upd_same] at z; rw [e2]; exact z
    · rw [upd_ne hq] at z; exact R.sub q u z
  · by_cases hq : q = p
    · subst hq; rw [upd_same] at z; cases z
    · rw [upd_ne hq] at z; exact absurd z (R.nt q ps)
  · by_cases hq : q = p
    · subst hq; exact .inr (.inl hB)
    · rw [upd_ne hq] at z; exact R.new q u z
end
/-- an __init__ that makes of the data ds the object d of the class C -/
def spM (T : List (Addr × Str)) (K : PySem.W.Frag) (C : Addr) (n : Nat) (pre : List D → List Str → List D → Prop) : Sp := fun vs H Q _ => ∃ H0 F p dx us ds ns xs, vs = .ref p :: us ∧ H0 p = none ∧ H0 dx = none ∧ dx ≠ p ∧ H = upd (upd H0 dx (.own p)) p (.ins C dx []) ∧ Ext F H0 ∧ (∀ p ps, F p ≠ some (.tbl ps)) ∧ LamX.Tabs T H0 ∧ IsL K F ds us ∧ ds.length = n ∧ pre ds ns xs ∧
  ∀ F1 H1, Nx T F H0 F1 H1 → Is K F1 (.ins C ns xs) (.ref p) → Q .non H1
def startO (p C : Addr) (N : List Str) (ds : List D) : SS := S.obj p C [] [] :: (ds.map S.d ++ List.replicate (N.length - (ds.length + 1)) S.no)
section
variable {T : List (Addr × Str)} {P : Program} {w : World} {K : PySem.W.Frag} {mg : Str → Option Value} {base : Heap} {C : Addr}
theorem start_strO {N : List Str} {F H : Hp} {ds : List D} {us : List V} {p dx : Addr} (hp : H p = none) (hd : H dx = none) (ne : dx ≠ p) (x : Ext F H) (nt : ∀ p ps, F p ≠ some (.tbl ps)) (tb : LamX.Tabs T H) (h : IsL K F ds us) :
    StR T K (F, H) F (upd (upd H dx (.own p)) p (.ins C dx [])) (L2.start N (.ref p :: us)) (startO p C N ds) := by
  have hF : ∀ q, H q = none → F q = none := fun q e => by
    cases z : F q with
    | none => rfl
    | some u => rw [x q u z] at e; cases e
  have hH : Ext H (upd (upd H dx (.own p)) p (.ins C dx [])) := (Ext.upd hd).trans (Ext.upd (by rw [upd_ne (Ne.symm ne)]; exact hp))
  have m0 : ∀ (i : Nat) (s : S), (startO p C N ds)[i]? = some s → s.mine = true → i = 0 := fun i s e m => by
    cases i with
    | zero => rfl
    | succ i =>
      have := start_mine (i := i) (m := N.length - (ds.length + 1)) (ds := ds) (s := s) (by simpa [startO] using e)
      rw [this] at m; cases m
  refine ⟨?_, fun _ _ h => h, .of hH, x.trans hH, nt, tb.ext hH, fun q o e => .inl (by show F q ≠ none; rw [e]; exact fun z => nomatch z), fun i s o e1 e2 => ?_, fun i s q e1 m e2 => ?_, fun i j s t q e1 e2 m1 m2 _ _ => (m0 i s e1 m1).trans (m0 j t e2 m2).symm⟩
  · unfold L2.start startO; simp [h.length]
  · cases i with
    | zero =>
      simp [startO] at e1
      subst e1
      simp [L2.start] at e2
      subst e2
      exact ⟨dx, [], rfl, hF p hp, upd_same, rfl, rfl⟩
    | succ i =>
      have e1' : (ds.map S.d ++ List.replicate (N.length - (ds.length + 1)) S.no)[i]? = some s := by simpa [startO] using e1
      have e2' : (us.map some ++ List.replicate (N.length - (ds.length + 1)) none)[i]? = some o := by
        simpa [L2.start, h.length] using e2
      have q := start_slots (N := N) (F := F) (H := H) _ i s o h e1' e2'
      have mm := start_mine e1'
      cases s with
      | no => exact True.intro
      | d x => exact q
      | own _ => cases mm
      | obj _ _ _ _ => cases mm
      | dic _ _ => cases mm
      | dicT _ _ => cases mm
  · have z := m0 i s e1 m
    subst z
    simp [L2.start] at e2
    subst e2
    exact .of hp
/-- a def of the text as it stands behind the top, its code object cdv; defaults let -/
structure FunZ (K : PySem.W.Frag) (x qual : Str) (st : Stmt) (f : Addr) (fd : FuncData) (cdv : Value) : Prop where
  ex : ∃ (oc : Value) (od : Option Addr) (dV kV doc pm : Value) (an : Option Addr) (ct : Value) (osl : Array (Option Value)),
    fd = PySem.W.fnOf x qual (defArgs st) (defBody st) (defScope st) dV kV doc pm an cdv ct ∧ K.lookup f = some ⟨oc, od, .func fd, osl⟩ ∧ PySem.W.codeIn K cdv qual = true
  kp : PySem.W.keepIn K (.ref f) = true
theorem FunZ.ok {CX : CXT} {x qual : Str} {st : Stmt} {f : Addr} {fd : FuncData} {cdv : Value} {N ps : List Str} {k : Nat} {sp : Sp} (F : FunZ K x qual st f fd cdv) (S : FnScope N ps (defScope st)) (len : ∀ vs H Q E, sp vs H Q E → vs.length = ps.length)
    (h : ∀ (A : Around) (outer : List Env) (s : Shared) (H : Hp) (vs : List V) (Q : VK) (E : XK), Room k (A.deeper (envOfC qual (defScope st) s.heap.objs.size f cdv)) → sp vs H Q E →
      ∃ t, PSs (cxOf CX P w K mg base N qual (defScope st) f cdv A outer s H E) (defBody st) t ∧ t { nx := fun _ H' => Q .non H', rt := Q } (L2.start N vs) H) : FnOk P w K mg base CX (k + 1) f fd ps sp := by
  obtain ⟨oc, od, dV, kV, doc, pm, an, ct, osl, rfl, lk, hcd⟩ := F.ex
  exact fn_of lk hcd S len h
theorem Fun.z {x qual : Str} {st : Stmt} {f : Addr} {fd : FuncData} (F : Fun K x qual st f fd) : ∃ cdv, FunZ K x qual st f fd cdv := by
  obtain ⟨oc, od, kV, doc, pm, an, cdv, ct, osl, e, lk, hcd⟩ := F.ex
  exact ⟨cdv, ⟨oc, od, .none, kV, doc, pm, an, ct, osl, e, lk, hcd⟩, F.kp⟩
/-- THE RULE for an __init__ -/
theorem init_ok {x qual : Str} {st : Stmt} {f : Addr} {fd : FuncData} {N ps : List Str} {k n : Nat} {pre : List D → List Str → List D → Prop} {cdv : Value} (F : FunZ K x qual st f fd cdv) (S' : FnScope N ps (defScope st)) (hn : ps.length = n + 1)
    (h : ∀ (A : Around) (outer : List Env) (s : Shared) (H : Hp) (E : XK) (p : Addr) (ds : List D) (ns : List Str) (xs : List D), Room k (A.deeper (envOfC qual (defScope st) s.heap.objs.size f cdv)) → ds.length = n → pre ds ns xs →
      SVs T (bodyX CX0 P w K mg base N qual st f cdv A outer s H E) (defBody st) (startO p C N ds) { nx := fun ss => ss[0]? = some (.obj p C ns xs), rt := fun _ => False }) : FnOk P w K mg base CX0 (k + 1) f fd ps (spM T K C n pre) := by
  refine F.ok S' (fun vs H Q E ⟨H0, F, p, dx, us, ds, ns, xs, e, _, _, _, _, _, _, _, i, l, _⟩ => by rw [e, hn, List.length_cons, i.length, l]) (fun A outer s H vs Q E hr hsp => ?_)
  obtain ⟨H0, F0, p, dx, us, ds, ns, xs, e, hp, hd, ne, rfl, xF, nt, tb, i, l, pr, q⟩ := hsp
  subst e
  refine ⟨_, (h A outer s _ E p ds ns xs hr l pr).nox, (F0, H0), F0, _, _, ⟨rfl, rfl⟩, start_strO hp hd ne xF nt tb i, fun ss' σ' F1 H1 e R1 => ?_, fun _ _ _ _ _ _ z => z.elim, fun _ _ _ _ z => z.elim, fun _ _ _ _ z => z.elim⟩
  obtain ⟨F2, n2, i2⟩ := R1.freezeO e
  exact q F2 H1 n2 i2
end
section
variable {T : List (Addr × Str)} {X : Cx} {ss : SS} {e : Expr} {es : List Expr} {d : D} {ds : List D} {x : Str} {p pos : Pos} {n k : Nat} {C : Addr} {ns : List Str} {xs : List D} {pre : List D → List Str → List D → Prop}
/-- the class under the module's name x, made of n data (level k), its defaults dvs -/
def MD (T : List (Addr × Str)) (P : Program) (w : World) (K : PySem.W.Frag) (mg : Str → Option Value) (base : Heap) (x : Str) (C : Addr) (n k : Nat) (pre : List D → List Str → List D → Prop) : Prop :=
  ∃ f fd ps, mg x = some (.ref C) ∧ Mk K C f ∧ ps.length = n + 1 ∧ FnOk P w K mg base CX0 k f fd ps (spM T K C n pre) ∧ Binds K fd ps []
/-- C(..) -/
theorem ev_make (G : MD T X.prog X.w X.K X.mg X.base x C n k pre) (hr : Room (k + 1) X.A) (ha : EVs T X (e :: es) ss ds) (hp : pre ds ns xs) (hn : ds.length = n := by rfl) (hg : Gl X x := by rfl) (hdb : (x == ("__debug__" : Str)) = false := by decide)
    (he : starEach (e :: es) X.env = (false, eval e X.env) :: starEach es X.env := by rfl) (hpl : (backTo pos (starEach es X.env)).any (·.1) = false := by rfl) : EV T X (.Call (.Name x p) (e :: es) [] pos) ss (.ins C ns xs) := by
  obtain ⟨f, fd, ps, h1, h2, h3, h4, h5⟩ := G
  refine EV.of (pe_make (E := E0) h2 h4 hr hg h1 h5 .nil pass0 ha hdb he hpl) fun B F H σ Q R q => evs_go R fun vs F1 H1 n1 R1 i1 => fun y dx hy hdx ne => ?_
  rw [List.append_nil]
  exact ⟨H1, F1, y, dx, vs, ds, ns, xs, rfl, hy, hdx, ne, rfl, R1.sub, R1.nt, R1.tb, i1, hn, hp, fun F2 H2 n2 i2 => ⟨rfl, q _ F2 H2 (n1.trans n2) (R1.grow n2) i2⟩⟩
end
end Fd

set_option Elab.async false
set_option linter.all false
set_option maxRecDepth 100000
set_option maxHeartbeats 4000000
/-! Fd9: isinstance of data. -/
namespace Fd
open PySem PySem.Spec PyProof.Rows L2
/-- what isinstance asks of the class of an own object -/
structure InK (K : PySem.W.Frag) (C : Addr) : Prop where
  cl : Cls K C
  ca : PySem.W.findIn K (.ref C) "__class__" = some (some (.builtin "object.__class__"))
  gd : PySem.W.specialIn K (.builtin "object.__class__") "__get__" = some (some (.builtin "getset_descriptor.__get__"))
  tk : PySem.W.takesIn K (.builtin "object.__class__") = some true
  ob : PySem.W.mroIn K C (.type "object") = some true
def D.cls (K : PySem.W.Frag) : D → Prop
  | .ins C _ _ => InK K C
  | .rdl _ => False
  | _ => True
theorem is_tyx {K : PySem.W.Frag} {F H : Hp} {d : D} {v : V} {t : Value} (h : d.ty? = some t) (c : d.cls K) (i : Is K F d v) (e : Ext F H) : TyX K H v t := by
  cases d with
  | non => cases i; cases h; exact .base .non
  | bl b => cases i; cases h; exact .base (.bl b)
  | int z => cases i; cases h; exact .base (.int z)
  | str z => cases i; cases h; exact .base (.str z)
  | lst xs => obtain ⟨a, vs, rfl, e1, _⟩ := i; cases h; exact .base (.lst (e _ _ e1))
  | ins C ns xs => obtain ⟨a, dx, fs, rfl, e1, _⟩ := i; cases h; exact .base (.ins (e _ _ e1) c.cl c.ca c.gd c.tk c.ob)
  | dct ks xs => obtain ⟨a, kvs, rfl, e1, _⟩ := i; cases h; exact .base (.dK (e _ _ e1))
  | tup xs =>
    obtain ⟨a, vs, rfl, e1, _⟩ := i
    cases h
    rcases ext_seqT e e1 with q | ⟨o, its, n, q1, q2, _⟩
    · rcases q with q | ⟨o, q⟩
      · exact .base (.tup q)
      · exact .fTuple q
    · exact .kTuple q1 q2
  | rdl _ => exact c.elim
  | _ => cases h
section
variable {T : List (Addr × Str)} {X : Cx} {ss : SS} {e : Expr} {d : D} {t : Value} {b : Bool} {cn : Str} {tn : String} {C : Addr} {p pc pos : Pos}
/-- isinstance(e, T), T a built-in type -/
theorem ev_isT (he : EV T X e ss d) (ht : d.ty? = some t) (hd : d.cls X.K) (hk : PySem.W.kitOne X.K t (.type tn) = some b) (hcm : X.mg cn = none) (hcv : bootBuiltins cn = some (.type tn)) (hm : X.mg "isinstance" = none)
    (hcg : Gl X cn := by rfl) (hcn : cn ≠ "__name__" := by decide) (hcd : (cn == ("__debug__" : Str)) = false := by decide) (hg : Gl X "isinstance" := by rfl) (hst : starEach [e, .Name cn pc] X.env = (false, eval e X.env) :: starEach [.Name cn pc] X.env := by rfl) (hst2 : starEach [.Name cn pc] X.env = [(false, eval (.Name cn pc) X.env)] := by rfl)
    (hpl : (backTo pos (starEach [.Name cn pc] X.env)).any (·.1) = false := by rfl) : EV T X (.Call (.Name "isinstance" p) [e, .Name cn pc] [] pos) ss (.bl b) :=
  EV.of (pe_callB call_isi hg hm (by decide +kernel) (pa_cons he (pa_cons (pe_bltn hcg hcm hcv (show RelV (.ty tn) (.type tn) from rfl) hcn hcd) pa_nil hst2) hst) (by decide) (by decide) hst hpl) fun B F H σ Q R q => ev_go R fun v F1 H1 n1 R1 i1 =>
    ⟨v, .ty tn, t, .type tn, b, rfl, .ty tn, is_tyx ht hd i1 R1.sub, hk, q _ F1 H1 n1 R1 rfl⟩
/-- isinstance(e, C), C an own class -/
theorem ev_isO (he : EV T X e ss d) (ht : d.ty? = some t) (hd : d.cls X.K) (hk : PySem.W.kitOne X.K t (.ref C) = some b) (hcm : X.mg cn = some (.ref C)) (hm : X.mg "isinstance" = none)
    (hcg : Gl X cn := by rfl) (hcd : (cn == ("__debug__" : Str)) = false := by decide) (hg : Gl X "isinstance" := by rfl) (hst : starEach [e, .Name cn pc] X.env = (false, eval e X.env) :: starEach [.Name cn pc] X.env := by rfl) (hst2 : starEach [.Name cn pc] X.env = [(false, eval (.Name cn pc) X.env)] := by rfl)
    (hpl : (backTo pos (starEach [.Name cn pc] X.env)).any (·.1) = false := by rfl) : EV T X (.Call (.Name "isinstance" p) [e, .Name cn pc] [] pos) ss (.bl b) :=
  EV.of (pe_callB call_isi hg hm (by decide +kernel) (pa_cons he (pa_cons (pe_glob hcg hcm (show RelV (.ref C) (.ref C) from rfl) hcd) pa_nil hst2) hst) (by decide) (by decide) hst hpl) fun B F H σ Q R q => ev_go R fun v F1 H1 n1 R1 i1 =>
    ⟨v, .ref C, t, .ref C, b, rfl, .own C, is_tyx ht hd i1 R1.sub, hk, q _ F1 H1 n1 R1 rfl⟩
end
end Fd

set_option Elab.async false
set_option linter.all false
set_option maxRecDepth 100000
set_option maxHeartbeats 4000000
/-! Fd10: the end of a law's proof: the script among the data. -/
namespace Fd
open PySem PySem.Spec PyProof.Rows L2
/-- the heap without its tables of code objects -/
def noTbl (H : Hp) : Hp := fun p => match H p with
  | some (.tbl _) => none
  | o => o
theorem noTbl_ext (H : Hp) : Ext (noTbl H) H := fun p o e => by
  unfold noTbl at e
  split at e
  · cases e
  · exact e
theorem noTbl_nt (H : Hp) : ∀ p ps, noTbl H p ≠ some (.tbl ps) := fun p ps e => by
  unfold noTbl at e
  split at e
  · cases e
  · rename_i h; exact h ps e
theorem noTbl_at {H : Hp} {p : Addr} {o : HO} (h : H p = some o) (n : ∀ ps, o ≠ .tbl ps) : noTbl H p = some o := by
  unfold noTbl
  rw [h]
  split
  · rename_i ps e; cases e; exact absurd rfl (n ps)
  · rfl
theorem noTbl_seq {K : PySem.W.Frag} {H : Hp} {a : Addr} {vs : List V} (h : SqL K H a vs) : SqL K (noTbl H) a vs := by
  rcases h with q | q
  · rcases q with q | ⟨o, q⟩
    · exact .inl (.inl (noTbl_at q fun _ z => nomatch z))
    · exact .inl (.inr ⟨o, noTbl_at q fun _ z => nomatch z⟩)
  · exact .inr q
theorem ints_is {K : PySem.W.Frag} {H : Hp} : ∀ ns : List Int, IsL K H (ns.map D.int) (ns.map V.int)
  | [] => rfl
  | n :: r => ⟨_, _, rfl, rfl, ints_is r⟩
/-- what the law's def is asked of -/
def pLaw (ds : List D) (d : D) : Prop := ∃ ns : List Int, ds = [.rdl (ns.map D.int)] ∧ ns.length ≤ 63 ∧ d = .bl true
/-- THE END: the goal that k_head and k_fill leave, from the contract of the law's def (level k, parameter x) -/
theorem walk {l : PySem.W.OpenLaw} {q : Program} {loose : List Str} {XP : (Str → Option Value) → Heap → Prop} {YP : World → Heap → Prop} {d : DefRec} {K : Params → PySem.W.Frag} {x : Str} (k : Nat) (hk : Room k callerA) (hn : l.most = some 63) (hdf : d.params.defaults = [])
    (hY : ∀ (w : World) (h : Heap), YP w h → (K w.params).In h)
    (F : ∀ (w : World) (mg : Str → Option Value) (fa : Addr) (h : Heap), (K w.params).In h → h.Ns mainGlobals mg → mg d.name = some (.ref fa) →
      ∃ fd : FuncData, (∀ (s : Shared) (u : Value), BindsTo s fd ⟨[u], []⟩ [(x, u)]) ∧ ∀ base : Heap, (K w.params).In base → base.Ns mainGlobals mg → FnOk l.prog w (K w.params) mg base CX0 k fa fd [x] (spD [] (K w.params) 1 pLaw)) :
    PySem.W.WalkO q loose XP YP l.row.toRowW d [] (fun f vs => PySem.call f vs) :=
  L2.walk_of (n := 63) (k := k) (x := x) (CX := fun _ => CX0) (sp := fun w => spD [] (K w.params) 1 pLaw) hn (by decide) hdf hk hY F
    (fun w H a ns hl _ hS => ⟨noTbl H, [.rdl (ns.map D.int)], .bl true, noTbl_ext H, noTbl_nt H, (fun p hp => nomatch hp), ⟨_, _, rfl, ⟨a, ns.map V.int, rfl, noTbl_seq hS, ints_is ns⟩, rfl⟩, rfl, ⟨ns, rfl, hl, rfl⟩, fun v F1 H1 _ e => e⟩) fun _ _ _ _ _ z => z
end Fd

set_option Elab.async false
set_option linter.all false
set_option maxRecDepth 100000
set_option maxHeartbeats 4000000
/-! Fd11: zip and enumerate. -/
namespace Fd
open PySem PySem.Spec PyProof.Rows L2
def zips (xs ys : List D) : List D := (xs.zip ys).map fun p => .tup [p.1, p.2]
theorem zips_get {xs ys : List D} {i : Nat} {x y : D} (h1 : xs[i]? = some x) (h2 : ys[i]? = some y) : (zips xs ys)[i]? = some (.tup [x, y]) := by
  unfold zips
  rw [List.getElem?_map, List.getElem?_zip_eq_some (z := (x, y)) |>.mpr ⟨h1, h2⟩]
  rfl
theorem pair_new {T : List (Addr × Str)} {K : PySem.W.Frag} {F H : Hp} {q : Addr} {x y : D} {v u : V} (s : Ext F H) (h : H q = none) (ix : Is K F x v) (iy : Is K F y u) : Nx T F H (upd F q (.tup [v, u])) (upd H q (.tup [v, u])) ∧ Is K (upd F q (.tup [v, u])) (.tup [x, y]) (.ref q) := by
  have n := Nx.alloc (T := T) (o := .tup [v, u]) s h
  exact ⟨n, q, [v, u], rfl, SqT.of upd_same, .cons (Is.mono n.f _ ix) (.cons (Is.mono n.f _ iy) .nil)⟩
section
variable {T : List (Addr × Str)} {X : Cx} {ss : SS} {e e2 : Expr} {xs ys : List D} {p pos tpos : Pos} {elts : List Expr} {kk : Nat}
theorem iv_zip (ha : EV T X e ss (.lst xs)) (hb : EV T X e2 ss (.lst ys)) (hm : X.mg "zip" = none) (hg : Gl X "zip" := by rfl) (hs : starEach [e, e2] X.env = (false, eval e X.env) :: starEach [e2] X.env := by rfl) (hs2 : starEach [e2] X.env = [(false, eval e2 X.env)] := by rfl)
    (hpl : (backTo pos (starEach [e2] X.env)).any (·.1) = false := by rfl) : IV T X (.Tuple elts kk tpos) (.Call (.Name "zip" p) [e, e2] [] pos) ss (zips xs ys) :=
  IV.of (pi_zip hg hm (evs_cons ha (evs_cons hb evs_nil hs2) hs) hs hpl) fun B F H σ R R0 q => evs_go R0 fun vs F1 H1 n1 R1 i1 => by
    obtain ⟨v, w, rfl, h1, h2⟩ := isL2 i1
    obtain ⟨a, us, rfl, a1, a2⟩ := h1
    obtain ⟨b, ws, rfl, b1, b2⟩ := h2
    refine ⟨a, b, us, ws, rfl, SqL.of (R1.sub _ _ a1), SqL.of (R1.sub _ _ b1), q _ F1 H1 n1 R1 ⟨fun i F H x1 x2 hi => ?_, fun F H x1 x2 => ?_⟩⟩
    · have hl : i < xs.length ∧ i < ys.length := by
        simp [zips] at hi; exact ⟨by omega, by omega⟩
      have sa : SqL X.K H a us := SqL.of (x2 _ _ (x1 _ _ a1))
      have sb : SqL X.K H b ws := SqL.of (x2 _ _ (x1 _ _ b1))
      obtain ⟨v, hv, iv⟩ := IsL.get' a2 (List.getElem?_eq_getElem hl.1)
      obtain ⟨u, hu, iu⟩ := IsL.get' b2 (List.getElem?_eq_getElem hl.2)
      refine ⟨⟨us, ws, v, u, sa, sb, hv, hu⟩, fun x H' y => ?_⟩
      obtain ⟨T, v', u', rfl, hT, rfl, g1, g2⟩ := y
      have e1 := g1 us sa
      have e2 := g2 ws sb
      rw [hv] at e1; rw [hu] at e2
      cases e1; cases e2
      obtain ⟨n, it⟩ := pair_new x2 hT (Is.mono x1 _ iv) (Is.mono x1 _ iu)
      exact ⟨_, _, n, zips_get (List.getElem?_eq_getElem hl.1) (List.getElem?_eq_getElem hl.2), it⟩
    · refine ⟨us, ws, SqL.of (x2 _ _ (x1 _ _ a1)), SqL.of (x2 _ _ (x1 _ _ b1)), ?_⟩
      rw [a2.length, b2.length]
      simp [zips]; omega
/-- (0, x), (1, y), .. -/
def nums : Nat → List D → List D
  | _, [] => []
  | k, x :: xs => .tup [.int (k : Nat), x] :: nums (k + 1) xs
theorem nums_len : ∀ (xs : List D) (k : Nat), (nums k xs).length = xs.length
  | [], _ => rfl
  | x :: xs, k => by simp [nums, nums_len xs]
theorem nums_get : ∀ (xs : List D) (k i : Nat) (x : D), xs[i]? = some x → (nums k xs)[i]? = some (.tup [.int ((k + i : Nat) : Int), x])
  | [], _, _, _, h => by simp at h
  | y :: ys, k, 0, x, h => by simp at h; subst h; rfl
  | y :: ys, k, i + 1, x, h => by
    simp at h
    have := nums_get ys (k + 1) i x h
    rw [show k + 1 + i = k + (i + 1) by omega] at this
    simpa [nums] using this
theorem iv_enum (ha : EV T X e ss (.lst xs)) (hm : X.mg "enumerate" = none) (hg : Gl X "enumerate" := by rfl) (hs : starEach [e] X.env = [(false, eval e X.env)] := by rfl) : IV T X (.Tuple elts kk tpos) (.Call (.Name "enumerate" p) [e] [] pos) ss (nums 0 xs) :=
  IV.of (pi_enum hg hm (evs_cons ha evs_nil hs) hs) fun B F H σ R R0 q => evs_go R0 fun vs F1 H1 n1 R1 i1 => by
    obtain ⟨v, rfl, h1⟩ := isL1 i1
    obtain ⟨a, us, rfl, a1, a2⟩ := h1
    refine ⟨a, us, rfl, SqL.of (R1.sub _ _ a1), q _ F1 H1 n1 R1 ⟨fun i F H x1 x2 hi => ?_, fun F H x1 x2 => ?_⟩⟩
    · have hl : i < xs.length := by rw [nums_len] at hi; exact hi
      have sa : SqL X.K H a us := SqL.of (x2 _ _ (x1 _ _ a1))
      obtain ⟨v, hv, iv⟩ := IsL.get' a2 (List.getElem?_eq_getElem hl)
      refine ⟨⟨us, v, sa, hv⟩, fun x H' y => ?_⟩
      obtain ⟨T, v', rfl, hT, rfl, g1⟩ := y
      have e1 := g1 us sa
      rw [hv] at e1
      cases e1
      obtain ⟨n, it⟩ := pair_new (K := X.K) (x := .int (i : Nat)) (v := .int (i : Nat)) x2 hT rfl (Is.mono x1 _ iv)
      refine ⟨_, _, n, nums_get xs 0 i _ (List.getElem?_eq_getElem hl), ?_⟩
      rw [Nat.zero_add]
      exact it
    · refine ⟨us, SqL.of (x2 _ _ (x1 _ _ a1)), ?_⟩
      rw [a2.length, nums_len]
      exact Nat.le_refl _
end
end Fd

set_option Elab.async false
set_option linter.all false
set_option maxRecDepth 100000
set_option maxHeartbeats 4000000
/-! Fd12: C(..) with default values; a target among cells. -/
namespace Fd
open PySem PySem.Spec PyProof.Rows L2
section
variable {T : List (Addr × Str)} {X : Cx} {ss : SS} {P : Post} {e a b c : Expr} {es : List Expr} {ds dd : List D} {d1 d2 d3 : D} {x y z : Str} {p pos : Pos} {n k : Nat} {C : Addr} {ns : List Str} {xs : List D} {pre : List D → List Str → List D → Prop} {dvs : List V} {dds : List Value}
/-- the class under the module's name x, made of n data, the last of them by default dds -/
def MDd (T : List (Addr × Str)) (P : Program) (w : World) (K : PySem.W.Frag) (mg : Str → Option Value) (base : Heap) (x : Str) (C : Addr) (n k : Nat) (pre : List D → List Str → List D → Prop) (dds : List Value) : Prop :=
  ∃ f fd ps, mg x = some (.ref C) ∧ Mk K C f ∧ ps.length = n + 1 ∧ FnOk P w K mg base CX0 k f fd ps (spM T K C n pre) ∧ Binds K fd ps dds
theorem ev_makeD (G : MDd T X.prog X.w X.K X.mg X.base x C n k pre dds) (hd : Vals dvs dds) (hI : ∀ F : Hp, IsL X.K F dd dvs) (hr : Room (k + 1) X.A) (ha : EVs T X (e :: es) ss ds) (hp : pre (ds ++ dd) ns xs) (hn : (ds ++ dd).length = n := by rfl) (hg : Gl X x := by rfl) (hdb : (x == ("__debug__" : Str)) = false := by decide)
    (he : starEach (e :: es) X.env = (false, eval e X.env) :: starEach es X.env := by rfl) (hpl : (backTo pos (starEach es X.env)).any (·.1) = false := by rfl) : EV T X (.Call (.Name x p) (e :: es) [] pos) ss (.ins C ns xs) := by
  obtain ⟨f, fd, ps, h1, h2, h3, h4, h5⟩ := G
  refine EV.of (pe_make (E := E0) h2 h4 hr hg h1 h5 hd pass0 ha hdb he hpl) fun B F H σ Q R q => evs_go R fun vs F1 H1 n1 R1 i1 => fun y dx hy hdx ne => ?_
  exact ⟨H1, F1, y, dx, vs ++ dvs, ds ++ dd, ns, xs, rfl, hy, hdx, ne, rfl, R1.sub, R1.nt, R1.tb, i1.append (hI F1), hn, hp, fun F2 H2 n2 i2 => ⟨rfl, q _ F2 H2 (n1.trans n2) (R1.grow n2) i2⟩⟩
/-- a, b, c = x, y, z by a tuple (targets that are cells, too) -/
theorem sv_tup3 (i j l : Nat) {px py pz pt : Pos} {kt : Nat} (he : EV T X e ss (.tup [d1, d2, d3])) (k : P.nx (((ss.set i (.d d1)).set j (.d d2)).set l (.d d3))) (hN : X.N.Nodup) (hc : X.calm = true := by rfl)
    (hi : X.N[i]? = some x := by rfl) (hj : X.N[j]? = some y := by rfl) (hl : X.N[l]? = some z := by rfl)
    (hx : Loc X.env.scope x := by first | exact Or.inl rfl | exact Or.inr rfl) (hy : Loc X.env.scope y := by first | exact Or.inl rfl | exact Or.inr rfl) (hz : Loc X.env.scope z := by first | exact Or.inl rfl | exact Or.inr rfl)
    (fx : X.fn x = true ∨ X.env.scope.names.lookup x = some .local := by first | exact .inl rfl | exact .inr rfl) (fy : X.fn y = true ∨ X.env.scope.names.lookup y = some .local := by first | exact .inl rfl | exact .inr rfl) (fz : X.fn z = true ∨ X.env.scope.names.lookup z = some .local := by first | exact .inl rfl | exact .inr rfl)
    (hs : swapsWithSole [.Tuple [.Name x px, .Name y py, .Name z pz] kt pt] e pos.line X.env = pure false := by rfl) (hw : swappedStores [.Tuple [.Name x px, .Name y py, .Name z pz] kt pt] e X.env = pure none := by rfl)
    (h1 : (assignEach [.Tuple [.Name x px, .Name y py, .Name z pz] kt pt] X.env).map (·.2) = [assign (.Tuple [.Name x px, .Name y py, .Name z pz] kt pt) X.env] := by rfl) :
    SV T X (.Assign [.Tuple [.Name x px, .Name y py, .Name z pz] kt pt] e pos) ss P :=
  SV.of (ps_asg he (pg_tup hc (pgs_cons (pg_name hN hi hx fx) (pgs_cons (pg_name hN hj hy fy) (pgs_cons (pg_name hN hl hz fz) pgs_nil)))) hs hw h1) fun B F H σ Dn R g => ev_go R fun v F1 H1 n1 R1 i1 => by
    exact tg_go (t := .many [i, j, l]) (ws := []) R1 i1 rfl (fun _ _ => .inr rfl) fun σ' R2 _ => g.nx _ _ _ _ k R2
end
end Fd

set_option Elab.async false
set_option linter.all false
set_option maxRecDepth 100000
set_option maxHeartbeats 4000000
/-! Fd13: what raises, and a lambda that is asked for it. -/
namespace Fd
open PySem PySem.Spec PyProof.Rows L2
/-- a def that raises c of the data ds, wherever pre ds -/
def spX (T : List (Addr × Str)) (K : PySem.W.Frag) (n : Nat) (pre : List D → Prop) (c : Value) : Sp := fun vs H _ E => ∃ F ds, Ext F H ∧ (∀ p ps, F p ≠ some (.tbl ps)) ∧ LamX.Tabs T H ∧ IsL K F ds vs ∧ ds.length = n ∧ pre ds ∧ ∀ d H1, Gr T H H1 → E c d H1
/-- an __init__ that raises -/
def spMX (T : List (Addr × Str)) (K : PySem.W.Frag) (C : Addr) (n : Nat) (pre : List D → Prop) (c : Value) : Sp := fun vs H _ E => ∃ H0 F p dx us ds, vs = .ref p :: us ∧ H0 p = none ∧ H0 dx = none ∧ dx ≠ p ∧ H = upd (upd H0 dx (.own p)) p (.ins C dx []) ∧ Ext F H0 ∧ (∀ p ps, F p ≠ some (.tbl ps)) ∧ LamX.Tabs T H0 ∧ IsL K F ds us ∧ ds.length = n ∧ pre ds ∧ ∀ d H1, Gr T H0 H1 → E c d H1
/-- e raises c: E is what is told of the exception -/
def RX (T : List (Addr × Str)) (X : Cx) (e : Expr) (ss : SS) (c : Value) (E : XK) : Prop := PE X e (fun σ H _ => ∃ B F, StR T X.K B F H σ ss ∧ ∀ d H1, Gr T H H1 → E c d H1)
def RS (T : List (Addr × Str)) (X : Cx) (sts : List Stmt) (ss : SS) (c : Value) (E : XK) : Prop := PSs X sts (fun _ σ H => ∃ B F, StR T X.K B F H σ ss ∧ ∀ d H1, Gr T H H1 → E c d H1)
abbrev xX (P : Program) (w : World) (K : PySem.W.Frag) (mg : Str → Option Value) (base : Heap) (N : List Str) (qual : Str) (st : Stmt) (f : Addr) (cdv : Value) (A : Around) (outer : List Env) (s : Shared) (H : Hp) (E : XK) : Cx :=
  cxOf (L2.CX P w) P w K mg base N qual (defScope st) f cdv A outer s H E
section
variable {T : List (Addr × Str)} {P : Program} {w : World} {K : PySem.W.Frag} {mg : Str → Option Value} {base : Heap} {C : Addr} {x qual : Str} {st : Stmt} {f : Addr} {fd : FuncData} {cdv c : Value} {N ps : List Str} {k n : Nat} {pre : List D → Prop}
theorem fx_ok (F : FunZ K x qual st f fd cdv) (S : FnScope N ps (defScope st)) (hn : ps.length = n)
    (h : ∀ (A : Around) (outer : List Env) (s : Shared) (H : Hp) (E : XK) (ds : List D), Room k (A.deeper (envOfC qual (defScope st) s.heap.objs.size f cdv)) → ds.length = n → pre ds →
      Takes (xX P w K mg base N qual st f cdv A outer s H E) (fun cls d _ H => E cls d H) → RS T (xX P w K mg base N qual st f cdv A outer s H E) (defBody st) (startS N ds) c E) : FnOk P w K mg base (L2.CX P w) (k + 1) f fd ps (spX T K n pre c) :=
  F.ok S (fun vs H Q E ⟨F, ds, _, _, _, i, l, _⟩ => by rw [i.length, l, hn]) fun A outer s H vs Q E hr ⟨F0, ds, x, nt, tb, i, l, p, q⟩ =>
    ⟨_, h A outer s H E ds hr l p (takes_of rfl rfl rfl rfl), (F0, H), F0, start_str x nt tb i, q⟩
theorem initx_ok (F : FunZ K x qual st f fd cdv) (S : FnScope N ps (defScope st)) (hn : ps.length = n + 1)
    (h : ∀ (A : Around) (outer : List Env) (s : Shared) (H : Hp) (E : XK) (p : Addr) (ds : List D), Room k (A.deeper (envOfC qual (defScope st) s.heap.objs.size f cdv)) → ds.length = n → pre ds →
      Takes (xX P w K mg base N qual st f cdv A outer s H E) (fun cls d _ H => E cls d H) → RS T (xX P w K mg base N qual st f cdv A outer s H E) (defBody st) (startO p C N ds) c E) : FnOk P w K mg base (L2.CX P w) (k + 1) f fd ps (spMX T K C n pre c) := by
  refine F.ok S (fun vs H Q E ⟨H0, F, p, dx, us, ds, e, _, _, _, _, _, _, _, i, l, _⟩ => by rw [e, hn, List.length_cons, i.length, l]) fun A outer s H vs Q E hr ⟨H0, F0, p, dx, us, ds, e, hp, hd, ne, eH, xF, nt, tb, i, l, pr, q⟩ => ?_
  subst e; subst eH
  have hH : Ext H0 (upd (upd H0 dx (.own p)) p (.ins C dx [])) := (Ext.upd hd).trans (Ext.upd (by rw [upd_ne (Ne.symm ne)]; exact hp))
  exact ⟨_, h A outer s _ E p ds hr l pr (takes_of rfl rfl rfl rfl), (F0, H0), F0, start_strO hp hd ne xF nt tb i, fun d H1 g => q d H1 ((Gr.of hH).trans g)⟩
end
section
variable {T : List (Addr × Str)} {X : Cx} {ss : SS} {e o a : Expr} {es : List Expr} {d : D} {ds : List D} {x m : Str} {p pos apos : Pos} {n k : Nat} {C : Addr} {ns : List Str} {xs : List D} {c : Value} {E : XK} {cnd : Expr} {A B rest : List Stmt}
theorem rs_ret (h : RX T X e ss c E) : RS T X (.Return (some e) pos :: rest) ss c E :=
  PSs.imp (pss_cons (ps_ret h) (pss_all (T := T))) fun D σ H q => q
theorem rs_ifT (hc : TV T X cnd ss true) (h : RS T X A ss c E) : RS T X (.If cnd A B pos :: rest) ss c E :=
  PSs.imp (pss_cons (ps_if hc h (pss_all (T := T) (sts := B))) (pss_all (T := T))) fun D σ H ⟨B0, F, R, q⟩ => tv_go R fun F1 H1 n1 R1 => ⟨B0, F1, R1, fun d H2 g => q d H2 (n1.h.trans g)⟩
theorem rs_raise {tn N I : String} {msg : Str} {j : Nat} {p2 pos' : Pos} (tk : Takes X (fun cls d _ H => E cls d H)) (F : ExcB tn N I) (hm : X.mg x = none) (hv : bootBuiltins x = some (.type tn)) (hg : Gl X x := by rfl) (hc : X.calm = true := by rfl) (hn : x ≠ "__name__" := by decide) (hdb : (x == ("__debug__" : Str)) = false := by decide) :
    RS T X (.Raise (some (.Call (.Name x p) [.Constant (.str msg) j p2] [] pos)) none pos' :: rest) ss (.type tn) E :=
  PSs.imp (pss_cons (ps_raiseB hc tk F hg hm hv hn hdb) (pss_all (T := T))) fun D σ H ⟨B0, F, R, q⟩ => q none H (.refl H)
/-- the class, whose making raises c -/
def MDX (T : List (Addr × Str)) (P : Program) (w : World) (K : PySem.W.Frag) (mg : Str → Option Value) (base : Heap) (x : Str) (C : Addr) (n k : Nat) (pre : List D → Prop) (c : Value) : Prop :=
  ∃ f fd ps, mg x = some (.ref C) ∧ Mk K C f ∧ ps.length = n + 1 ∧ FnOk P w K mg base (L2.CX P w) k f fd ps (spMX T K C n pre c) ∧ Binds K fd ps []
theorem rx_make {pre : List D → Prop} (G : MDX T X.prog X.w X.K X.mg X.base x C n k pre c) (hx : Passes (L2.CX X.prog X.w) X E) (hr : Room (k + 1) X.A) (ha : EVs T X (e :: es) ss ds) (hp : pre ds) (hn : ds.length = n := by rfl) (hg : Gl X x := by rfl) (hdb : (x == ("__debug__" : Str)) = false := by decide)
    (he : starEach (e :: es) X.env = (false, eval e X.env) :: starEach es X.env := by rfl) (hpl : (backTo pos (starEach es X.env)).any (·.1) = false := by rfl) : RX T X (.Call (.Name x p) (e :: es) [] pos) ss c E := by
  obtain ⟨f, fd, ps, h1, h2, h3, h4, h5⟩ := G
  refine PE.imp (pe_make (E := E) h2 h4 hr hg h1 h5 .nil hx ha hdb he hpl) fun σ H Q ⟨B, F, R, q⟩ => evs_go R fun vs F1 H1 n1 R1 i1 => fun y dx hy hdx ne => ?_
  rw [List.append_nil]
  exact ⟨H1, F1, y, dx, vs, ds, rfl, hy, hdx, ne, rfl, R1.sub, R1.nt, R1.tb, i1, hn, hp, fun d H2 g => q d H2 (n1.h.trans g)⟩
theorem no_lookup {m : Str} : ∀ {fs : List (Str × V)}, m ∉ fs.map (·.1) → fs.lookup m = none
  | [], _ => rfl
  | (g, u) :: r, h => by
    have ne : (m == g) = false := by
      rw [beq_eq_false_iff_ne]; rintro rfl; exact h List.mem_cons_self
    rw [List.lookup_cons, ne]
    exact no_lookup fun z => h (List.mem_cons_of_mem _ z)
/-- o.m(..), m an own method that raises -/
theorem rx_meth {pl : Sem Bool} {pre : List D → Prop} {f : Addr} {fd : FuncData} {ps : List Str} (he : EV T X o ss (.ins C ns xs)) (cl : Cls X.K C) (hm : Meth X.K C m f) (G : FnOk X.prog X.w X.K X.mg X.base (L2.CX X.prog X.w) k f fd ps (spX T X.K n pre c)) (hb : Binds X.K fd ps []) (hx : Passes (L2.CX X.prog X.w) X E) (hr : Room k X.A)
    (ha : EVs T X (e :: es) ss ds) (hp : pre (.ins C ns xs :: ds)) (hmn : m ∉ ns) (hn : (D.ins C ns xs :: ds).length = n := by rfl)
    (hst : starEach (e :: es) X.env = (false, eval e X.env) :: starEach es X.env := by rfl) (hpl : (backTo pos (starEach es X.env)).any (·.1) = false := by rfl)
    (ht : eval (.Call (.Attribute o m apos) (e :: es) [] pos) X.env = (do
      let ov ← eval o X.env; standAt apos.atName; let (f, first) ← holding [ov] (getMethod ov m pl); callWith pos f first (backTo pos (starEach (e :: es) X.env)) (backToKw pos (keywordEach [] X.env))) := by rfl) :
    RX T X (.Call (.Attribute o m apos) (e :: es) [] pos) ss c E := by
  refine PE.imp (pe_meth he cl hm G hr hb .nil hx ha hst hpl ht) fun σ H Q ⟨B, F, R, q⟩ => ev_go R fun v F1 H1 n1 R1 i1 => ?_
  obtain ⟨y, dx, fs, rfl, e1, e2, e3⟩ := id i1
  refine ⟨y, dx, fs, rfl, R1.sub _ _ e1, no_lookup (by rw [e2]; exact hmn), evs_go R1 fun us F2 H2 n2 R2 i2 => ?_⟩
  rw [List.append_nil]
  exact ⟨F2, _, R2.sub, R2.nt, R2.tb, IsL.cons (Is.mono n2.f _ i1) i2, hn, hp, fun d H3 g => q d H3 ((n1.h.trans n2.h).trans g)⟩
/-- o.m(..), m an own method -/
theorem ev_meth {pl : Sem Bool} {pre : List D → D → Prop} {f : Addr} (he : EV T X o ss (.ins C ns xs)) (cl : Cls X.K C) (M : OwnM T X.prog X.w X.K X.mg X.base C m n k pre f) (hr : Room k X.A)
    (ha : EVs T X (e :: es) ss ds) (hp : pre (.ins C ns xs :: ds) d) (hmn : m ∉ ns) (hn : (D.ins C ns xs :: ds).length = n := by rfl)
    (hst : starEach (e :: es) X.env = (false, eval e X.env) :: starEach es X.env := by rfl) (hpl : (backTo pos (starEach es X.env)).any (·.1) = false := by rfl)
    (ht : eval (.Call (.Attribute o m apos) (e :: es) [] pos) X.env = (do
      let ov ← eval o X.env; standAt apos.atName; let (f, first) ← holding [ov] (getMethod ov m pl); callWith pos f first (backTo pos (starEach (e :: es) X.env)) (backToKw pos (keywordEach [] X.env))) := by rfl) :
    EV T X (.Call (.Attribute o m apos) (e :: es) [] pos) ss d := by
  obtain ⟨fd, ps, hb, hps, G⟩ := M.ok
  refine EV.of (pe_meth (E := E0) he cl ⟨M.at_, M.fn, M.kp⟩ G hr hb .nil pass0 ha hst hpl ht) fun B F H σ Q R q => ev_go R fun v F1 H1 n1 R1 i1 => ?_
  obtain ⟨y, dx, fs, rfl, e1, e2, e3⟩ := id i1
  refine ⟨y, dx, fs, rfl, R1.sub _ _ e1, no_lookup (by rw [e2]; exact hmn), evs_go R1 fun us F2 H2 n2 R2 i2 => ?_⟩
  rw [List.append_nil]
  exact ⟨F2, _, d, R2.sub, R2.nt, R2.tb, IsL.cons (Is.mono n2.f _ i1) i2, hn, hp, fun v F3 H3 n3 i3 => q v F3 H3 ((n1.trans n2).trans n3) (R2.grow n3) i3⟩
end
end Fd

set_option Elab.async false
set_option linter.all false
set_option maxRecDepth 100000
set_option maxHeartbeats 4000000
/-! Fd14: a def that is handed a lambda and tells whether it raises. -/
namespace Fd
open PySem PySem.Spec PyProof.Rows L2
/-- what such a def makes of the lambda's reading: True where c comes, False else -/
def TTR (c : Value) : (XK → Hp → VK → Prop) → Hp → VK → Prop := fun tl H Q => tl (fun cls _ H' => cls = c ∧ Q (.bl true) H') H (fun _ H' => Q (.bl false) H')
theorem raises_gives {X : Cx} {Ng : List Str} {x a e q : Str} {sg : Scope} {g : Addr} {cdg c : Value} {j j' : Nat} {p1 p2 p3 p4 p5 p6 p7 p8 p9 p10 : Pos} (hge : sg.names.lookup e = some .globalImplicit) (hme : X.mg e = none) (hbe : bootBuiltins e = some c) (hne : e ≠ "__name__") (hde : (e == ("__debug__" : Str)) = false)
    (hex : PySem.W.exmOne X.K c c = some true) (h0 : ∀ f : Addr, (L2.start Ng [V.ref f])[0]? = some (some (V.ref f))) :
    LamX.GivesTo X Ng x sg g cdg [.Try [.Expr (.Call (.Name a p1) [] [] p2) p3] [.ExceptHandler (some (.Name e p4)) none [.Return (some (.Constant (.bool true) j p5)) p6] p7] [] [] p8, .Return (some (.Constant (.bool false) j' p9)) p10] a q (TTR c) := by
  intro f cc s H Q tl act hc h
  refine ⟨_, pss_cons (ps_try_only (c := c) (Wout := fun _ _ _ _ => False)
    (tb := fun W D σ HZ => ∃ Ech : XK, (∀ cls d σ' H', Ech cls d H' → W cls d σ' H') ∧ σ[0]? = some (some (.ref f)) ∧ HZ cc = some (LamX.CodeO cc q) ∧ tl Ech HZ fun _ H1 => D.nx σ H1)
    rfl rfl ⟨hge, hde, .inr ⟨hme, hbe, hne⟩⟩ LamX.takes0 (fun W pn xe tk _ => ?_) (fun b oe cls d pn _ _ => pss_one (ps_ret pe_bl))) (pss_one (ps_ret pe_bl)), ?_⟩
  · refine ⟨fun pins s' σ HZ D I hq => ?_⟩
    obtain ⟨Ech, hW, h1, h2, h3⟩ := hq
    exact (pss_one (ps_expr (pos := p3) (act W pn xe Ech p1 p2 tk hW))).run pins s' σ HZ D I ⟨h1, h2, h3⟩
  · refine ⟨fun cls _ H' => cls = c ∧ Q (.bl true) H', fun cls d σ' H' ⟨e1, e2⟩ => ?_, h0 f, hc, h⟩
    subst e1
    exact ⟨true, hex, fun _ b _ => e2, fun z => nomatch z⟩
section
variable {T : List (Addr × Str)} {X : Cx} {ss : SS} {p pos lpos : Pos} {k : Nat} {c : Value} {x a : Str} {st : Stmt} {g cA P : Addr} {fdg : FuncData} {cdg : Value} {Ng : List Str} {params : Arguments} {body : Expr} {scope : Scope}
theorem exN_gr {H H1 : Hp} (e : LamX.ExtN H H1) (t : LamX.Tabs T H1) : Gr T H H1 := ⟨fun p o h n => e p o h n, fun _ => t⟩
theorem StR.gr {B : Hp × Hp} {F H H1 : Hp} {σ : L2.St} {K : PySem.W.Frag} (R : StR T K B F H σ ss) (g : Gr T H H1) : Nx T F H F H1 :=
  ⟨fun _ _ h => h, g, fun q o h => g.k q o (R.sub q o h) (fun ps z => R.nt q ps (by rw [h, z])), fun _ _ h => h, fun q o h => .inl (by rw [h]; exact fun z => nomatch z)⟩
/-- x(lambda: body), x a def that tells whether it raises c; it does -/
theorem ev_lamR (FG : FunZ X.K x x st g fdg cdg) (hm : X.mg x = some (.ref g)) (hb : Binds X.K fdg [a] []) (Sg : FnScope Ng [a] (defScope st)) (hNg : Ng[0]? = some a) (hva : Vis (defScope st) a)
    (hG : LamX.GivesTo X Ng x (defScope st) g cdg (defBody st) a (X.env.qual ++ "<lambda>") (TTR c)) (TB : LamX.TabB X.base X.mg cA P) (hcode : X.env.code = .ref cA) (hmT : (P, X.env.qual ++ "<lambda>") ∈ T) (hu : ∀ p ∈ T, p.1 = P → p.2 = X.env.qual ++ "<lambda>")
    (hr : Room (k + 2) X.A) (L : LamX.LamS X.env.scope scope) (hdef : defaultsOf params X.env = ([], [])) (hbind : ∀ (q : Str) (cl : List (Str × Addr)) (pm cv ctv : Value), bindArgs (PySem.W.kla_fn "<lambda>" q params body scope cl pm cv ctv) ⟨[], []⟩ = pure [])
    (hbody : ∀ (A : Around) (outer : List Env) (s : Shared) (H : Hp) (E : XK) (f cc : Addr), Room k (A.deeper (LamX.lamEnv X scope s.heap.objs.size f cc)) → Takes (LamX.lamCx X A outer s H E scope f cc) (fun cls d _ H => E cls d H) → Passes (L2.CX X.prog X.w) (LamX.lamCx X A outer s H E scope f cc) E → RX T (LamX.lamCx X A outer s H E scope f cc) body ss c E)
    (hg : Gl X x := by rfl) (hdb : (x == ("__debug__" : Str)) = false := by decide) (hd : (a == ("__debug__" : Str)) = false := by decide) (hcd : (a == ("__classdict__" : Str)) = false := by decide) : EV T X (.Call (.Name x p) [.Lambda params body scope lpos] [] pos) ss (.bl true) := by
  obtain ⟨oc, od, dV, kV, doc, pm, an, ct, osl, rfl, lk, hcg⟩ := FG.ex
  refine EV.of (LamX.pe_lamcall (T := T) (TT := TTR c) (t := fun E σ H _ => ∃ B F, StR T X.K B F H σ ss ∧ ∀ d H1, Gr T H H1 → E c d H1) hg hm FG.kp lk hcg hb Sg hNg hva hG TB hcode hmT hu hr L hdef hbind (fun A outer s H E f cc hr2 => ?_) hdb hd hcd) fun B F H σ Q R q => ⟨R.tb, fun H1 e t => ?_⟩
  · have tk : Takes (LamX.lamCx X A outer s H E scope f cc) (fun cls d _ H => E cls d H) := takes_of rfl rfl rfl rfl
    exact hbody A outer s H E f cc hr2 tk (passes_call tk fun _ _ _ _ h => h)
  · have n1 := R.gr (exN_gr e t)
    have R1 := R.grow n1
    refine ⟨B, F, R1, fun d H2 g2 => ⟨rfl, ?_⟩⟩
    have n2 := n1.trans (R1.gr g2)
    exact q _ F H2 n2 (R.grow n2) rfl
end
section
variable {T : List (Addr × Str)} {P : Program} {w : World} {K : PySem.W.Frag} {mg : Str → Option Value} {base : Heap}
/-- fd_ok, the code object known -/
theorem fdz_ok {x qual : Str} {st : Stmt} {f : Addr} {fd : FuncData} {cdv : Value} {N ps : List Str} {k n : Nat} {pre : List D → D → Prop} (F : FunZ K x qual st f fd cdv) (S : FnScope N ps (defScope st)) (hn : ps.length = n)
    (h : ∀ (A : Around) (outer : List Env) (s : Shared) (H : Hp) (E : XK) (ds : List D) (d : D), Room k (A.deeper (envOfC qual (defScope st) s.heap.objs.size f cdv)) → ds.length = n → pre ds d →
      SVs T (bodyX CX0 P w K mg base N qual st f cdv A outer s H E) (defBody st) (startS N ds) { nx := fun _ => d = .non, rt := fun d' => d' = d }) : FnOk P w K mg base CX0 (k + 1) f fd ps (spD T K n pre) := by
  refine F.ok S (fun vs H Q E ⟨F, ds, d, _, _, _, i, l, _⟩ => by rw [i.length, l, hn]) fun A outer s H vs Q E hr ⟨F0, ds, d, x, nt, tb, i, l, p, q⟩ => ?_
  refine ⟨_, (h A outer s H E ds d hr l p).nox, (F0, H), F0, _, _, ⟨rfl, rfl⟩, start_str x nt tb i, fun ss' σ' F1 H1 e R1 => ?_, fun d' v ss' σ' F1 H1 e R1 i1 => ?_, fun _ _ _ _ z => z.elim, fun _ _ _ _ z => z.elim⟩
  · subst e
    exact q .non F1 H1 R1.back rfl
  · subst e
    exact q v F1 H1 R1.back i1
end
end Fd

set_option Elab.async false
set_option linter.all false
set_option maxRecDepth 100000
set_option maxHeartbeats 4000000
/-! Fd15: C(k = .., m = ..) by two keywords; False in a list of True. -/
namespace Fd
open PySem PySem.Spec PyProof.Rows L2
section
variable {X : Cx} {CX : CXT} {k : Nat} {f C : Addr} {fd : FuncData} {ps ks : List Str} {sp : Sp} {E : XK} {x : Str} {p pos : Pos} {kws : List Keyword} {tk : TA} {g : List Value → List Value → List Value} {gV : List V → List V → List V}
/-- C(k = v, ..): no value by its place -/
theorem pe_makeK0 (M : Mk X.K C f) (G : FnOk X.prog X.w X.K X.mg X.base CX k f fd ps sp) (hr : Room (k + 1) X.A) (hm : X.mg x = some (.ref C)) (hb : KBn X.K fd ps 1 ks g gV) (hx : Passes CX X E) (hkw : PK X kws tk) (hg : Gl X x := by rfl)
    (hall : (backToKw pos (keywordEach kws X.env)).all (·.1.isSome) = true := by rfl) (hks : (backToKw pos (keywordEach kws X.env)).filterMap (·.1) = ks := by rfl) (hdb : (x == ("__debug__" : Str)) = false := by decide)
    (hpl : ((backTo pos (starEach [] X.env)).any (·.1) || (backToKw pos (keywordEach kws X.env)).any (·.1.isNone)) = false := by rfl) :
    PE X (.Call (.Name x p) [] kws pos) (fun σ H Q => tk σ H fun zs H2 => zs.length = ks.length ∧ ∀ y dx, H2 y = none → H2 dx = none → dx ≠ y → sp (gV [.ref y] zs) (upd (upd H2 dx (.own y)) y (.ins C dx [])) (fun v H3 => v = .non ∧ Q (.ref y) H3) E) := by
  refine ⟨fun pins s σ H Q I h => wpAny_Call_Name_kw (ld_glob I hg hm ?_ hdb)⟩
  refine PySem.W.callWith_KW0 (h₀ := X.base) I.ok.mod.kin M.kp hall ?_ hpl
  refine thn (hkw.run pos pins s σ H _ I h) fun ws s2 ⟨zs, H2, I2, rz, l2, q2⟩ => ⟨I2.kIn, ?_⟩
  rw [hks]
  exact run_makeN (n := 0) M G hr hb hx I2 .nil rz rfl l2 q2
end
section
variable {T : List (Addr × Str)} {X : Cx} {ss : SS} {e a : Expr} {d1 d2 : D} {x k1 k2 : Str} {p pos p1 p2 : Pos} {n k : Nat} {C : Addr} {ns : List Str} {xs : List D} {pre : List D → List Str → List D → Prop}
/-- the class, made by its two parameters' names, the second one first -/
def MDk (T : List (Addr × Str)) (P : Program) (w : World) (K : PySem.W.Frag) (mg : Str → Option Value) (base : Heap) (x : Str) (C : Addr) (k : Nat) (pre : List D → List Str → List D → Prop) (k1 k2 : Str) : Prop :=
  ∃ f fd ps g gV, mg x = some (.ref C) ∧ Mk K C f ∧ FnOk P w K mg base CX0 k f fd ps (spM T K C 2 pre) ∧ KBn K fd ps 1 [k1, k2] g gV ∧ ∀ (y u v : V), gV [y] [u, v] = [y, v, u]
theorem ev_makeK (G : MDk T X.prog X.w X.K X.mg X.base x C k pre k1 k2) (hr : Room (k + 1) X.A) (h1 : EV T X e ss d1) (h2 : EV T X a ss d2) (hp : pre [d2, d1] ns xs) (hg : Gl X x := by rfl)
    (hall : (backToKw pos (keywordEach [⟨some k1, e, p1⟩, ⟨some k2, a, p2⟩] X.env)).all (·.1.isSome) = true := by rfl) (hks : (backToKw pos (keywordEach [⟨some k1, e, p1⟩, ⟨some k2, a, p2⟩] X.env)).filterMap (·.1) = [k1, k2] := by rfl) (hdb : (x == ("__debug__" : Str)) = false := by decide)
    (hpl : ((backTo pos (starEach [] X.env)).any (·.1) || (backToKw pos (keywordEach [⟨some k1, e, p1⟩, ⟨some k2, a, p2⟩] X.env)).any (·.1.isNone)) = false := by rfl) : EV T X (.Call (.Name x p) [] [⟨some k1, e, p1⟩, ⟨some k2, a, p2⟩] pos) ss (.ins C ns xs) := by
  obtain ⟨f, fd, ps, g, gV, e1, e2, e3, e4, e5⟩ := G
  refine EV.of (pe_makeK0 (E := E0) e2 e3 hr e1 e4 pass0 (pk_cons h1 (pk_cons h2 pk_nil)) hg hall hks hdb hpl) fun B F H σ Q R q => ev_go R fun v F1 H1 n1 R1 i1 => ev_go R1 fun u F2 H2 n2 R2 i2 => ⟨rfl, fun y dx hy hdx ne => ?_⟩
  rw [e5]
  exact ⟨H2, F2, y, dx, [u, v], [d2, d1], ns, xs, rfl, hy, hdx, ne, rfl, R2.sub, R2.nt, R2.tb, IsL.cons i2 (IsL.cons (Is.mono n2.f _ i1) IsL.nil), rfl, hp, fun F3 H3 n3 i3 => ⟨rfl, q _ F3 H3 ((n1.trans n2).trans n3) (R2.grow n3) i3⟩⟩
/-- False in a list of three True -/
theorem tv_inT {j : Nat} (he : EV T X e ss (.lst (List.replicate 3 (.bl true)))) (h1 : behindInMarks .In e = false := by rfl) : TV T X (.Compare (.Constant (.bool false) j p) [.In] [e] pos) ss false :=
  tv_cmp op_in_seq ev_bl he (fun B F H σ v u Q R i1 i2 q => by
    obtain ⟨a, vs, rfl, e1, e2⟩ := i2
    obtain rfl : v = .bl false := i1
    have ev : vs = [.bl true, .bl true, .bl true] := isL_bl (bs := [true, true, true]) e2
    subst ev
    exact ⟨a, _, rfl, .inl (SqL.of (R.sub _ _ e1)), rfl, rfl, q F H R.nx R⟩) h1
theorem pt_ifE {c a b : Expr} {tc ta tb : TT} (hc : PT X c tc) (ha : PT X a ta) (hb : PT X b tb) : PT X (.IfExp c a b pos) (fun σ H Q => tc σ H fun d H1 => if d = true then ta σ H1 Q else tb σ H1 Q) := by
  refine ⟨fun pins s σ H Q I h => isTrue_IfExp (thn (hc.run pins s σ H _ I h) fun d s1 ⟨H1, I1, q1⟩ => ?_)⟩
  cases d with
  | true => exact ha.run pins s1 σ H1 Q I1 q1
  | false => exact hb.run pins s1 σ H1 Q I1 q1
/-- a if c else b, as a test -/
theorem tv_ifE {c a b : Expr} {t u : Bool} (hc : TV T X c ss t) (h1 : t = true → TV T X a ss u) (h2 : t = false → TV T X b ss u) : TV T X (.IfExp c a b pos) ss u := by
  have p1 : PT X a (tTv T X.K fun ss' d' => TV T X a ss' d') := pt_fam fun _ _ h => h
  have p2 : PT X b (tTv T X.K fun ss' d' => TV T X b ss' d') := pt_fam fun _ _ h => h
  refine TV.of (pt_ifE hc p1 p2) fun B F H σ Q R q => tv_go R fun F1 H1 n1 R1 => ?_
  cases t with
  | true => exact iteT ⟨B, F1, ss, u, h1 rfl, R1, fun F2 H2 n2 R2 => q F2 H2 (n1.trans n2) R2⟩
  | false => exact iteF ⟨B, F1, ss, u, h2 rfl, R1, fun F2 H2 n2 R2 => q F2 H2 (n1.trans n2) R2⟩
end
end Fd

set_option Elab.async false
set_option linter.all false
set_option maxRecDepth 100000
set_option maxHeartbeats 4000000
/-! Fd16: the end of a law's proof with tables of code objects; raw facts to defs and methods. -/
namespace Fd
open PySem PySem.Spec PyProof.Rows L2
/-- THE END with tables: cs the makers' code objects and their tables, T the tables' names -/
theorem walkT {l : PySem.W.OpenLaw} {q : Program} {loose : List Str} {XP : (Str → Option Value) → Heap → Prop} {YP : World → Heap → Prop} {d : DefRec} {K : Params → PySem.W.Frag} {x : Str} (k : Nat) (hk : Room k callerA) (hn : l.most = some 63) (hdf : d.params.defaults = [])
    (hY : ∀ (w : World) (h : Heap), YP w h → (K w.params).In h)
    (F : ∀ (w : World) (mg : Str → Option Value) (fa : Addr) (h : Heap), YP w h → (K w.params).In h → h.Ns mainGlobals mg → mg d.name = some (.ref fa) →
      ∃ (fd : FuncData) (cs : List (Addr × Addr)) (T : List (Addr × Str)), (∀ p ∈ cs, h.get? p.2 = some { cls := .none, data := .fields #[] }) ∧ (∀ p ∈ cs, (K w.params).lookup p.2 = none) ∧ (∀ p ∈ cs, PySem.W.CodeHd h p.1 p.2) ∧ (∀ p ∈ T, p.1 ∈ cs.map (·.2)) ∧
        (∀ (s : Shared) (u : Value), BindsTo s fd ⟨[u], []⟩ [(x, u)]) ∧ ∀ base : Heap, (K w.params).In base → base.Ns mainGlobals mg → (∀ p ∈ cs, LamX.TabB base mg p.1 p.2) → FnOk l.prog w (K w.params) mg base CX0 k fa fd [x] (spD T (K w.params) 1 pLaw)) :
    PySem.W.WalkO q loose XP YP l.row.toRowW d [] (fun f vs => PySem.call f vs) := by
  refine LamX.walk_ofTs (n := 63) (k := k) (x := x) (CX := fun _ => CX0) hn (by decide) hdf hk hY (fun w mg fa h Y KX G hm => ?_) fun _ _ _ _ _ z => z
  obtain ⟨fd, cs, T, h1, h2, h3, h4, h5, h6⟩ := F w mg fa h Y KX G hm
  refine ⟨fd, cs, spD T (K w.params) 1 pLaw, h1, h2, h3, h5, fun H a ns hl _ hH hS => ?_, h6⟩
  refine ⟨noTbl H, [.rdl (ns.map D.int)], .bl true, noTbl_ext H, noTbl_nt H, fun p hp => ?_, ⟨_, _, rfl, ⟨a, ns.map V.int, rfl, noTbl_seq hS, ints_is ns⟩, rfl⟩, rfl, ⟨ns, rfl, hl, rfl⟩, fun v F1 H1 _ e => e⟩
  obtain ⟨c, hc, e⟩ := List.mem_map.mp (h4 p hp)
  exact LamX.TabS.nil (by rw [← e]; exact hH c hc)
section
variable {K : PySem.W.Frag} {mg : Str → Option Value} {h : Heap}
/-- a def of the top: its function object at f, its code object cdv -/
structure Dz (K : PySem.W.Frag) (mg : Str → Option Value) (x : Str) (st : Stmt) (f : Addr) (cdv : Value) : Prop where
  at_ : mg x = some (.ref f)
  fn : ∃ fd, Fun K x x st f fd ∧ FunZ K x x st f fd cdv
theorem dz_mk (X : K.In h) (G : h.Ns mainGlobals mg) {x : Str} {st : Stmt} {f : Addr} {oc : Value} {od an : Option Addr} {osl : Array (Option Value)} {kV doc pm cdv ct : Value} (a : PySem.W.nsIn K mainGlobals x = some (some (.ref f)))
    (l : K.lookup f = some ⟨oc, od, .func (PySem.W.fnOf x x (defArgs st) (defBody st) (defScope st) .none kV doc pm an cdv ct), osl⟩) (c : PySem.W.codeIn K cdv x = true) (k : PySem.W.keepIn K (.ref f) = true) : Dz K mg x st f cdv :=
  ⟨PySem.W.mg_of X G a, _, fun_mk l c k, ⟨oc, od, .none, kV, doc, pm, an, ct, osl, rfl, l, c⟩, k⟩
/-- a method m of the class C -/
structure Mz (K : PySem.W.Frag) (C : Addr) (m qual : Str) (st : Stmt) (f : Addr) (cdv : Value) : Prop where
  me : Meth K C m f
  fn : ∃ fd, Fun K m qual st f fd ∧ FunZ K m qual st f fd cdv
theorem mz_mk {C : Addr} {m qual : Str} {st : Stmt} {f : Addr} {oc : Value} {od an : Option Addr} {osl : Array (Option Value)} {kV doc pm cdv ct : Value} (a : PySem.W.findIn K (.ref C) m = some (some (.ref f))) (b : PySem.W.isFn K (.ref f) = true)
    (l : K.lookup f = some ⟨oc, od, .func (PySem.W.fnOf m qual (defArgs st) (defBody st) (defScope st) .none kV doc pm an cdv ct), osl⟩) (c : PySem.W.codeIn K cdv qual = true) (k : PySem.W.keepIn K (.ref f) = true) : Mz K C m qual st f cdv :=
  ⟨⟨a, b, k⟩, _, fun_mk l c k, ⟨oc, od, .none, kV, doc, pm, an, ct, osl, rfl, l, c⟩, k⟩
/-- an __init__ whose last parameter has the default value 1 -/
structure Iz (K : PySem.W.Frag) (C : Addr) (qual : Str) (st : Stmt) (f : Addr) (fd : FuncData) (cdv : Value) : Prop where
  mk' : Mk K C f
  z : FunZ K "__init__" qual st f fd cdv
  d : FunD K "__init__" qual (defArgs st) (defBody st) (defScope st) [.int 1] [] f fd
theorem iz_mk {C Td : Addr} {qual : Str} {st : Stmt} {f : Addr} {oc oc2 : Value} {od od2 an : Option Addr} {osl osl2 : Array (Option Value)} {kV doc pm cdv ct : Value} {arr : Array Value} {n2 : Nat} (m1 : PySem.W.makesIn K C = true) (a : PySem.W.findIn K (.ref C) "__init__" = some (some (.ref f))) (b : PySem.W.isFn K (.ref f) = true) (kC : PySem.W.keepIn K (.ref C) = true)
    (l : K.lookup f = some ⟨oc, od, .func (PySem.W.fnOf "__init__" qual (defArgs st) (defBody st) (defScope st) (.ref Td) kV doc pm an cdv ct), osl⟩) (c : PySem.W.codeIn K cdv qual = true) (k : PySem.W.keepIn K (.ref f) = true)
    (t : K.lookup Td = some ⟨oc2, od2, .seq arr n2, osl2⟩) (e : ∃ tk, arr.toList = [Value.int 1 tk]) : Iz K C qual st f (PySem.W.fnOf "__init__" qual (defArgs st) (defBody st) (defScope st) (.ref Td) kV doc pm an cdv ct) cdv := by
  obtain ⟨tk, e⟩ := e
  refine ⟨⟨m1, a, b, kC⟩, ⟨⟨oc, od, .ref Td, kV, doc, pm, an, ct, osl, rfl, l, c⟩, k⟩, ⟨oc, od, .ref Td, kV, doc, pm, an, cdv, ct, osl, rfl, l, c, .inr ⟨by simp, Td, _, arr.toList, n2, rfl, t, by simp, ?_⟩, .inl rfl⟩, k⟩
  rw [e]
  exact .cons ⟨_, rfl⟩ .nil
end
end Fd

set_option Elab.async false
set_option linter.all false
set_option maxRecDepth 100000
set_option maxHeartbeats 4000000
/-! Fd17: texts: methods, slices, signs; str of an own object; f-strings. -/
namespace Fd
open PySem PySem.Spec PyProof.Rows L2
section
variable {T : List (Addr × Str)} {X : Cx} {ss : SS} {o e e1 e2 : Expr} {x y z : Str} {d dy : D} {p pos apos p2 : Pos} {i j : Int}
/-- o.m(e), o a text -/
theorem ev_m1 {id : String} {name : Str} {r : V → List V → Hp → VK → Prop} (slot : Slot "str" name id) (ty : typeOf (.builtin id) = pure (.type "method_descriptor")) (rule : MtR X id r) (ho : EV T X o ss (.str x)) (he : EV T X e ss dy)
    (k : ∀ B F H σ u Q, StR T X.K B F H σ ss → Is X.K F dy u → (∀ z F1 H1, Nx T F H F1 H1 → StR T X.K B F1 H1 σ ss → Is X.K F1 d z → Q z H1) → r (.str x) [u] H Q)
    (hs : starEach [e] X.env = [(false, eval e X.env)] := by rfl) (hbase : attributeBase o name X.env (eval o X.env) = eval o X.env := by rfl) (hline : (apos.endLine == pos.line) = true := by rfl) : EV T X (.Call (.Attribute o name apos) [e] [] pos) ss d :=
  EV.of (pe_m1 slot ty rule ho he hs hbase hline) fun B F H σ Q R q => ev_go R fun v F1 H1 n1 R1 i1 => by
    cases (show v = .str x from i1)
    refine ⟨⟨x, rfl⟩, ev_go R1 fun u F2 H2 n2 R2 i2 => k B F2 H2 σ u Q R2 i2 fun z F3 H3 n3 R3 i3 => q z F3 H3 ((n1.trans n2).trans n3) R3 i3⟩
theorem ev_unprefix (hl : x.length ≤ 100000) (ho : EV T X o ss (.str x)) (he : EV T X e ss (.str y)) (hs : starEach [e] X.env = [(false, eval e X.env)] := by rfl) (hbase : attributeBase o "removeprefix" X.env (eval o X.env) = eval o X.env := by rfl) (hline : (apos.endLine == pos.line) = true := by rfl) :
    EV T X (.Call (.Attribute o "removeprefix" apos) [e] [] pos) ss (.str (Txt.removeprefix x y)) :=
  ev_m1 PySem.F.slot_str_removeprefix PySem.F.type_str_removeprefix mt_removeprefix ho he (fun B F H σ u Q R i q => by
    cases (show u = .str y from i)
    exact ⟨x, y, rfl, rfl, small_len hl, q _ F H R.nx R rfl⟩) hs hbase hline
theorem ev_starts (ho : EV T X o ss (.str x)) (he : EV T X e ss (.str y)) (hs : starEach [e] X.env = [(false, eval e X.env)] := by rfl) (hbase : attributeBase o "startswith" X.env (eval o X.env) = eval o X.env := by rfl) (hline : (apos.endLine == pos.line) = true := by rfl) :
    EV T X (.Call (.Attribute o "startswith" apos) [e] [] pos) ss (.bl (Txt.startswith x y)) :=
  ev_m1 PySem.F.slot_str_startswith PySem.F.type_str_startswith mt_startswith ho he (fun B F H σ u Q R i q => by
    cases (show u = .str y from i)
    exact ⟨x, y, rfl, rfl, q _ F H R.nx R rfl⟩) hs hbase hline
theorem ev_part (hy : (y.length == 0) = false) (hl : x.length ≤ 100000) (ho : EV T X o ss (.str x)) (he : EV T X e ss (.str y)) (hs : starEach [e] X.env = [(false, eval e X.env)] := by rfl) (hbase : attributeBase o "partition" X.env (eval o X.env) = eval o X.env := by rfl) (hline : (apos.endLine == pos.line) = true := by rfl) :
    EV T X (.Call (.Attribute o "partition" apos) [e] [] pos) ss (.tup [.str (Txt.partition x y).1, .str (Txt.partition x y).2.1, .str (Txt.partition x y).2.2]) :=
  ev_m1 PySem.F.slot_str_partition PySem.F.type_str_partition mt_partition ho he (fun B F H σ u Q R i q => by
    cases (show u = .str y from i)
    refine ⟨x, y, rfl, rfl, hy, small_len hl, fun a ha => ?_⟩
    exact q _ _ _ (Nx.alloc R.sub ha) (R.alloc ha) ⟨a, _, rfl, SqT.of upd_same, IsL.cons rfl (IsL.cons rfl (IsL.cons rfl IsL.nil))⟩) hs hbase hline
theorem isL_strs {K : PySem.W.Frag} {F : Hp} : ∀ ys : List Str, IsL K F (ys.map D.str) (ys.map V.str)
  | [] => rfl
  | y :: r => ⟨_, _, rfl, rfl, isL_strs r⟩
theorem ev_split (hy : (y.length == 0) = false) (hl : x.length ≤ 99990) (ho : EV T X o ss (.str x)) (he : EV T X e ss (.str y)) (hs : starEach [e] X.env = [(false, eval e X.env)] := by rfl) (hbase : attributeBase o "split" X.env (eval o X.env) = eval o X.env := by rfl) (hline : (apos.endLine == pos.line) = true := by rfl) :
    EV T X (.Call (.Attribute o "split" apos) [e] [] pos) ss (.lst ((Txt.split x y).map D.str)) :=
  ev_m1 PySem.F.slot_str_split PySem.F.type_str_split mt_split ho he (fun B F H σ u Q R i q => by
    cases (show u = .str y from i)
    refine ⟨x, y, rfl, rfl, hy, by rw [sizeLine_eq]; omega, fun a ha => ?_⟩
    exact q _ _ _ (Nx.alloc R.sub ha) (R.alloc ha) ⟨a, _, rfl, upd_same, isL_strs _⟩) hs hbase hline
/-- x[i] -/
theorem ev_sign {c : Nat} (h : ∃ n : Nat, i = n ∧ x.cps.toList[n]? = some c) (hl : x.length ≤ 100000) (ha : EV T X o ss (.str x)) (hb : EV T X e ss (.int i)) (hs : PlainIxT e := by exact fun _ _ => rfl) : EV T X (.Subscript o e pos) ss (.str ⟨#[c]⟩) :=
  EV.of (pe_item_str ha hb hs) fun B F H σ Q R q => ev_go R fun v F1 H1 n1 R1 i1 => ev_go R1 fun u F2 H2 n2 R2 i2 => by
    obtain ⟨n, rfl, hn⟩ := h
    cases (show v = .str x from i1)
    cases (show u = .int _ from i2)
    have hlt : n < x.length := by
      have := (List.getElem?_eq_some_iff.mp hn).1
      simpa [Str.length] using this
    refine ⟨x, _, c, rfl, rfl, by omega, by omega, by omega, ?_, q _ F2 H2 (n1.trans n2) R2 rfl⟩
    rw [← Array.getElem?_toList]
    simpa using hn
/-- x[lo:hi] -/
def PV (T : List (Addr × Str)) (X : Cx) (o : Option Expr) (ss : SS) (l : Option Int) : Prop := (o = none ∧ l = none) ∨ ∃ e i, o = some e ∧ l = some i ∧ EV T X e ss (.int i)
theorem pv_none : PV T X none ss none := .inl ⟨rfl, rfl⟩
theorem pv_some (h : EV T X e ss (.int i)) : PV T X (some e) ss (some i) := .inr ⟨e, i, rfl, rfl, h⟩
def tPV (T : List (Addr × Str)) (K : PySem.W.Frag) (ss : SS) (l : Option Int) : TO := fun σ H Q => ∃ B F, StR T K B F H σ ss ∧ ∀ F1 H1, Nx T F H F1 H1 → StR T K B F1 H1 σ ss → Q l H1
theorem po_pv {o : Option Expr} {l : Option Int} (h : PV T X o ss l) : PO X o (tPV T X.K ss l) := by
  rcases h with ⟨rfl, rfl⟩ | ⟨e, i, rfl, rfl, h⟩
  · exact ⟨fun pins s σ H Q I ⟨B, F, R, q⟩ => (po_none (X := X)).run pins s σ H Q I (q F H R.nx R)⟩
  · refine ⟨fun pins s σ H Q I ⟨B, F, R, q⟩ => (po_some h).run pins s σ H Q I (ev_go R fun v F1 H1 n1 R1 i1 => ?_)⟩
    exact ⟨i, i1, q F1 H1 n1 R1⟩
theorem ev_cut {lo hi : Option Expr} {l u : Option Int} (hz : x.length ≤ 100000) (ha : EV T X o ss (.str x)) (hl : PV T X lo ss l) (hu : PV T X hi ss u) : EV T X (.Subscript o (.Slice lo hi none p2) pos) ss (.str (cutS x l u)) :=
  EV.of (pe_slice sl_str ha (po_pv hl) (po_pv hu)) fun B F H σ Q R q => ev_go R fun v F1 H1 n1 R1 i1 => by
    cases (show v = .str x from i1)
    exact ⟨B, F1, R1, fun F2 H2 n2 R2 => ⟨B, F2, R2, fun F3 H3 n3 R3 => ⟨x, rfl, small_len hz, q _ F3 H3 ((n1.trans n2).trans n3) R3 rfl⟩⟩⟩
/-- int(x) -/
theorem ev_intS {n : Int} (hn : PySem.intText? x = some n) (hl : x.length ≤ 640) (ha : EV T X e ss (.str x)) (hm : X.mg "int" = none) (hg : Gl X "int" := by rfl) (he : starEach [e] X.env = [(false, eval e X.env)] := by rfl) : EV T X (.Call (.Name "int" p) [e] [] pos) ss (.int n) :=
  ev_bty call_int_str (evs_cons ha evs_nil he) hm (by decide +kernel) (fun B F H σ vs Q R i1 q => by
    obtain ⟨v, rfl, h⟩ := isL1 i1
    cases (show v = .str x from h)
    exact ⟨x, n, rfl, hn, hl, q _ F H R.nx R rfl⟩) hg (he := he)
/-- c in x, c not in x: a sign -/
theorem ev_inC {c : Nat} (ha : EV T X o ss (.str ⟨#[c]⟩)) (hb : EV T X e ss (.str x)) (h1 : behindInMarks .In e = false := by rfl) : EV T X (.Compare o [.In] [e] pos) ss (.bl (decide (c ∈ x.cps.toList))) :=
  ev_cmp op_in_sign ha hb (fun B F H σ v u Q R i1 i2 q => by
    cases (show v = .str ⟨#[c]⟩ from i1); cases (show u = .str x from i2)
    exact ⟨c, x, rfl, rfl, q _ F H R.nx R rfl⟩) h1
theorem tv_notInC {c : Nat} (ha : EV T X o ss (.str ⟨#[c]⟩)) (hb : EV T X e ss (.str x)) (h1 : behindInMarks .NotIn e = false := by rfl) : TV T X (.Compare o [.NotIn] [e] pos) ss (!decide (c ∈ x.cps.toList)) :=
  tv_cmp op_notIn_sign ha hb (fun B F H σ v u Q R i1 i2 q => by
    cases (show v = .str ⟨#[c]⟩ from i1); cases (show u = .str x from i2)
    exact ⟨c, x, rfl, rfl, q F H R.nx R⟩) h1
/-- x is None -/
theorem is_non {K : PySem.W.Frag} {F : Hp} {d : D} {v : V} (h : Is K F d v) (hd : d ≠ .non) : v ≠ .non := by
  intro e; subst e
  cases d with
  | non => exact hd rfl
  | bl b => cases (show V.non = .bl b from h)
  | int i => cases (show V.non = .int i from h)
  | str x => cases (show V.non = .str x from h)
  | lst xs => obtain ⟨a, vs, e, _⟩ := h; cases e
  | rdl xs => obtain ⟨a, vs, e, _⟩ := h; cases e
  | tup xs => obtain ⟨a, vs, e, _⟩ := h; cases e
  | ins C ns xs => obtain ⟨a, dx, fs, e, _⟩ := h; cases e
  | dct ks xs => obtain ⟨a, kvs, e, _⟩ := h; cases e
  | tk k => obtain ⟨a, e, _⟩ := h; cases e
  | dcT ks xs => obtain ⟨a, od, kvs, e, _⟩ := h; cases e
  | exc C ns xs => obtain ⟨a, od, fs, e, _⟩ := h; cases e
  | adr a => cases (show V.non = .ref a from h)
  | ty n => cases (show V.non = .ty n from h)
  | hx a dd f x => obtain ⟨e, _⟩ := h; cases e
theorem tv_isN (b : Bool) (ha : EV T X o ss d) (hb : (b = true ∧ d = .non) ∨ (b = false ∧ d ≠ .non)) {j : Nat} {pn : Pos} (h1 : behindInMarks .Is (.Constant .none j pn) = false := by rfl) : TV T X (.Compare o [.Is] [.Constant .none j pn] pos) ss b :=
  tv_cmp op_isN ha ev_non (fun B F H σ v u Q R i1 i2 q => by
    refine ⟨i2, ?_⟩
    rcases hb with ⟨rfl, rfl⟩ | ⟨rfl, hd⟩
    · cases (show v = .non from i1)
      exact q F H R.nx R
    · rw [decide_eq_false (is_non i1 hd)]
      exact q F H R.nx R) h1
end
end Fd

set_option Elab.async false
set_option linter.all false
set_option maxRecDepth 100000
set_option maxHeartbeats 4000000
/-! Fd18: an own exception with one attribute, raised and caught with its name. -/
namespace Fd
open PySem PySem.Spec PyProof.Rows L2 PySem.ExS
section
variable {X : Cx} {C fI cc cda : Addr} {f y x : Str} {k : Nat} {e : Expr} {ta : TA} {p pos : Pos}
/-- C(e), to be raised: its dict is known -/
theorem pmk_exv1 (EC : ExCls X.prog X.K X.mg C fI cc cda) (Fn : ExFn1 X.K C fI cc cda f y) (rs : Raises X (.ref C)) (hr : Room k X.A) (he : PA X [e] ta) (hm : X.mg x = some (.ref C)) (hg : Gl X x := by rfl) (hdb : (x == ("__debug__" : Str)) = false := by decide)
    (hst : starEach [e] X.env = [(false, eval e X.env)] := by rfl) (hpl : (backTo pos (starEach [] X.env)).any (·.1) = false := by rfl) :
    PMk X (.Call (.Name x p) [e] [] pos) (fun σ H Q => ta σ H fun vs H1 => ∃ v, vs = [v] ∧ ∀ d, H1 d = none → Q (.ref C) (some d) (upd H1 d (.xd [(f, v)]))) := by
  intro pins s σ H Q I h
  refine wpAny_Call_Name_kw (ld_glob I hg hm ?_ hdb)
  refine PySem.W.callWith_K (h₀ := X.base) I.ok.mod.kin EC.kC (thn (he.run pos pins s σ H _ I h) fun us s1 ⟨vs, H1, I1, r1, v, ev, q⟩ => ⟨I1.kIn, ?_⟩) hst hpl
  subst ev
  obtain ⟨u, rfl, ru⟩ := vals1 r1
  show wpAny _ _ (call (.ref C) [u]) _ _ _
  obtain ⟨mb, h1, h2⟩ := I1.mod.blt
  have hlim := I1.nolimit
  have kin := I1.kIn
  have g1 := I1.mod.glob.keeps I1.bk
  have g2 := h1.keeps I1.bk
  have bare := I1.bare
  obtain ⟨hp, g, dr, tk, os⟩ := s1
  refine wpAny_call (made1 EC Fn kin hlim g1 g2 (h2 _ (by decide)) (by have := hr.dp; omega) fun h' tk' a d M => ?_)
  obtain ⟨t1, ho⟩ := M.obj
  obtain ⟨G, gG, gN⟩ := restrict h' fun b => !decide (b = a)
  have Ga : G.get? a = none := gN a (by simp)
  have Go : ∀ b, b ≠ a → G.get? b = h'.get? b := fun b nb => gG b (by simpa using nb)
  have old : ∀ b o, hp.get? b = some o → G.get? b = some o := fun b o e => by
    rw [Go b (Nat.ne_of_lt (Nat.lt_of_lt_of_le (Heap.lt_size e) M.new))]
    exact M.keep b o e
  have Gd : G.Ns1 d (fun y => if y = f then some u else none) := by
    obtain ⟨od, es, ep, e1, c⟩ := M.ns
    exact ⟨od, es, ep, by rw [Go d M.dne]; exact e1, c⟩
  have okd : ObjOk X.prog X.w (upd H1 d (.xd [(f, v)])) G d (.xd [(f, v)]) := ⟨_, Gd, relO_put (fs := []) ru fun g => True.intro⟩
  have J : Inv X pins σ (upd H1 d (.xd [(f, v)])) ⟨G, g, dr, tk', os⟩ := I1.laid (t' := tk') (o := .xd [(f, v)]) old M.dbig okd
  have na : upd H1 d (.xd [(f, v)]) a = none := by rw [upd_ne (Ne.symm M.dne)]; exact I1.hok.fresh M.new
  exact ⟨a, _, _, ⟨G, g, dr, tk', os⟩, _, .ref C, some d, rfl, J, fun b o e => by
    have nb : b ≠ a := fun z => by rw [z] at e; rw [show ({ heap := G, gens := g, drawn := dr, toks := tk', os := os } : Shared).heap.get? a = none from Ga] at e; cases e
    exact (Go b nb).symm.trans e, Ga, ho, ⟨rfl, rfl⟩, rfl, rfl, na, rfl, bare, rs, q d (I1.hok.fresh M.dbig)⟩
end
/-- what is told of a raised exception: its class and its dict -/
def Told (C : Addr) (f : Str) (v : V) (c : Value) (d : Option Addr) (H : Hp) : Prop := c = .ref C ∧ ∃ dd, d = some dd ∧ H dd = some (.xd [(f, v)])
/-- a def that raises, J told of the exception -/
def spY (T : List (Addr × Str)) (K : PySem.W.Frag) (n : Nat) (pre : List D → (Value → Option Addr → Hp → Prop) → Prop) : Sp := fun vs H _ E => ∃ F ds J, Ext F H ∧ (∀ p ps, F p ≠ some (.tbl ps)) ∧ LamX.Tabs T H ∧ IsL K F ds vs ∧ ds.length = n ∧ pre ds J ∧ ∀ c d H1, Gr T H H1 → J c d H1 → E c d H1
def RY (T : List (Addr × Str)) (X : Cx) (sts : List Stmt) (ss : SS) (J : Value → Option Addr → Hp → Prop) (E : XK) : Prop := PSs X sts (fun _ σ H => ∃ B F, StR T X.K B F H σ ss ∧ ∀ c d H1, Gr T B.2 H1 → J c d H1 → E c d H1)
abbrev AllRy (T : List (Addr × Str)) (X : Cx) (sts : List Stmt) (J : Value → Option Addr → Hp → Prop) (E : XK) : TS := fun _ σ H => ∃ B F ss, RY T X sts ss J E ∧ StR T X.K B F H σ ss ∧ ∀ c d H1, Gr T B.2 H1 → J c d H1 → E c d H1
section
variable {T : List (Addr × Str)} {X : Cx} {ss : SS} {P : Post} {st : Stmt} {sts rest A B : List Stmt} {e cnd : Expr} {J : Value → Option Addr → Hp → Prop} {E : XK} {pos p : Pos} {C fI cc cda : Addr} {f y x : Str} {k n : Nat} {d : D} {z : Str} {pos' : Pos}
theorem pss_ry : PSs X sts (AllRy T X sts J E) := ⟨fun pins s σ H D I ⟨B, F, ss, h, R, q⟩ => h.run pins s σ H D I ⟨B, F, R, q⟩⟩
theorem ry_cons (h : SV T X st ss ⟨fun ss' => RY T X rest ss' J E, fun _ => False, fun _ => False, fun _ => False⟩) : RY T X (st :: rest) ss J E := by
  refine PSs.imp (pss_cons h (pss_ry (T := T) (J := J) (E := E))) fun D σ H ⟨B, F, R, q⟩ => ?_
  exact ⟨B, F, ss, _, ⟨rfl, rfl⟩, R, fun ss' σ' F1 H1 hn R1 => ⟨B, F1, ss', hn, R1, q⟩, fun _ _ _ _ _ _ z => z.elim, fun _ _ _ _ z => z.elim, fun _ _ _ _ z => z.elim⟩
theorem ry_ifT (hc : TV T X cnd ss true) (h : RY T X A ss J E) : RY T X (.If cnd A B pos :: rest) ss J E :=
  PSs.imp (pss_cons (ps_if hc h (pss_all (T := T) (sts := B))) (pss_all (T := T))) fun D σ H ⟨B0, F, R, q⟩ => tv_go R fun F1 H1 n1 R1 => ⟨B0, F1, R1, q⟩
/-- raise C(e), e a text -/
theorem ry_raise (tk : Takes X (fun cls d _ H => E cls d H)) (EC : ExCls X.prog X.K X.mg C fI cc cda) (Fn : ExFn1 X.K C fI cc cda f y) (rs : Raises X (.ref C)) (hr : Room k X.A) (hm : X.mg x = some (.ref C)) (he : EV T X e ss (.str z)) (hg : Gl X x := by rfl) (hc : X.calm = true := by rfl) (hdb : (x == ("__debug__" : Str)) = false := by decide)
    (hst : starEach [e] X.env = [(false, eval e X.env)] := by rfl) (hpl : (backTo pos (starEach [] X.env)).any (·.1) = false := by rfl) : RY T X (.Raise (some (.Call (.Name x p) [e] [] pos)) none pos' :: rest) ss (Told C f (.str z)) E := by
  refine PSs.imp (pss_cons (ps_raise hc tk (pmk_exv1 EC Fn rs hr (evs_cons he evs_nil hst) hm hg hdb hst hpl)) (pss_all (T := T))) fun D σ H ⟨B0, F, R, q⟩ => ?_
  refine evs_go R fun vs F1 H1 n1 R1 i1 => ?_
  obtain ⟨v, rfl, i⟩ := isL1 i1
  cases (show v = .str z from i)
  refine ⟨_, rfl, fun d hd => q _ _ _ (R1.bH.trans (Gr.of (Ext.upd hd))) ⟨rfl, d, rfl, upd_same⟩⟩
end
section
variable {T : List (Addr × Str)} {P : Program} {w : World} {K : PySem.W.Frag} {mg : Str → Option Value} {base : Heap} {x qual : Str} {st : Stmt} {f : Addr} {fd : FuncData} {cdv : Value} {N ps : List Str} {k n : Nat} {pre : List D → (Value → Option Addr → Hp → Prop) → Prop}
theorem fy_ok (F : FunZ K x qual st f fd cdv) (S : FnScope N ps (defScope st)) (hn : ps.length = n)
    (h : ∀ (A : Around) (outer : List Env) (s : Shared) (H : Hp) (E : XK) (ds : List D) (J : Value → Option Addr → Hp → Prop), Room k (A.deeper (envOfC qual (defScope st) s.heap.objs.size f cdv)) → ds.length = n → pre ds J →
      Takes (xX P w K mg base N qual st f cdv A outer s H E) (fun cls d _ H => E cls d H) → RY T (xX P w K mg base N qual st f cdv A outer s H E) (defBody st) (startS N ds) J E) : FnOk P w K mg base (L2.CX P w) (k + 1) f fd ps (spY T K n pre) :=
  F.ok S (fun vs H Q E ⟨F, ds, J, _, _, _, i, l, _⟩ => by rw [i.length, l, hn]) fun A outer s H vs Q E hr ⟨F0, ds, J, x, nt, tb, i, l, p, q⟩ =>
    ⟨_, h A outer s H E ds J hr l p (takes_of rfl rfl rfl rfl), (F0, H), F0, start_str x nt tb i, q⟩
/-- the def under the module's name x, in the runs in which it raises -/
def FY (T : List (Addr × Str)) (P : Program) (w : World) (K : PySem.W.Frag) (mg : Str → Option Value) (base : Heap) (x : Str) (n k : Nat) (pre : List D → (Value → Option Addr → Hp → Prop) → Prop) : Prop :=
  ∃ f fd ps, mg x = some (.ref f) ∧ PySem.W.keepIn K (.ref f) = true ∧ Binds K fd ps [] ∧ ps.length = n ∧ FnOk P w K mg base (L2.CX P w) k f fd ps (spY T K n pre)
end
section
variable {T : List (Addr × Str)} {X : Cx} {ss : SS} {e : Expr} {es : List Expr} {ds : List D} {J : Value → Option Addr → Hp → Prop} {x : Str} {p pos : Pos} {n k : Nat} {pre : List D → (Value → Option Addr → Hp → Prop) → Prop} {E : XK}
theorem ry_call (G : FY T X.prog X.w X.K X.mg X.base x n k pre) (hx : Passes (L2.CX X.prog X.w) X E) (hr : Room k X.A) (ha : EVs T X (e :: es) ss ds) (hp : pre ds J) (hn : ds.length = n := by rfl) (hg : Gl X x := by rfl) (hdb : (x == ("__debug__" : Str)) = false := by decide)
    (he : starEach (e :: es) X.env = (false, eval e X.env) :: starEach es X.env := by rfl) (hpl : (backTo pos (starEach es X.env)).any (·.1) = false := by rfl) :
    PE X (.Call (.Name x p) (e :: es) [] pos) (fun σ H _ => ∃ B F, StR T X.K B F H σ ss ∧ ∀ c d H1, Gr T H H1 → J c d H1 → E c d H1) := by
  obtain ⟨f, fd, ps, h1, h2, h3, h4, h5⟩ := G
  refine PE.imp (pe_call h5 hr hg h1 h2 h3 .nil hx ha hdb he hpl) fun σ H Q ⟨B, F, R, q⟩ => evs_go R fun vs F1 H1 n1 R1 i1 => ?_
  show spY T X.K n pre (vs ++ []) H1 Q E
  rw [List.append_nil]
  exact ⟨F1, ds, J, R1.sub, R1.nt, R1.tb, i1, hn, hp, fun c d H2 g j => q c d H2 (n1.h.trans g) j⟩
end
end Fd

set_option Elab.async false
set_option linter.all false
set_option maxRecDepth 100000
set_option maxHeartbeats 4000000
/-! Fd19: try with a clause that names the exception; str of an own object; f-strings of ints. -/
namespace Fd
open PySem PySem.Spec PyProof.Rows L2 PySem.ExS
section
variable {T : List (Addr × Str)} {X : Cx} {ss : SS} {P : Post} {st : Stmt} {body : List Stmt} {h₀ : ExceptHandler} {hs : List ExceptHandler} {e e1 e2 : Expr} {pos p p1 p2 p3 p4 p5 p6 p7 p8 p9 pa pb : Pos} {C : Addr} {f x n tag : Str} {z : Str} {i j j' : Nat}
theorem sv_tryN (h : SVs T X.nox body ss P) : SV T X (.Try body (h₀ :: hs) [] [] pos) ss P := ps_try_thru0 h
/-- try: return (.., r(e)) / except C as n: return (tag, n.f), where r raises C with the text z -/
theorem sv_tryE {r : Str} {k : Nat} {pre : List D → (Value → Option Addr → Hp → Prop) → Prop} {ds : List D} {es : List Expr} (G : FY T X.prog X.w X.K X.mg X.base r ds.length k pre) (hr : Room k X.A) (hp : pre ds (Told C f (.str z)))
    (ha : ∀ (pn : List (Addr × Obj)) (xe : Value → Shared → Prop), EVs T (X.tr pn xe) (e :: es) ss ds) (xf : XfC X.K C) (hno : PySem.W.findIn X.K (.ref C) f = some none) (hx : PySem.W.exmOne X.K (.ref C) (.ref C) = some true) (hm : X.mg x = some (.ref C)) (hk : P.rt (.tup [.str tag, .str z]))
    (hstk : X.stack = X.env :: X.outer := by rfl) (hf : X.env.frame = some X.env.locals := by rfl) (hN : X.N.Nodup) (hi : X.N[i]? = some n) (hln : X.env.kindOf n = some .local) (hin : i < ss.length) (hv : Vis X.env.scope n) (hg : Gl X x := by rfl) (hgr : Gl X r := by rfl) (tk : Takes X (fun _ _ _ _ => False))
    (hcm : X.calm = true := by rfl) (hd : (n == ("__debug__" : Str)) = false := by decide) (hcd : (n == ("__classdict__" : Str)) = false := by decide) (hdx : (x == ("__debug__" : Str)) = false := by decide) (hdr : (r == ("__debug__" : Str)) = false := by decide)
    (he : starEach (e :: es) X.env = (false, eval e X.env) :: starEach es X.env := by rfl) (hpl : (backTo p3 (starEach es X.env)).any (·.1) = false := by rfl) (hb : attributeBase (.Name n p7) f X.env (eval (.Name n p7) X.env) = eval (.Name n p7) X.env := by rfl) :
    SV T X (.Try [.Return (some (.Tuple [.Constant (.str (Str.ofString "number")) j p1, .Call (.Name r p2) (e :: es) [] p3] j' p4)) p5] [.ExceptHandler (some (.Name x p6)) (some n) [.Return (some (.Tuple [.Constant (.str tag) j p8, .Attribute (.Name n p7) f p9] j' pa)) pb] p] [] [] pos) ss P := by
  obtain ⟨fr, fd, ps, h1, h2, h3, h4, h5⟩ := G
  refine SV.of (ps_try_as (c := .ref C) (i := i) (Wout := fun _ _ _ _ => False) (tb := fun W D σ H => ∃ B F, StR T X.K B F H σ ss ∧ ∀ c d H1, Gr T H H1 → Told C f (.str z) c d H1 → W c d σ H1)
    hstk hf hN hi hln ⟨hg, hdx, .inl hm⟩ tk (fun W pn xe tk' _ => ?_) (fun a oe cls d pn hz hfl => pss_one (ps_ret (pe_tup (pa_cons pe_str (pa_cons (pe_xf xf hno hz hfl (pe_var hi hv hd hcd) hb) pa_nil)))))) fun B F H σ Dn R g => ?_
  · refine PSs.imp (pss_one (ps_ret (pe_tup (pa_cons pe_str (pa_cons (pe_callS (X := X.tr pn xe) (CX := L2.CX X.prog X.w) (E := WE W) h5 hr hgr h1 h2 h3 (fun σ => passAt tk' σ) (ha pn xe) hdr he hpl) pa_nil))))) fun D σ H ⟨B, F, R, q⟩ => ?_
    refine evs_go (T := T) (K := X.K) R fun vs F1 H1 n1 R1 i1 => ?_
    exact ⟨F1, ds, _, R1.sub, R1.nt, R1.tb, i1, rfl, hp, fun c d H2 g2 j2 => q c d H2 (n1.h.trans g2) j2⟩
  · refine ⟨B, F, R, fun c d H1 g1 ⟨ec, dd, ed, hdd⟩ => ?_⟩
    subst ec; subst ed
    refine ⟨true, hx, fun _ a ha' => ?_, fun z => nomatch z⟩
    have hl : i < σ.length := by rw [R.len]; exact hin
    refine ⟨.ref a, by rw [List.getElem?_set_self hl], rfl, rfl, dd, _, .str z, rfl, hdd, by simp, Nat.le_trans (show ([L2.V.str tag, L2.V.str z] : List L2.V).length ≤ 100000 by simp) (small_len (Nat.le_refl _)), fun q hq => ?_⟩
    have R1 := R.grow (R.gr g1)
    exact g.rt (.tup [.str tag, .str z]) _ ss σ _ _ hk (R1.alloc hq) ⟨q, _, rfl, SqT.of upd_same, IsL.cons rfl (IsL.cons rfl IsL.nil)⟩
end
end Fd

set_option Elab.async false
set_option linter.all false
set_option maxRecDepth 100000
set_option maxHeartbeats 4000000
/-! Fd20: str of an own object; a text that the module names. -/
namespace Fd
open PySem PySem.Spec PyProof.Rows L2
section
variable {T : List (Addr × Str)} {X : Cx} {ss : SS} {e a b : Expr} {p pos : Pos} {C f : Addr} {k : Nat} {pre : List D → D → Prop} {ns : List Str} {xs : List D} {x y z : Str}
theorem units2 {A : Around} (hr : Room (k + 2) A) : A.in1.in1.units < cLine := (hr.in1).in1.units0
theorem ev_strO (M : OwnM T X.prog X.w X.K X.mg X.base C "__str__" 1 k pre f) (hr : Room (k + 2) X.A) (he : EV T X e ss (.ins C ns xs)) (hp : pre [.ins C ns xs] (.str z)) (hm : X.mg "str" = none) (hg : Gl X "str" := by rfl) (hs : starEach [e] X.env = [(false, eval e X.env)] := by rfl) :
    EV T X (.Call (.Name "str" p) [e] [] pos) ss (.str z) := by
  have hc : CallR X (.type "str") (fun vs H Q => ∃ F v, Ext F H ∧ (∀ p ps, F p ≠ some (.tbl ps)) ∧ LamX.Tabs T H ∧ vs = [v] ∧ Is X.K F (.ins C ns xs) v ∧ ∀ v F1 H1, Nx T F H F1 H1 → Is X.K F1 (.str z) v → Q v H1) := by
    intro pins s σ H vs us Q I rv ⟨F, v, e, nt, tb, ev, i, q⟩
    subst ev
    obtain ⟨u, rfl, ru⟩ := vals1 rv
    obtain ⟨y, dx, fs, rfl, e1, _⟩ := id i
    cases ru
    obtain ⟨mA, J, _⟩ := ins_get I.hok (e _ _ e1)
    obtain ⟨od, J, _⟩ := J.look
    refine PySem.W.kso_call (units2 hr) I.kIn J M.at_ M.fn (wpAny_mono (OwnM.run (X := Cx.in1 (Cx.in1 X)) (P := X.prog) (w := X.w) (K := X.K) (mg := X.mg) (base := X.base) (vs := [.ref y]) (Q := fun v H1 => v = .str z ∧ Q v H1) M hr.in1.in1 (Inv.in1 (Inv.in1 I)) (.cons rfl .nil) e nt tb (.cons i .nil) rfl hp fun v F1 H1 n1 iv => ⟨iv, q v F1 H1 n1 iv⟩) (fun v s' h => ?_) fun _ _ w => w)
    obtain ⟨v', H', I', rv', ev', q'⟩ := h
    subst ev'
    obtain ⟨t, rfl⟩ := (show ∃ t, v = Value.str z t from rv')
    exact ⟨.str z, H', Inv.out1 (Inv.out1 I'), ⟨t, rfl⟩, q'⟩
  exact ev_bty hc (evs_cons he evs_nil hs) hm (by decide +kernel) (fun B F H σ vs Q R i1 q => by
    obtain ⟨v, rfl, h⟩ := isL1 i1
    exact ⟨F, v, R.sub, R.nt, R.tb, rfl, h, fun v F1 H1 n1 i2 => q v F1 H1 n1 (R.grow n1) i2⟩) hg (he := hs)
/-- a text that the module names -/
theorem ev_glS {t : Tok} {n : Str} (hm : X.mg n = some (.str x t)) (hg : Gl X n := by rfl) (hd : (n == ("__debug__" : Str)) = false := by decide) : EV T X (.Name n pos) ss (.str x) :=
  EV.of (pe_glob hg hm (r := ⟨t, rfl⟩) (v := .str x) hd) fun B F H σ Q R q => q _ F H R.nx R rfl
theorem eqv_str (x y : Str) : PyData.eqv (.str x) (.str y) = decide (x = y) := by
  by_cases h : x = y <;> simp [PyData.eqv, h]
theorem ev_neS (ha : EV T X a ss (.str x)) (hb : EV T X b ss (.str y)) (h1 : behindInMarks .NotEq b = false := by first | exact nobehind _ (by decide) (by decide) | rfl) : EV T X (.Compare a [.NotEq] [b] pos) ss (.bl (!decide (x = y))) :=
  ev_cmp op_ne ha hb (fun B F H σ v u Q R i1 i2 q => by
    cases i1; cases i2
    exact ⟨rfl, q _ F H R.nx R (by show V.bl _ = V.bl _; rw [dec_str, Bool.beq_eq_decide_eq])⟩) h1
theorem tv_neS (ha : EV T X a ss (.str x)) (hb : EV T X b ss (.str y)) (h1 : behindInMarks .NotEq b = false := by first | exact nobehind _ (by decide) (by decide) | rfl) : TV T X (.Compare a [.NotEq] [b] pos) ss (!decide (x = y)) :=
  tv_cmp op_ne ha hb (fun B F H σ v u Q R i1 i2 q => by
    cases i1; cases i2
    refine ⟨rfl, ?_⟩
    rw [dec_str]
    rw [Bool.beq_eq_decide_eq] at *
    exact q F H R.nx R) h1
theorem tv_eqS (ha : EV T X a ss (.str x)) (hb : EV T X b ss (.str y)) (h1 : behindInMarks .Eq b = false := by first | exact nobehind _ (by decide) (by decide) | rfl) : TV T X (.Compare a [.Eq] [b] pos) ss (decide (x = y)) :=
  tv_cmp op_eq ha hb (fun B F H σ v u Q R i1 i2 q => by
    cases i1; cases i2
    refine ⟨rfl, ?_⟩
    rw [dec_str]
    exact q F H R.nx R) h1
end
end Fd

set_option Elab.async false
set_option linter.all false
set_option maxRecDepth 100000
set_option maxHeartbeats 4000000
/-! Fd21: dicts with keys that are whole numbers or texts: a dict of one's own, filled, asked, read; frozen, and asked. -/
namespace Fd
open PySem PySem.Spec PyProof.Rows L2
/-- a key as a datum -/
def kD : Key → D
  | .inl i => .int i
  | .inr x => .str x

section
variable {κ : Type} [DecidableEq κ]
/-- what stands under a key -/
def look : List κ → List D → κ → Option D
  | k' :: ks, x :: xs, k => if k' = k then some x else look ks xs k
  | _, _, _ => none
def hasK (ks : List κ) (k : κ) : Bool := ks.any fun k' => decide (k' = k)
def putKs (ks : List κ) (k : κ) : List κ := if hasK ks k = true then ks else ks ++ [k]
def repl : List κ → List D → κ → D → List D
  | k' :: ks, x :: xs, k, d => (if k' = k then d else x) :: repl ks xs k d
  | _, xs, _, _ => xs
def putXs (ks : List κ) (xs : List D) (k : κ) (d : D) : List D := if hasK ks k = true then repl ks xs k d else xs ++ [d]
variable {K : PySem.W.Frag} {F : Hp}
theorem is_kD {k : Key} {v : V} (h : Is K F (kD k) v) : v = kV k := by cases k <;> exact h
theorem look_ok : ∀ {ks : List κ} {xs : List D} {kvs : List (κ × V)} (k : κ), kvs.map (·.1) = ks → IsL K F xs (kvs.map (·.2)) →
    (look ks xs k = none ∧ valV kvs k = none ∧ hasK ks k = false) ∨ ∃ d v, look ks xs k = some d ∧ valV kvs k = some v ∧ Is K F d v ∧ hasK ks k = true
  | [], xs, [], k, _, _ => .inl ⟨by cases xs <;> rfl, rfl, rfl⟩
  | [], _, _ :: _, _, e, _ => nomatch e
  | k' :: ks, [], (a, u) :: kvs, k, e, h => nomatch h
  | k' :: ks, x :: xs, (a, u) :: kvs, k, e, h => by
    obtain ⟨e0, e'⟩ := List.cons.inj e
    cases e0
    obtain ⟨v, r, e1, h1, h2⟩ := h
    obtain ⟨rfl, rfl⟩ := List.cons.inj e1
    by_cases q : a = k
    · subst q
      exact .inr ⟨x, u, by simp [look], valV_pos rfl, h1, by simp [hasK]⟩
    · rcases look_ok k e' h2 with ⟨w1, w2, w3⟩ | ⟨d, v, w1, w2, w3, w4⟩
      · exact .inl ⟨by simpa [look, q] using w1, by rw [valV_neg q]; exact w2, by simpa [hasK, q] using w3⟩
      · exact .inr ⟨d, v, by simpa [look, q] using w1, by rw [valV_neg q]; exact w2, w3, by simpa [hasK, q] using w4⟩
  | k' :: ks, _, [], _, e, _ => nomatch e
theorem repl_ok {d : D} {v : V} (hd : Is K F d v) : ∀ {ks : List κ} {xs : List D} {kvs : List (κ × V)} (k : κ), kvs.map (·.1) = ks → IsL K F xs (kvs.map (·.2)) →
    IsL K F (repl ks xs k d) ((kvs.map fun kv => if kv.1 = k then (kv.1, v) else kv).map (·.2))
  | [], xs, [], k, _, h => by cases xs with
    | nil => exact rfl
    | cons x xs => exact nomatch h
  | [], _, _ :: _, _, e, _ => nomatch e
  | k' :: ks, [], (a, u) :: kvs, k, e, h => nomatch h
  | k' :: ks, x :: xs, (a, u) :: kvs, k, e, h => by
    obtain ⟨e0, e'⟩ := List.cons.inj e
    cases e0
    obtain ⟨w, r, e1, h1, h2⟩ := h
    obtain ⟨rfl, rfl⟩ := List.cons.inj e1
    have ih := repl_ok hd k e' h2
    by_cases q : a = k
    · subst q
      simp only [repl, List.map_cons, if_true]
      exact .cons hd ih
    · simp only [repl, List.map_cons, if_neg q]
      exact .cons h1 ih
  | k' :: ks, _, [], _, e, _ => nomatch e
theorem repl_keys (k : κ) (v : V) : ∀ kvs : List (κ × V), (kvs.map fun kv => if kv.1 = k then (kv.1, v) else kv).map (·.1) = kvs.map (·.1)
  | [] => rfl
  | (a, u) :: r => by
    simp only [List.map_cons, repl_keys k v r]
    by_cases q : a = k <;> simp [q]
theorem put_ok {d : D} {v : V} {ks : List κ} {xs : List D} {kvs : List (κ × V)} (hd : Is K F d v) (k : κ) (e : kvs.map (·.1) = ks) (h : IsL K F xs (kvs.map (·.2))) :
    (putK kvs k v).map (·.1) = putKs ks k ∧ IsL K F (putXs ks xs k d) ((putK kvs k v).map (·.2)) := by
  have hm : (kvs.any fun kv => decide (kv.1 = k)) = hasK ks k := by
    subst e
    unfold hasK
    rw [List.any_map]
    rfl
  unfold putK putKs putXs
  rw [← hm]
  by_cases q : (kvs.any fun kv => decide (kv.1 = k)) = true
  · rw [if_pos q, if_pos q, if_pos q]
    exact ⟨(repl_keys k v kvs).trans e, repl_ok hd k e h⟩
  · rw [if_neg q, if_neg q, if_neg q]
    subst e
    refine ⟨by simp, ?_⟩
    rw [List.map_append]
    exact h.snoc hd
end
section
variable {T : List (Addr × Str)} {K : PySem.W.Frag} {B : Hp × Hp} {F H F1 H1 F2 H2 : Hp} {σ : L2.St} {ss : SS}
/-- a dict of one's own is never changed again: a datum -/
theorem StR.freezeD {i : Nat} {ks : List Key} {xs : List D} (R : StR T K B F H σ ss) (h : ss[i]? = some (.dic ks xs)) : ∃ F', Ext F F' ∧ StR T K B F' H σ (ss.set i (.d (.dct ks xs))) := by
  have hi : i < ss.length := (List.getElem?_eq_some_iff.mp h).1
  have hs : i < σ.length := by rw [R.len]; exact hi
  obtain ⟨p, kvs, e, e1, e2, ek, hx⟩ := R.slots i _ _ h (List.getElem?_eq_getElem hs)
  have hσ : σ[i]? = some (some (.ref p)) := by rw [List.getElem?_eq_getElem hs, e]
  have hB := R.own i _ p h rfl hσ
  have xF : Ext F (upd F p (.dK kvs)) := Ext.upd e1
  refine ⟨upd F p (.dK kvs), xF, ⟨by simp [R.len], R.bF.trans xF, R.bH, fun q u z => ?_, fun q ps z => ?_, R.tb, fun q u z => ?_, fun j s o z1 z2 => ?_, fun j s q z1 m z2 => ?_, fun j k s t q z1 z2 m1 m2 z3 z4 => ?_⟩⟩
  · by_cases hq : q = p
    · subst hq; rw [upd_same] at z; rw [e2]; exact z
    · rw [upd_ne hq] at z; exact R.sub q u z
  · by_cases hq : q = p
    · subst hq; rw [upd_same] at z; cases z
    · rw [upd_ne hq] at z; exact R.nt q ps z
  · by_cases hq : q = p
    · subst hq; exact .inr (.inl hB)
    · rw [upd_ne hq] at z; exact R.new q u z
  · rcases set_get z1 with ⟨q, rfl⟩ | ⟨q, z1⟩
    · subst q
      rw [hσ] at z2
      cases z2
      exact ⟨.ref p, rfl, p, kvs, rfl, upd_same, ek, IsL.mono xF _ hx⟩
    · have w := R.slots j s o z1 z2
      have ne : ∀ {p' : Addr}, s.mine = true → o = some (.ref p') → p' ≠ p := fun {p'} m e' z => q (R.dis i j _ s p h z1 rfl m hσ (by rw [z2, e', z]))
      cases s with
      | no => exact True.intro
      | d x => obtain ⟨v, w1, w2⟩ := w; exact ⟨v, w1, Is.mono xF x w2⟩
      | own ys => obtain ⟨p', us, w1, w2, w3, w4⟩ := w; exact ⟨p', us, w1, by rw [upd_ne (ne rfl w1)]; exact w2, w3, IsL.mono xF _ w4⟩
      | obj p' C ns ys => obtain ⟨dx, fs, w1, w2, w3, w4, w5⟩ := w; exact ⟨dx, fs, w1, by rw [upd_ne (ne rfl w1)]; exact w2, w3, w4, IsL.mono xF _ w5⟩
      | dic ks ys => obtain ⟨p', kvs', w1, w2, w3, w4, w5⟩ := w; exact ⟨p', kvs', w1, by rw [upd_ne (ne rfl w1)]; exact w2, w3, w4, IsL.mono xF _ w5⟩
      | dicT ks ys => obtain ⟨p', kvs', w1, w2, w3, w4, w5⟩ := w; exact ⟨p', kvs', w1, by rw [upd_ne (ne rfl w1)]; exact w2, w3, w4, IsL.mono xF _ w5⟩
  · rcases set_get z1 with ⟨_, rfl⟩ | ⟨_, z1⟩
    · cases m
    · exact R.own j s q z1 m z2
  · rcases set_get z1 with ⟨_, rfl⟩ | ⟨_, z1⟩
    · cases m1
    · rcases set_get z2 with ⟨_, rfl⟩ | ⟨_, z2⟩
      · cases m2
      · exact R.dis j k s t q z1 z2 m1 m2 z3 z4
end
section
variable {T : List (Addr × Str)} {X : Cx} {ss : SS} {P : Post} {st : Stmt} {sts rest : List Stmt} {a e value : Expr} {d : D} {ks : List Key} {xs : List D} {kk : Key} {pos pos' : Pos} {n : Nat}
/-- a dict of one's own is a datum from here on -/
theorem sv_freezeD (i : Nat) (hi : ss[i]? = some (.dic ks xs)) (h : SV T X st (ss.set i (.d (.dct ks xs))) P) : SV T X st ss P :=
  SV.of h fun B F H σ Dn R g => let ⟨F', _, R'⟩ := R.freezeD hi; ⟨B, F', _, P, ⟨rfl, rfl⟩, R', g.nx, g.rt, g.bk, g.ct⟩
theorem svs_freezeD (i : Nat) (hi : ss[i]? = some (.dic ks xs)) (h : SVs T X sts (ss.set i (.d (.dct ks xs))) P) : SVs T X sts ss P :=
  SVs.of h fun B F H σ Dn R g => let ⟨F', _, R'⟩ := R.freezeD hi; ⟨B, F', _, P, ⟨rfl, rfl⟩, R', g.nx, g.rt, g.bk, g.ct⟩
/-- x = {}: a dict of one's own -/
theorem sv_newD (i : Nat) {x : Str} {pl : Pos} (k : P.nx (ss.set i (.dic [] []))) (hN : X.N.Nodup) (hi : X.N[i]? = some x := by rfl) (hx : Loc X.env.scope x := by first | exact Or.inl rfl | exact Or.inr rfl)
    (hs : swapsWith (.Dict [] [] pl) (some (.Name x pos')) pos.line X.env = pure false := by rfl) (hf : X.fn x = true ∨ X.env.scope.names.lookup x = some .local := by first | exact .inl rfl | exact .inr rfl | assumption) :
    SV T X (.Assign [.Name x pos'] (.Dict [] [] pl) pos) ss P :=
  SV.of (ps_set hN hi hx pe_dnewK hs hf) fun B F H σ Dn R g => fun p hp =>
    g.nx _ _ _ _ k (R.newOwn hp rfl ⟨p, [], rfl, R.free hp, upd_same, rfl, rfl⟩)
/-- x[a] = value -/
theorem sv_putD (i : Nat) {x : Str} {px : Pos} (hx : ss[i]? = some (.dic ks xs)) (hr : Room n X.A) (hv : EV T X value ss d) (ha : EV T X a ss (kD kk)) (k : P.nx (ss.set i (.dic (putKs ks kk) (putXs ks xs kk d)))) (hl : ks.length ≤ 100000)
    (hp : PE X (.Name x px) (tVar i) := by exact pv _) (hs : swapsWith value (some (.Subscript (.Name x px) a pos')) pos.line X.env = pure false := by rfl) :
    SV T X (.Assign [.Subscript (.Name x px) a pos'] value pos) ss P := by
  refine SV.of (ps_dput (by have := hr.units; omega) hp ha hv hs) fun B F H σ Dn R g => ?_
  have hi : i < ss.length := (List.getElem?_eq_some_iff.mp hx).1
  have hsl : i < σ.length := by rw [R.len]; exact hi
  refine ev_go R fun v F1 H1 n1 R1 i1 => ?_
  obtain ⟨p, kvs, e1, e2, e3, ek, e4⟩ := R1.slots i _ _ hx (List.getElem?_eq_getElem hsl)
  have hσ : σ[i]? = some (some (.ref p)) := by rw [List.getElem?_eq_getElem hsl, e1]
  refine ⟨.ref p, hσ, ev_go R1 fun u F2 H2 n2 R2 i2 => ?_⟩
  obtain ⟨p', kvs', q1, q2, q3, qk, q4⟩ := R2.slots i _ _ hx (List.getElem?_eq_getElem hsl)
  rw [q1] at e1
  cases e1
  obtain rfl := is_kD i2
  obtain ⟨w1, w2⟩ := put_ok (Is.mono n2.f _ i1) kk qk q4
  have hlen : kvs'.length < sizeLine := by
    have : kvs'.length = ks.length := by rw [← qk, List.length_map]
    rw [this, sizeLine_eq]; omega
  exact ⟨p, _, rfl, DPut.k q3 hlen, g.nx _ _ _ _ k (R2.chg hx rfl hσ rfl q2 ⟨p, _, rfl, q2, upd_same, w1, w2⟩)⟩
/-- x[a] of a dict of one's own -/
theorem ev_getO (i : Nat) {x : Str} {px : Pos} (hx : ss[i]? = some (.dic ks xs)) (hr : Room n X.A) (ha : EV T X a ss (kD kk)) (hl : look ks xs kk = some d) (hp : PE X (.Name x px) (tVar i) := by exact pv _) (hs : NoSl a := by exact fun _ _ => rfl) :
    EV T X (.Subscript (.Name x px) a pos) ss d := by
  refine EV.of (pe_dget (by have := hr.units; omega) hp ha hs) fun B F H σ Q R q => ?_
  have hi : i < ss.length := (List.getElem?_eq_some_iff.mp hx).1
  have hsl : i < σ.length := by rw [R.len]; exact hi
  obtain ⟨p, kvs, e1, e2, e3, ek, e4⟩ := R.slots i _ _ hx (List.getElem?_eq_getElem hsl)
  refine ⟨.ref p, by rw [List.getElem?_eq_getElem hsl, e1], ev_go R fun u F2 H2 n2 R2 i2 => ?_⟩
  obtain ⟨p', kvs', q1, q2, q3, qk, q4⟩ := R2.slots i _ _ hx (List.getElem?_eq_getElem hsl)
  rw [q1] at e1
  cases e1
  obtain rfl := is_kD i2
  rcases look_ok kk qk q4 with ⟨w, _⟩ | ⟨d', v, w1, w2, w3, _⟩
  · rw [w] at hl; cases hl
  · rw [hl] at w1; cases w1
    exact ⟨p, v, rfl, by rw [← w2]; exact DGet.k q3, q _ _ _ n2 R2 w3⟩
/-- e[a] of a dict that is a datum -/
theorem ev_getD (hr : Room n X.A) (he : EV T X e ss (.dct ks xs)) (ha : EV T X a ss (kD kk)) (hl : look ks xs kk = some d) (hs : NoSl a := by exact fun _ _ => rfl) : EV T X (.Subscript e a pos) ss d :=
  EV.of (pe_dget (by have := hr.units; omega) he ha hs) fun B F H σ Q R q => ev_go R fun v F1 H1 n1 R1 i1 => ev_go R1 fun u F2 H2 n2 R2 i2 => by
    obtain ⟨p, kvs, rfl, e2, ek, e4⟩ := i1
    obtain rfl := is_kD i2
    rcases look_ok kk ek e4 with ⟨w, _⟩ | ⟨d', v, w1, w2, w3, _⟩
    · rw [w] at hl; cases hl
    · rw [hl] at w1; cases w1
      exact ⟨p, v, rfl, by rw [← w2]; exact DGet.k (R2.sub _ _ (n2.f _ _ e2)), q _ _ _ (n1.trans n2) R2 (Is.mono n2.f _ w3)⟩
/-- a in x, of a dict of one's own -/
theorem tv_inO (i : Nat) {x : Str} {px : Pos} (hx : ss[i]? = some (.dic ks xs)) (hr : Room n X.A) (ha : EV T X a ss (kD kk)) (hp : PE X (.Name x px) (tVar i) := by exact pv _) (h1 : behindInMarks .In (.Name x px) = false := by rfl) :
    TV T X (.Compare a [.In] [.Name x px] pos) ss (hasK ks kk) := by
  refine TV.of (pt_cmp (pc_din (by have := hr.units; omega) ha hp) h1) fun B F H σ Q R q => ?_
  have hi : i < ss.length := (List.getElem?_eq_some_iff.mp hx).1
  have hsl : i < σ.length := by rw [R.len]; exact hi
  refine ev_go R fun u F2 H2 n2 R2 i2 => ?_
  obtain ⟨p, kvs, q1, q2, q3, qk, q4⟩ := R2.slots i _ _ hx (List.getElem?_eq_getElem hsl)
  obtain rfl := is_kD i2
  refine ⟨.ref p, by rw [List.getElem?_eq_getElem hsl, q1], p, _, rfl, DGet.k q3, _, rfl, ?_⟩
  rcases look_ok kk qk q4 with ⟨_, w2, w3⟩ | ⟨d', v, _, w2, _, w3⟩
  · rw [w2]; simpa [w3] using q _ _ n2 R2
  · rw [w2]; simpa [w3] using q _ _ n2 R2
/-- a in e, of a dict that is a datum -/
theorem tv_inD (hr : Room n X.A) (ha : EV T X a ss (kD kk)) (he : EV T X e ss (.dct ks xs)) (h1 : behindInMarks .In e = false := by rfl) : TV T X (.Compare a [.In] [e] pos) ss (hasK ks kk) :=
  TV.of (pt_cmp (pc_din (by have := hr.units; omega) ha he) h1) fun B F H σ Q R q => ev_go R fun u F1 H1 n1 R1 i1 => ev_go R1 fun v F2 H2 n2 R2 i2 => by
    obtain ⟨p, kvs, rfl, e2, qk, q4⟩ := i2
    obtain rfl := is_kD i1
    refine ⟨p, _, rfl, DGet.k (R2.sub _ _ e2), _, rfl, ?_⟩
    rcases look_ok kk qk q4 with ⟨_, w2, w3⟩ | ⟨d', v, _, w2, _, w3⟩
    · rw [w2]; simpa [w3] using q _ _ (n1.trans n2) R2
    · rw [w2]; simpa [w3] using q _ _ (n1.trans n2) R2
end
end Fd

set_option Elab.async false
set_option linter.all false
set_option maxRecDepth 100000
set_option maxHeartbeats 4000000
/-! Fd22: list(..) and tuple(..) of lists and tuples; list(d), list(d.items()) of a dict that is a datum. -/
namespace Fd
open PySem PySem.Spec PyProof.Rows L2
section
variable {T : List (Addr × Str)} {X : Cx} {ss : SS} {e : Expr} {d : D} {ks : List Key} {xs : List D} {p apos cpos pos : Pos}
theorem boot_list : bootBuiltins "list" = some (.type "list") := by decide +kernel
theorem boot_tuple : bootBuiltins "tuple" = some (.type "tuple") := by decide +kernel
/-- list(x) -/
theorem ev_listOf (h : d = .lst xs ∨ d = .rdl xs ∨ d = .tup xs) (ha : EV T X e ss d) (hm : X.mg "list" = none) (hg : Gl X "list" := by rfl) (he : starEach [e] X.env = [(false, eval e X.env)] := by rfl) : EV T X (.Call (.Name "list" p) [e] [] pos) ss (.lst xs) :=
  ev_bty call_list_of (evs_cons ha evs_nil he) hm boot_list (fun B F H σ vs Q R i1 q => by
    obtain ⟨v, rfl, i⟩ := isL1 i1
    rcases h with rfl | rfl | rfl
    · obtain ⟨a, us, rfl, e1, e2⟩ := i
      exact ⟨a, us, rfl, .inl (SqL.of (R.sub _ _ e1)), fun l hl => q _ _ _ (Nx.alloc R.sub hl) (R.alloc hl) ⟨l, us, rfl, upd_same, IsL.mono (Ext.upd (R.free hl)) _ e2⟩⟩
    · obtain ⟨a, us, rfl, e1, e2⟩ := i
      exact ⟨a, us, rfl, .inl (ext_seqL R.sub e1), fun l hl => q _ _ _ (Nx.alloc R.sub hl) (R.alloc hl) ⟨l, us, rfl, upd_same, IsL.mono (Ext.upd (R.free hl)) _ e2⟩⟩
    · obtain ⟨a, us, rfl, e1, e2⟩ := i
      exact ⟨a, us, rfl, .inr (ext_seqT R.sub e1), fun l hl => q _ _ _ (Nx.alloc R.sub hl) (R.alloc hl) ⟨l, us, rfl, upd_same, IsL.mono (Ext.upd (R.free hl)) _ e2⟩⟩) hg (he := he)
/-- tuple(x) -/
theorem ev_tupOf (h : d = .lst xs ∨ d = .rdl xs ∨ d = .tup xs) (ha : EV T X e ss d) (hm : X.mg "tuple" = none) (hg : Gl X "tuple" := by rfl) (he : starEach [e] X.env = [(false, eval e X.env)] := by rfl) : EV T X (.Call (.Name "tuple" p) [e] [] pos) ss (.tup xs) :=
  ev_bty call_tuple_of (evs_cons ha evs_nil he) hm boot_tuple (fun B F H σ vs Q R i1 q => by
    obtain ⟨v, rfl, i⟩ := isL1 i1
    have nw : ∀ (us : List V), IsL X.K F xs us → ∀ l, H l = none → Q (.ref l) (upd H l (.tup us)) := fun us e2 l hl =>
      q _ _ _ (Nx.alloc R.sub hl) (R.alloc hl) ⟨l, us, rfl, .inl (.inl upd_same), IsL.mono (Ext.upd (R.free hl)) _ e2⟩
    rcases h with rfl | rfl | rfl
    · obtain ⟨a, us, rfl, e1, e2⟩ := i
      exact ⟨a, us, rfl, .inl ⟨SqL.of (R.sub _ _ e1), nw us e2⟩⟩
    · obtain ⟨a, us, rfl, e1, e2⟩ := i
      exact ⟨a, us, rfl, .inl ⟨ext_seqL R.sub e1, nw us e2⟩⟩
    · obtain ⟨a, us, rfl, e1, e2⟩ := i
      exact ⟨a, us, rfl, .inr ⟨ext_seqT R.sub e1, q _ _ _ R.nx R ⟨a, us, rfl, e1, e2⟩⟩⟩) hg (he := he)
theorem keys_is {K : PySem.W.Frag} {F : Hp} : ∀ {ks : List Key} {kvs : List (Key × V)}, kvs.map (·.1) = ks → IsL K F (ks.map kD) (kvs.map fun kv => kV kv.1)
  | [], [], _ => rfl
  | [], _ :: _, e => nomatch e
  | _ :: _, [], e => nomatch e
  | k :: ks, (a, u) :: kvs, e => by
    obtain ⟨e0, e'⟩ := List.cons.inj e
    cases e0
    refine .cons ?_ (keys_is e')
    cases a <;> rfl
/-- list(d) -/
theorem ev_keysD (ha : EV T X e ss (.dct ks xs)) (hm : X.mg "list" = none) (hc : X.calm = true := by rfl) (hg : Gl X "list" := by rfl) (he : starEach [e] X.env = [(false, eval e X.env)] := by rfl) : EV T X (.Call (.Name "list" p) [e] [] pos) ss (.lst (ks.map kD)) :=
  ev_bty (call_listD hc) (evs_cons ha evs_nil he) hm boot_list (fun B F H σ vs Q R i1 q => by
    obtain ⟨v, rfl, i⟩ := isL1 i1
    obtain ⟨a, kvs, rfl, e1, ek, e2⟩ := i
    exact ⟨a, kvs, rfl, .inl (R.sub _ _ e1), fun l hl => q _ _ _ (Nx.alloc R.sub hl) (R.alloc hl) ⟨l, _, rfl, upd_same, keys_is ek⟩⟩) hg (he := he)
def itemsD (ks : List Key) (xs : List D) : List D := (ks.zip xs).map fun p => .tup [kD p.1, p.2]
theorem items_is {K : PySem.W.Frag} {F F1 : Hp} (x : Ext F F1) : ∀ {ks : List Key} {xs : List D} {kvs : List (Key × V)} {ts : List Addr}, kvs.map (·.1) = ks → IsL K F xs (kvs.map (·.2)) → Paired (fun (t : Addr) (q : Key × V) => F1 t = some (.tup [kV q.1, q.2])) ts kvs → IsL K F1 (itemsD ks xs) (ts.map V.ref)
  | _, xs, [], _, e, _, .nil => by cases e; cases xs <;> exact rfl
  | [], _, _ :: _, _, e, _, _ => nomatch e
  | k :: ks, [], _ :: _, _, _, h, _ => nomatch h
  | k :: ks, d :: xs, (a, u) :: kvs, _, e, h, .cons r t => by
    obtain ⟨e0, e'⟩ := List.cons.inj e
    cases e0
    obtain ⟨v, w, e1, h1, h2⟩ := h
    obtain ⟨e2, e3⟩ := List.cons.inj e1
    cases e2; cases e3
    have hk : Is K F1 (kD a) (kV a) := by cases a <;> rfl
    exact .cons ⟨_, _, rfl, .inl (.inl r), .cons hk (.cons (Is.mono x _ h1) .nil)⟩ (items_is x e' h2 t)
/-- list(d.items()) -/
theorem ev_itemsD (ha : EV T X e ss (.dct ks xs)) (hm : X.mg "list" = none) (hc : X.calm = true := by rfl) (hg : Gl X "list" := by rfl) (hbase : attributeBase e "items" X.env (eval e X.env) = eval e X.env := by rfl) (hline : (apos.endLine == cpos.line) = true := by rfl)
    (hs : starEach [.Call (.Attribute e "items" apos) [] [] cpos] X.env = (false, eval (.Call (.Attribute e "items" apos) [] [] cpos) X.env) :: starEach [] X.env := by rfl) :
    EV T X (.Call (.Name "list" p) [.Call (.Attribute e "items" apos) [] [] cpos] [] pos) ss (.lst (itemsD ks xs)) :=
  EV.of (LiI.pe_listItems hc ha hg hm boot_list hbase hline hs) fun B F H σ Q R q => ev_go R fun v F1 H1 n1 R1 i1 => by
    obtain ⟨a, kvs, rfl, e1, ek, e2⟩ := i1
    refine ⟨a, kvs, rfl, R1.sub _ _ e1, fun H' l ts k1 k2 k3 k4 k5 k6 => ?_⟩
    let F' : Hp := fun b => if b = l ∨ b ∈ ts then H' b else F1 b
    have old : ∀ b u, F1 b = some u → F' b = some u := fun b u eb => by
      have hb := R1.sub b u eb
      have : ¬ (b = l ∨ b ∈ ts) := by
        rintro (z | z)
        · rw [z, k2] at hb; cases hb
        · rw [k3 b z] at hb; cases hb
      show (if b = l ∨ b ∈ ts then H' b else F1 b) = some u
      rw [if_neg this]; exact eb
    have newH : ∀ b, b = l ∨ b ∈ ts → H1 b = none := fun b z => by
      rcases z with rfl | z
      · exact k2
      · exact k3 b z
    have ob : ∀ b u, (b = l ∨ b ∈ ts) → H' b = some u → ∀ ps, u ≠ .tbl ps := fun b u z eb ps zz => by
      subst zz
      rcases z with rfl | z
      · rw [k5] at eb; cases eb
      · obtain ⟨j, y, _, _, e3⟩ := LiI.paired_ix k6 z
        rw [e3] at eb; cases eb
    have nx : Nx T F1 H1 F' H' := by
      refine ⟨old, .of k1, fun b u eb => ?_, fun b ps eb => ?_, fun b u eb => ?_⟩
      · by_cases z : b = l ∨ b ∈ ts
        · have : F' b = H' b := if_pos z
          rw [← this]; exact eb
        · have : F' b = F1 b := if_neg z
          exact k1 b u (R1.sub b u (by rw [← this]; exact eb))
      · by_cases z : b = l ∨ b ∈ ts
        · have : F' b = H' b := if_pos z
          exact absurd rfl (ob b _ z (by rw [← this]; exact eb) ps)
        · have : F' b = F1 b := if_neg z
          rw [← this]; exact eb
      · by_cases z : b = l ∨ b ∈ ts
        · exact .inr (.of (newH b z))
        · have : F' b = F1 b := if_neg z
          exact .inl (by rw [← this, eb]; exact fun y => nomatch y)
    have hp : Paired (fun (t : Addr) (q : Key × V) => F' t = some (.tup [kV q.1, q.2])) ts kvs := by
      have all : ∀ (ts' : List Addr) (kvs' : List (Key × V)), (∀ t ∈ ts', t ∈ ts) → Paired (fun (t : Addr) (q : Key × V) => H' t = some (.tup [kV q.1, q.2])) ts' kvs' → Paired (fun (t : Addr) (q : Key × V) => F' t = some (.tup [kV q.1, q.2])) ts' kvs' := by
        intro ts' kvs' hm' pp
        induction pp with
        | nil => exact .nil
        | cons r t ih =>
          refine .cons ?_ (ih fun t ht => hm' t (List.mem_cons_of_mem _ ht))
          have : F' _ = H' _ := if_pos (.inr (hm' _ List.mem_cons_self))
          rw [this]; exact r
      exact all ts kvs (fun t h => h) k6
    refine q _ F' H' (n1.trans nx) (R1.grow nx) ⟨l, _, rfl, ?_, items_is old ek e2 hp⟩
    have : F' l = H' l := if_pos (.inl rfl)
    rw [this]; exact k5
end
end Fd

set_option Elab.async false
set_option linter.all false
set_option maxRecDepth 100000
set_option maxHeartbeats 4000000
/-! Fd23: isinstance(e, (S, T)), S and T built-in types. -/
namespace Fd
open PySem PySem.Spec PyProof.Rows L2
section
variable {T : List (Addr × Str)} {X : Cx} {ss : SS} {e : Expr} {d : D} {t : Value} {b : Bool} {c1 c2 : Str} {n1 n2 : String} {p p1 p2 pt pos : Pos} {x1 : Nat}
theorem ev_isTT (he : EV T X e ss d) (ht : d.ty? = some t) (hd : d.cls X.K) (hk : PySem.W.kitAny X.K t [.type n1, .type n2] = some b) (hm1 : X.mg c1 = none) (hv1 : bootBuiltins c1 = some (.type n1)) (hm2 : X.mg c2 = none) (hv2 : bootBuiltins c2 = some (.type n2)) (hm : X.mg "isinstance" = none)
    (hg1 : Gl X c1 := by rfl) (hn1 : c1 ≠ "__name__" := by decide) (hd1 : (c1 == ("__debug__" : Str)) = false := by decide) (hg2 : Gl X c2 := by rfl) (hn2 : c2 ≠ "__name__" := by decide) (hd2 : (c2 == ("__debug__" : Str)) = false := by decide) (hg : Gl X "isinstance" := by rfl)
    (ht1 : starEach [.Name c1 p1, .Name c2 p2] X.env = (false, eval (.Name c1 p1) X.env) :: starEach [.Name c2 p2] X.env := by rfl) (ht2 : starEach [.Name c2 p2] X.env = [(false, eval (.Name c2 p2) X.env)] := by rfl)
    (hst : starEach [e, .Tuple [.Name c1 p1, .Name c2 p2] x1 pt] X.env = (false, eval e X.env) :: starEach [.Tuple [.Name c1 p1, .Name c2 p2] x1 pt] X.env := by rfl)
    (hst2 : starEach [.Tuple [.Name c1 p1, .Name c2 p2] x1 pt] X.env = [(false, eval (.Tuple [.Name c1 p1, .Name c2 p2] x1 pt) X.env)] := by rfl)
    (hpl : (backTo pos (starEach [.Tuple [.Name c1 p1, .Name c2 p2] x1 pt] X.env)).any (·.1) = false := by rfl) : EV T X (.Call (.Name "isinstance" p) [e, .Tuple [.Name c1 p1, .Name c2 p2] x1 pt] [] pos) ss (.bl b) :=
  EV.of (pe_callB call_isiT hg hm (by decide +kernel) (pa_cons he (pa_cons (pe_tup (pa_cons (pe_bltn hg1 hm1 hv1 (show RelV (.ty n1) (.type n1) from rfl) hn1 hd1) (pa_cons (pe_bltn hg2 hm2 hv2 (show RelV (.ty n2) (.type n2) from rfl) hn2 hd2) pa_nil ht2) ht1)) pa_nil hst2) hst) (by decide) (by decide) hst hpl) fun B F H σ Q R q => ev_go R fun v F1 H1 nn R1 i1 =>
    ⟨by show 2 ≤ sizeLine; decide, fun tp hp => ⟨v, tp, [.ty n1, .ty n2], t, [.type n1, .type n2], b, rfl, upd_same, .cons (.ty n1) (.cons (.ty n2) .nil), is_tyx ht hd i1 (R1.sub.trans (Ext.upd hp)), hk,
      q _ F1 (upd H1 tp (.tup [.ty n1, .ty n2])) (nn.trans (Nx.allocH R1.sub hp)) (R1.grow (Nx.allocH R1.sub hp)) rfl⟩⟩
end
end Fd

set_option Elab.async false
set_option linter.all false
set_option maxRecDepth 100000
set_option maxHeartbeats 4000000
/-! Fd24: a for whose body raises an own exception in one of its turns. -/
namespace Fd
open PySem PySem.Spec PyProof.Rows L2
section
variable {T : List (Addr × Str)} {X : Cx} {ss : SS} {tg e : Expr} {body rest : List Stmt} {xs : List D} {J : Value → Option Addr → Hp → Prop} {E : XK} {pos : Pos}
theorem pss_or {sts : List Stmt} {t1 t2 : TS} (h1 : PSs X sts t1) (h2 : PSs X sts t2) : PSs X sts (fun D σ H => t1 D σ H ∨ t2 D σ H) :=
  ⟨fun pins s σ H D I q => q.elim (fun z => h1.run pins s σ H D I z) fun z => h2.run pins s σ H D I z⟩
/-- the turns 0 to n - 1 go on, the turn n raises -/
theorem ry_for (t : Tg) (I : Nat → SS → Prop) (n : Nat) (hn : n < xs.length) (hi : IV T X tg e ss xs) (hg : PG X tg (gOf X.K t)) (h0 : I 0 ss)
    (hs : ∀ i x ss', i < n → xs[i]? = some x → I i ss' → t.fits x = true ∧ SVs T X body (t.put x ss') ⟨I (i + 1), fun _ => False, fun _ => False, I (i + 1)⟩)
    (hx : ∀ x ss', xs[n]? = some x → I n ss' → t.fits x = true ∧ RY T X body (t.put x ss') J E)
    (hp : PassesOwn (model X.prog X.w) X.A X.env X.xe := by exact passes_of rfl) (hc : X.calm = true := by rfl) (hf : ∀ x, foldedSetIterable e X.env x = pure x := by intro _; rfl) : RY T X (.For tg e body [] pos :: rest) ss J E := by
  refine PSs.imp (pss_cons (ps_for hp hc hi hg (pss_or (pss_all (T := T) (sts := body)) (pss_ry (T := T) (J := J) (E := E))) hf) (pss_all (T := T))) fun D σ H ⟨B, F, R, q⟩ => ⟨B, F, R, fun Jt F1 H1 n1 R1 Y => ?_⟩
  refine ⟨fun i m σ' H' => m = xs.length - i ∧ i ≤ n ∧ ∃ F' ss', StR T X.K (F1, B.2) F' H' σ' ss' ∧ I i ss', ⟨xs.length, by simp, Nat.zero_le _, F1, ss, R1.rebase, h0⟩, ?_⟩
  rintro i m σ' H' ⟨rfl, hi', F', ss', R', hI⟩
  have hlt : i < xs.length := by omega
  obtain ⟨go, yl⟩ := Y.item i F' H' R'.bF R'.sub hlt
  refine .inr ⟨go, fun σ2 H2 => ∃ F2 ss2, StR T X.K (F1, B.2) F2 H2 σ2 ss2 ∧ I (i + 1) ss2 ∧ i + 1 ≤ n, fun σ2 H2 ⟨F2, ss2, R2, h2, h3⟩ => ⟨xs.length - (i + 1), by omega, rfl, h3, F2, ss2, R2, h2⟩, fun v H2 y => ?_⟩
  obtain ⟨F2, x, n2, hx', ix⟩ := yl v H2 y
  by_cases hin : i < n
  · obtain ⟨hfit, hbody⟩ := hs i x ss' hin hx' hI
    refine tg_go (ws := []) (R'.grow n2) ix hfit (fun j _ => .inr rfl) fun σ3 R3 _ => .inl ?_
    exact sv_go hbody R3 ⟨fun ss4 σ4 F4 H4 q4 R4 => ⟨F4, ss4, R4, q4, hin⟩, fun d v ss4 σ4 F4 H4 z => z.elim, fun _ _ _ _ z => z.elim, fun ss4 σ4 F4 H4 q4 R4 => ⟨F4, ss4, R4, q4, hin⟩⟩
  · have hin' : i = n := by omega
    subst hin'
    obtain ⟨hfit, hbody⟩ := hx x ss' hx' hI
    refine tg_go (ws := []) (R'.grow n2) ix hfit (fun j _ => .inr rfl) fun σ3 R3 _ => .inr ?_
    exact ⟨(F1, B.2), _, _, hbody, R3, q⟩
end
end Fd

set_option Elab.async false
set_option linter.all false
set_option maxRecDepth 100000
set_option maxHeartbeats 4000000
/-! Fd25: dicts whose keys are tuples of whole numbers and texts. -/
namespace Fd
open PySem PySem.Spec PyProof.Rows L2
section
variable {T : List (Addr × Str)} {K : PySem.W.Frag} {B : Hp × Hp} {F H F1 H1 F2 H2 : Hp} {σ : L2.St} {ss : SS}
/-- what stands in the whole heap alone becomes a datum's -/
theorem StR.tell {p : Addr} {o : HO} (R : StR T K B F H σ ss) (hF : F p = none) (hH : H p = some o) (ho : ∀ ps, o ≠ .tbl ps) (hB : Fr B.2 p) (no : ∀ (j : Nat) (t : S), ss[j]? = some t → t.mine = true → σ[j]? ≠ some (some (.ref p))) : StR T K B (upd F p o) H σ ss := by
  have xF : Ext F (upd F p o) := Ext.upd hF
  refine ⟨R.len, R.bF.trans xF, R.bH, fun q u z => ?_, fun q ps z => ?_, R.tb, fun q u z => ?_, fun j s oo z1 z2 => ?_, R.own, R.dis⟩
  · by_cases hq : q = p
    · subst hq; rw [upd_same] at z; rw [hH]; exact z
    · rw [upd_ne hq] at z; exact R.sub q u z
  · by_cases hq : q = p
    · subst hq; rw [upd_same] at z; exact ho ps (Option.some.inj z)
    · rw [upd_ne hq] at z; exact R.nt q ps z
  · by_cases hq : q = p
    · subst hq; exact .inr (.inl hB)
    · rw [upd_ne hq] at z; exact R.new q u z
  · have w := R.slots j s oo z1 z2
    have ne : ∀ {p' : Addr}, s.mine = true → oo = some (.ref p') → p' ≠ p := fun {p'} m e' z => no j s z1 m (by rw [z2, e', z])
    cases s with
    | no => exact True.intro
    | d x => obtain ⟨v, w1, w2⟩ := w; exact ⟨v, w1, Is.mono xF x w2⟩
    | own ys => obtain ⟨p', us, w1, w2, w3, w4⟩ := w; exact ⟨p', us, w1, by rw [upd_ne (ne rfl w1)]; exact w2, w3, IsL.mono xF _ w4⟩
    | obj p' C ns ys => obtain ⟨dx, fs, w1, w2, w3, w4, w5⟩ := w; exact ⟨dx, fs, w1, by rw [upd_ne (ne rfl w1)]; exact w2, w3, w4, IsL.mono xF _ w5⟩
    | dic ks ys => obtain ⟨p', kvs', w1, w2, w3, w4, w5⟩ := w; exact ⟨p', kvs', w1, by rw [upd_ne (ne rfl w1)]; exact w2, w3, w4, IsL.mono xF _ w5⟩
    | dicT ks ys => obtain ⟨p', kvs', w1, w2, w3, w4, w5⟩ := w; exact ⟨p', kvs', w1, by rw [upd_ne (ne rfl w1)]; exact w2, w3, w4, IsL.mono xF _ w5⟩
/-- a dict of one's own, locked for ever: a datum -/
theorem StR.freezeT {i : Nat} {ks : List (List Key)} {xs : List D} {p : Addr} {kvs : List (List Key × V)} {od : Obj} (R : StR T K B F H σ ss) (h : ss[i]? = some (.dicT ks xs)) (hσ : σ[i]? = some (some (.ref p))) (e1 : F p = none) (e2 : H p = some (.dT kvs)) (ek : kvs.map (·.1) = ks)
    (hx : IsL K F xs (kvs.map (·.2))) : StR T K B (upd F p (.frz od (.dT kvs))) (upd H p (.frz od (.dT kvs))) σ (ss.set i (.d (.dcT ks xs))) := by
  have hB := R.own i _ p h rfl hσ
  have R1 : StR T K B F H σ (ss.set i .no) := R.less h (.inr trivial)
  have no : ∀ (j : Nat) (t : S), (ss.set i .no)[j]? = some t → t.mine = true → σ[j]? ≠ some (some (.ref p)) := fun j t e mt z => by
    rcases set_get e with ⟨_, rfl⟩ | ⟨q, e⟩
    · cases mt
    · exact q (R.dis i j _ t p h e rfl mt hσ z)
  have R2 := R1.updH (o := .frz od (.dT kvs)) e1 hB (R.plain h rfl hσ) no
  have R3 := R2.tell e1 upd_same (fun _ z => nomatch z) hB no
  have R4 := R3.put (i := i) (x := .dcT ks xs) (v := .ref p) ⟨p, od, kvs, rfl, upd_same, ek, IsL.mono (Ext.upd e1) _ hx⟩
  rw [set_self hσ, List.set_set] at R4
  exact R4
theorem dget_frz {H : Hp} {a b : Addr} {od : Obj} {kvs : List (List Key × V)} {k : List Key} (e : H a = some (.frz od (.dT kvs))) (eb : H b = some (.tup (k.map kV))) : DGet H a (.ref b) (valV kvs k) := .inr ⟨kvs, k, b, .inr ⟨od, e⟩, rfl, eb, rfl⟩
/-- what runs behind a lock that is never opened -/
def tFrzS (t : TS) : TS := fun D σ H => ∃ d u, H d = some u ∧ Mut (some u) ∧ ∀ od, t D σ (upd H d (.frz od u))
theorem ps_frz {X : Cx} {st : Stmt} {t : TS} (h : PS X st t) : PS X st (tFrzS t) := ⟨fun pins s σ H D I ⟨d, u, hd, mu, hw⟩ => by
  obtain ⟨ob, Jl⟩ := I.lock hd mu
  exact h.run pins s σ _ D Jl (hw ob)⟩
theorem pss_frz {X : Cx} {st : List Stmt} {t : TS} (h : PSs X st t) : PSs X st (tFrzS t) := ⟨fun pins s σ H D I ⟨d, u, hd, mu, hw⟩ => by
  obtain ⟨ob, Jl⟩ := I.lock hd mu
  exact h.run pins s σ _ D Jl (hw ob)⟩
end
section
variable {T : List (Addr × Str)} {X : Cx} {ss : SS} {P : Post} {st : Stmt} {sts rest : List Stmt} {a e value : Expr} {d : D} {ks : List (List Key)} {xs : List D} {kk : List Key} {pos pos' : Pos} {n : Nat}
/-- a dict of one's own is a datum from here on -/
theorem sv_freezeT (i : Nat) (hi : ss[i]? = some (.dicT ks xs)) (h : SV T X st (ss.set i (.d (.dcT ks xs))) P) : SV T X st ss P :=
  SV.of (ps_frz h) fun B F H σ Dn R g => by
    obtain ⟨p, hσ, e1, _⟩ := R.mine_at hi rfl
    obtain ⟨p', kvs, w1, w2, w3, w4, w5⟩ := R.slots i _ _ hi hσ
    cases w1
    exact ⟨p, .dT kvs, w3, trivial, fun od => ⟨B, _, _, P, ⟨rfl, rfl⟩, R.freezeT hi hσ e1 w3 w4 w5, g.nx, g.rt, g.bk, g.ct⟩⟩
theorem svs_freezeT (i : Nat) (hi : ss[i]? = some (.dicT ks xs)) (h : SVs T X sts (ss.set i (.d (.dcT ks xs))) P) : SVs T X sts ss P :=
  SVs.of (pss_frz h) fun B F H σ Dn R g => by
    obtain ⟨p, hσ, e1, _⟩ := R.mine_at hi rfl
    obtain ⟨p', kvs, w1, w2, w3, w4, w5⟩ := R.slots i _ _ hi hσ
    cases w1
    exact ⟨p, .dT kvs, w3, trivial, fun od => ⟨B, _, _, P, ⟨rfl, rfl⟩, R.freezeT hi hσ e1 w3 w4 w5, g.nx, g.rt, g.bk, g.ct⟩⟩
/-- x = {}: a dict of one's own -/
theorem sv_newT (i : Nat) {x : Str} {pl : Pos} (k : P.nx (ss.set i (.dicT [] []))) (hN : X.N.Nodup) (hi : X.N[i]? = some x := by rfl) (hx : Loc X.env.scope x := by first | exact Or.inl rfl | exact Or.inr rfl)
    (hs : swapsWith (.Dict [] [] pl) (some (.Name x pos')) pos.line X.env = pure false := by rfl) (hf : X.fn x = true ∨ X.env.scope.names.lookup x = some .local := by first | exact .inl rfl | exact .inr rfl | assumption) :
    SV T X (.Assign [.Name x pos'] (.Dict [] [] pl) pos) ss P :=
  SV.of (ps_set hN hi hx pe_dnewT hs hf) fun B F H σ Dn R g => fun p hp =>
    g.nx _ _ _ _ k (R.newOwn hp rfl ⟨p, [], rfl, R.free hp, upd_same, rfl, rfl⟩)
/-- x[a] = value -/
theorem sv_putT (i : Nat) {x : Str} {px : Pos} (hx : ss[i]? = some (.dicT ks xs)) (hr : Room n X.A) (hv : EV T X value ss d) (ha : EV T X a ss (.tk kk)) (k : P.nx (ss.set i (.dicT (putKs ks kk) (putXs ks xs kk d)))) (hl : ks.length ≤ 100000)
    (hp : PE X (.Name x px) (tVar i) := by exact pv _) (hs : swapsWith value (some (.Subscript (.Name x px) a pos')) pos.line X.env = pure false := by rfl) :
    SV T X (.Assign [.Subscript (.Name x px) a pos'] value pos) ss P := by
  refine SV.of (ps_dput (by have := hr.units; omega) hp ha hv hs) fun B F H σ Dn R g => ?_
  have hi : i < ss.length := (List.getElem?_eq_some_iff.mp hx).1
  have hsl : i < σ.length := by rw [R.len]; exact hi
  refine ev_go R fun v F1 H1 n1 R1 i1 => ?_
  obtain ⟨p, kvs, e1, e2, e3, ek, e4⟩ := R1.slots i _ _ hx (List.getElem?_eq_getElem hsl)
  have hσ : σ[i]? = some (some (.ref p)) := by rw [List.getElem?_eq_getElem hsl, e1]
  refine ⟨.ref p, hσ, ev_go R1 fun u F2 H2 n2 R2 i2 => ?_⟩
  obtain ⟨p', kvs', q1, q2, q3, qk, q4⟩ := R2.slots i _ _ hx (List.getElem?_eq_getElem hsl)
  rw [q1] at e1
  cases e1
  obtain ⟨b2, rfl, k2⟩ := i2
  obtain ⟨w1, w2⟩ := put_ok (Is.mono n2.f _ i1) kk qk q4
  have hlen : kvs'.length < sizeLine := by
    have : kvs'.length = ks.length := by rw [← qk, List.length_map]
    rw [this, sizeLine_eq]; omega
  exact ⟨p, _, rfl, DPut.t q3 (R2.sub _ _ k2) hlen, g.nx _ _ _ _ k (R2.chg hx rfl hσ rfl q2 ⟨p, _, rfl, q2, upd_same, w1, w2⟩)⟩
/-- x[a] of a dict of one's own -/
theorem ev_getOT (i : Nat) {x : Str} {px : Pos} (hx : ss[i]? = some (.dicT ks xs)) (hr : Room n X.A) (ha : EV T X a ss (.tk kk)) (hl : look ks xs kk = some d) (hp : PE X (.Name x px) (tVar i) := by exact pv _) (hs : NoSl a := by exact fun _ _ => rfl) :
    EV T X (.Subscript (.Name x px) a pos) ss d := by
  refine EV.of (pe_dget (by have := hr.units; omega) hp ha hs) fun B F H σ Q R q => ?_
  have hi : i < ss.length := (List.getElem?_eq_some_iff.mp hx).1
  have hsl : i < σ.length := by rw [R.len]; exact hi
  obtain ⟨p, kvs, e1, e2, e3, ek, e4⟩ := R.slots i _ _ hx (List.getElem?_eq_getElem hsl)
  refine ⟨.ref p, by rw [List.getElem?_eq_getElem hsl, e1], ev_go R fun u F2 H2 n2 R2 i2 => ?_⟩
  obtain ⟨p', kvs', q1, q2, q3, qk, q4⟩ := R2.slots i _ _ hx (List.getElem?_eq_getElem hsl)
  rw [q1] at e1
  cases e1
  obtain ⟨b2, rfl, k2⟩ := i2
  rcases look_ok kk qk q4 with ⟨w, _⟩ | ⟨d', v, w1, w2, w3, _⟩
  · rw [w] at hl; cases hl
  · rw [hl] at w1; cases w1
    exact ⟨p, v, rfl, by rw [← w2]; exact DGet.t q3 (R2.sub _ _ k2), q _ _ _ n2 R2 w3⟩
/-- e[a] of a dict that is a datum -/
theorem ev_getT (hr : Room n X.A) (he : EV T X e ss (.dcT ks xs)) (ha : EV T X a ss (.tk kk)) (hl : look ks xs kk = some d) (hs : NoSl a := by exact fun _ _ => rfl) : EV T X (.Subscript e a pos) ss d :=
  EV.of (pe_dget (by have := hr.units; omega) he ha hs) fun B F H σ Q R q => ev_go R fun v F1 H1 n1 R1 i1 => ev_go R1 fun u F2 H2 n2 R2 i2 => by
    obtain ⟨p, od, kvs, rfl, e2, ek, e4⟩ := i1
    obtain ⟨b2, rfl, k2⟩ := i2
    rcases look_ok kk ek e4 with ⟨w, _⟩ | ⟨d', v, w1, w2, w3, _⟩
    · rw [w] at hl; cases hl
    · rw [hl] at w1; cases w1
      exact ⟨p, v, rfl, by rw [← w2]; exact dget_frz (R2.sub _ _ (n2.f _ _ e2)) (R2.sub _ _ k2), q _ _ _ (n1.trans n2) R2 (Is.mono n2.f _ w3)⟩
/-- a in x, of a dict of one's own -/
theorem tv_inOT (i : Nat) {x : Str} {px : Pos} (hx : ss[i]? = some (.dicT ks xs)) (hr : Room n X.A) (ha : EV T X a ss (.tk kk)) (hp : PE X (.Name x px) (tVar i) := by exact pv _) (h1 : behindInMarks .In (.Name x px) = false := by rfl) :
    TV T X (.Compare a [.In] [.Name x px] pos) ss (hasK ks kk) := by
  refine TV.of (pt_cmp (pc_din (by have := hr.units; omega) ha hp) h1) fun B F H σ Q R q => ?_
  have hi : i < ss.length := (List.getElem?_eq_some_iff.mp hx).1
  have hsl : i < σ.length := by rw [R.len]; exact hi
  refine ev_go R fun u F2 H2 n2 R2 i2 => ?_
  obtain ⟨p, kvs, q1, q2, q3, qk, q4⟩ := R2.slots i _ _ hx (List.getElem?_eq_getElem hsl)
  obtain ⟨b2, rfl, k2⟩ := i2
  refine ⟨.ref p, by rw [List.getElem?_eq_getElem hsl, q1], p, _, rfl, DGet.t q3 (R2.sub _ _ k2), _, rfl, ?_⟩
  rcases look_ok kk qk q4 with ⟨_, w2, w3⟩ | ⟨d', v, _, w2, _, w3⟩
  · rw [w2]; simpa [w3] using q _ _ n2 R2
  · rw [w2]; simpa [w3] using q _ _ n2 R2
/-- a in e, of a dict that is a datum -/
theorem tv_inTD (hr : Room n X.A) (ha : EV T X a ss (.tk kk)) (he : EV T X e ss (.dcT ks xs)) (h1 : behindInMarks .In e = false := by rfl) : TV T X (.Compare a [.In] [e] pos) ss (hasK ks kk) :=
  TV.of (pt_cmp (pc_din (by have := hr.units; omega) ha he) h1) fun B F H σ Q R q => ev_go R fun u F1 H1 n1 R1 i1 => ev_go R1 fun v F2 H2 n2 R2 i2 => by
    obtain ⟨p, od, kvs, rfl, e2, qk, q4⟩ := i2
    obtain ⟨b2, rfl, k2⟩ := i1
    refine ⟨p, _, rfl, dget_frz (R2.sub _ _ e2) (R2.sub _ _ (n2.f _ _ k2)), _, rfl, ?_⟩
    rcases look_ok kk qk q4 with ⟨_, w2, w3⟩ | ⟨d', v, _, w2, _, w3⟩
    · rw [w2]; simpa [w3] using q _ _ (n1.trans n2) R2
    · rw [w2]; simpa [w3] using q _ _ (n1.trans n2) R2
end
end Fd

set_option Elab.async false
set_option linter.all false
set_option maxRecDepth 100000
set_option maxHeartbeats 4000000
/-! Fd26: raise C(e), e any flat datum; key tuples as data. -/
namespace Fd
open PySem PySem.Spec PyProof.Rows L2 PySem.ExS
/-- a datum without objects, as a value -/
def D.flat : D → Option V
  | .non => some .non | .bl b => some (.bl b) | .int i => some (.int i) | .str x => some (.str x) | _ => none
theorem flat_is {K : PySem.W.Frag} {F : Hp} {d : D} {v w : V} (h : d.flat = some w) (i : Is K F d v) : v = w := by
  cases d <;> first | (cases h; exact i) | cases h
section
variable {T : List (Addr × Str)} {X : Cx} {ss : SS} {rest : List Stmt} {e : Expr} {es : List Expr} {J : Value → Option Addr → Hp → Prop} {E : XK} {pos p pos' : Pos} {C fI cc cda : Addr} {f y x : Str} {k x1 : Nat} {d : D} {w : V} {ks : List Key}
/-- raise C(e), e a flat datum -/
theorem ry_raiseV (tk : Takes X (fun cls d _ H => E cls d H)) (EC : ExCls X.prog X.K X.mg C fI cc cda) (Fn : ExFn1 X.K C fI cc cda f y) (rs : Raises X (.ref C)) (hr : Room k X.A) (hm : X.mg x = some (.ref C)) (he : EV T X e ss d) (hw : d.flat = some w) (hg : Gl X x := by rfl) (hc : X.calm = true := by rfl) (hdb : (x == ("__debug__" : Str)) = false := by decide)
    (hst : starEach [e] X.env = [(false, eval e X.env)] := by rfl) (hpl : (backTo pos (starEach [] X.env)).any (·.1) = false := by rfl) : RY T X (.Raise (some (.Call (.Name x p) [e] [] pos)) none pos' :: rest) ss (Told C f w) E := by
  refine PSs.imp (pss_cons (ps_raise hc tk (pmk_exv1 EC Fn rs hr (evs_cons he evs_nil hst) hm hg hdb hst hpl)) (pss_all (T := T))) fun D σ H ⟨B0, F, R, q⟩ => ?_
  refine evs_go R fun vs F1 H1 n1 R1 i1 => ?_
  obtain ⟨v, rfl, i⟩ := isL1 i1
  obtain rfl := flat_is hw i
  exact ⟨_, rfl, fun d hd => q _ _ _ (R1.bH.trans (Gr.of (Ext.upd hd))) ⟨rfl, d, rfl, upd_same⟩⟩
theorem keys_v {K : PySem.W.Frag} {F : Hp} : ∀ {ks : List Key} {vs : List V}, IsL K F (ks.map kD) vs → vs = ks.map kV
  | [], _, h => h
  | k :: ks, _, h => by
    obtain ⟨v, r, rfl, h1, h2⟩ := h
    rw [is_kD h1, keys_v h2]; rfl
theorem v_keys {K : PySem.W.Frag} {F : Hp} : ∀ {ks : List Key}, IsL K F (ks.map kD) (ks.map kV)
  | [] => rfl
  | k :: ks => .cons (by cases k <;> rfl) v_keys
/-- (a, b, ..) of whole numbers and texts: a key -/
theorem ev_key (h : EVs T X es ss (ks.map kD)) (hl : ks.length ≤ 100000 := by exact Nat.le_of_ble_eq_true rfl) : EV T X (.Tuple es x1 pos) ss (.tk ks) :=
  EV.of (pe_tup h) fun B F H σ Q R k => evs_go R fun vs F1 H1 n1 R1 i1 => ⟨by rw [i1.length, List.length_map]; exact small_len hl, fun p hp => by
    obtain rfl := keys_v i1
    exact k _ _ _ (n1.trans (Nx.alloc R1.sub hp)) (R1.alloc hp) ⟨p, rfl, upd_same⟩⟩
/-- a key is a tuple -/
theorem ev_tk (h : EV T X e ss (.tk ks)) : EV T X e ss (.tup (ks.map kD)) :=
  EV.of h fun B F H σ Q R q => ev_go R fun v F1 H1 n1 R1 i1 => by
    obtain ⟨a, rfl, e1⟩ := i1
    exact q _ F1 H1 n1 R1 ⟨a, _, rfl, .inl (.inl e1), v_keys⟩
end
end Fd

set_option Elab.async false
set_option linter.all false
set_option maxRecDepth 100000
set_option maxHeartbeats 4000000
/-! Fd27: list(d), d a dict whose keys are tuples. -/
namespace Fd
open PySem PySem.Spec PyProof.Rows L2
section
variable {T : List (Addr × Str)} {X : Cx} {ss : SS} {e : Expr} {ks : List (List Key)} {xs : List D} {p pos : Pos}
/-- tuples of the whole heap among the data -/
def addT (F H : Hp) (bs : List Addr) : Hp := fun b => if b ∈ bs then H b else F b
theorem nx_addT {F H : Hp} {bs : List Addr} (s : Ext F H) (h : ∀ b ∈ bs, ∃ xs, H b = some (.tup xs)) : Nx T F H (addT F H bs) H := by
  have ne : ∀ b, b ∉ bs → addT F H bs b = F b := fun b z => if_neg z
  have eq : ∀ b, b ∈ bs → addT F H bs b = H b := fun b z => if_pos z
  refine ⟨fun b u e => ?_, .refl H, fun b u e => ?_, fun b ps e => ?_, fun b u e => ?_⟩
  · by_cases z : b ∈ bs
    · rw [eq b z]; exact s b u e
    · rw [ne b z]; exact e
  · by_cases z : b ∈ bs
    · rw [← eq b z]; exact e
    · rw [ne b z] at e; exact s b u e
  · by_cases z : b ∈ bs
    · obtain ⟨xs, q⟩ := h b z
      rw [eq b z, q] at e; cases e
    · rw [ne b z] at e; exact e
  · by_cases z : b ∈ bs
    · exact .inr (.inr (h b z))
    · rw [ne b z] at e; exact .inl (by rw [e]; exact fun y => nomatch y)
theorem keysT_is {K : PySem.W.Frag} {F : Hp} : ∀ {ks : List (List Key)} {kvs : List (List Key × V)} {bs : List Addr}, kvs.map (·.1) = ks → Paired (fun p b => F b = some (.tup (p.1.map kV))) kvs bs → IsL K F (ks.map D.tk) (bs.map V.ref)
  | _, _, _, e, .nil => by cases e; exact rfl
  | [], _, _, e, .cons _ _ => nomatch e
  | k :: ks, _, _, e, .cons h t => by
    obtain ⟨e0, e'⟩ := List.cons.inj e
    cases e0
    exact .cons ⟨_, rfl, h⟩ (keysT_is e' t)
theorem keys_tup {H : Hp} : ∀ {kvs : List (List Key × V)} {bs : List Addr}, Paired (fun p b => H b = some (.tup (p.1.map kV))) kvs bs → ∀ b ∈ bs, ∃ xs, H b = some (.tup xs)
  | _, _, .nil, b, hb => nomatch hb
  | _, _, .cons h t, b, hb => by
    rcases List.mem_cons.mp hb with e | hb
    · exact ⟨_, by rw [e]; exact h⟩
    · exact keys_tup t b hb
theorem keys_add {F H : Hp} {bs : List Addr} : ∀ {kvs' : List (List Key × V)} {bs' : List Addr}, (∀ b ∈ bs', b ∈ bs) → Paired (fun (p : List Key × V) b => H b = some (.tup (p.1.map kV))) kvs' bs' → Paired (fun (p : List Key × V) b => addT F H bs b = some (.tup (p.1.map kV))) kvs' bs'
  | _, _, _, .nil => .nil
  | _, b :: bs', hm, .cons h t => by
    refine .cons ?_ (keys_add (fun c hc => hm c (List.mem_cons_of_mem _ hc)) t)
    have : addT F H bs b = H b := if_pos (hm b List.mem_cons_self)
    rw [this]; exact h
/-- list(d) -/
theorem ev_keysT (ha : EV T X e ss (.dcT ks xs)) (hm : X.mg "list" = none) (hc : X.calm = true := by rfl) (hg : Gl X "list" := by rfl) (he : starEach [e] X.env = [(false, eval e X.env)] := by rfl) : EV T X (.Call (.Name "list" p) [e] [] pos) ss (.lst (ks.map D.tk)) :=
  ev_bty (call_list_dT hc) (evs_cons ha evs_nil he) hm boot_list (fun B F H σ vs Q R i1 q => by
    obtain ⟨v, rfl, i⟩ := isL1 i1
    obtain ⟨a, od, kvs, rfl, e1, ek, e2⟩ := i
    refine ⟨a, kvs, rfl, .inr ⟨od, R.sub _ _ e1⟩, fun l bs hl hk => ?_⟩
    have ht : ∀ b ∈ bs, ∃ xs, H b = some (.tup xs) := keys_tup hk
    have hF : Paired (fun (p : List Key × V) b => addT F H bs b = some (.tup (p.1.map kV))) kvs bs := keys_add (fun b h => h) hk
    have n1 : Nx T F H (addT F H bs) H := nx_addT R.sub ht
    have R1 := R.grow n1
    have x : Ext (addT F H bs) (upd (addT F H bs) l (.lst (bs.map V.ref))) := Ext.upd (R1.free hl)
    exact q _ _ _ (n1.trans (Nx.alloc R1.sub hl)) (R1.alloc hl) ⟨l, _, rfl, upd_same, IsL.mono x _ (keysT_is ek hF)⟩) hg (he := he)
end
end Fd

set_option Elab.async false
set_option linter.all false
set_option maxRecDepth 100000
set_option maxHeartbeats 3200000
/-! SetTx: len(set(xs)) of a list of texts. -/
namespace StX
open PySem PySem.Spec PyProof.Rows
section
variable {κ : Type} [DecidableEq κ] [BEq κ] [LawfulBEq κ]
/-- the different ones, as they come -/
def put1 (acc : List κ) (k : κ) : List κ := if acc.any (· == k) = true then acc else acc ++ [k]
def dl (l : List κ) : List κ := l.foldl put1 []
theorem dl_snoc (l : List κ) (k : κ) : dl (l ++ [k]) = put1 (dl l) k := by simp [dl, List.foldl_append]
theorem put1_any (acc : List κ) (v k : κ) : (acc.any (· == k) || decide (k = v)) = (put1 acc v).any (· == k) := by
  unfold put1
  by_cases h : acc.any (· == v) = true
  · rw [if_pos h]
    by_cases e : k = v
    · subst e; simp [h]
    · simp [e]
  · rw [if_neg h]
    by_cases e : k = v
    · subst e; simp
    · have : (v == k) = false := by simpa using fun z : v = k => e z.symm
      simp [e, this]
theorem put1_len (acc : List κ) (v : κ) : (if acc.any (· == v) = true then acc.length else acc.length + 1) = (put1 acc v).length := by
  unfold put1
  by_cases h : acc.any (· == v) = true
  · rw [if_pos h, if_pos h]
  · rw [if_neg h, if_neg h]; simp
theorem put1_le (acc : List κ) (v : κ) : (put1 acc v).length ≤ acc.length + 1 := by
  rw [← put1_len]; split <;> omega
theorem fold_le : ∀ (l acc : List κ), (l.foldl put1 acc).length ≤ acc.length + l.length
  | [], acc => by simp
  | k :: l, acc => by
    have h1 := fold_le l (put1 acc k)
    have h2 := put1_le acc k
    simp only [List.foldl_cons, List.length_cons]
    omega
theorem dl_le (l : List κ) : (dl l).length ≤ l.length := by have := fold_le l []; simpa [dl] using this
theorem fold_nodup : ∀ (l acc : List κ), ((l.foldl put1 acc).length = acc.length + l.length) ↔ (l.Nodup ∧ ∀ k ∈ l, k ∉ acc)
  | [], acc => by simp
  | k :: l, acc => by
    simp only [List.foldl_cons, List.length_cons, List.nodup_cons]
    by_cases h : acc.any (· == k) = true
    · have e : put1 acc k = acc := if_pos h
      rw [e]
      have hk : k ∈ acc := by simpa using h
      have := fold_le l acc
      constructor
      · intro z; omega
      · intro z; exact absurd hk (z.2 k List.mem_cons_self)
    · have e : put1 acc k = acc ++ [k] := if_neg h
      have hk : k ∉ acc := fun z => h (by simpa using z)
      have ih := fold_nodup l (acc ++ [k])
      rw [e]
      rw [show acc.length + (l.length + 1) = (acc ++ [k]).length + l.length by simp; omega, ih]
      constructor
      · rintro ⟨h1, h2⟩
        refine ⟨⟨fun z => h2 k z (by simp), h1⟩, fun j hj => ?_⟩
        rcases List.mem_cons.mp hj with rfl | hj
        · exact hk
        · exact fun z => h2 j hj (by simp [z])
      · rintro ⟨⟨h1, h2⟩, h3⟩
        refine ⟨h2, fun j hj z => ?_⟩
        rcases List.mem_append.mp z with z | z
        · exact h3 j (List.mem_cons_of_mem _ hj) z
        · have : j = k := by simpa using z
          subst this; exact h1 hj
theorem dl_nodup (l : List κ) : (dl l).length = l.length ↔ l.Nodup := by
  have := fold_nodup l []
  simpa [dl] using this
end
section
variable {κ : Type} [DecidableEq κ] [BEq κ] [LawfulBEq κ] {P : Program} {w : World} {A : Around} {R : Result → Shared → Prop} {J : Addr} {fp wr : List Addr} {G : Array GenState → Array GenState → Prop} {n : Nat} {Pv : Nat → Value → Prop} {St : Nat → Shared → Prop} {kd : PySem.KeyKind P w κ}
/-- the set at S has got the first i of the keys -/
def Has (kd : PySem.KeyKind P w κ) (ks : List κ) (S : Addr) (i : Nat) (h : Heap) : Prop := h.SetOf kd S (fun k => (dl (ks.take i)).any (· == k)) (dl (ks.take i)).length
theorem Has.at_ {ks : List κ} {S : Addr} {i : Nat} {h h' : Heap} (g : Has kd ks S i h) (k : ∀ o, h.get? S = some o → h'.get? S = some o) : Has kd ks S i h' := by
  obtain ⟨o, es, ep, tb, ho, rest⟩ := g
  exact ⟨o, es, ep, tb, k o ho, rest⟩
theorem upd_loop (W : WalksS P w A.in1 J fp wr G n Pv St) (S : Addr) (hS : S ∉ fp) (ks : List κ) (hn : ks.length = n) (hb : n + 1 < scanBound)
    (hv : ∀ i v, Pv i v → ∃ k, ks[i]? = some k ∧ kd.is k v = true ∧ v.scannable = true) : ∀ (m i : Nat) (s : Shared), m + i = n → St i s → Has kd ks S i s.heap →
      (∀ s', Moved (S :: wr) G s s' → Has kd ks S n s'.heap → R (.ok (.ret .none)) s') → codeAny (model P w) A (.builtin "set.update.loop" ⟨[.ref S, .ref J], []⟩) R s
  | 0, i, s, hm, st, has, q => by
    obtain rfl : i = n := by omega
    refine codeAny_builtin F.entry_set_update_loop ?_; rw [Around.under_plainId F.plain_set_update_loop _]
    exact wpAny_bind (W.done s _ _ st fun s' mv => wpAny_pure (q s' (mv.mono fun b hb => List.mem_cons_of_mem _ hb) (has.at_ fun o => mv.heap S o fun z => hS (W.sub _ z))))
  | m + 1, i, s, hm, st, has, q => by
    refine codeAny_builtin F.entry_set_update_loop ?_; rw [Around.under_plainId F.plain_set_update_loop _]
    refine wpAny_bind (W.item i s _ _ (by omega) st fun v s' pv st' mv => ?_)
    obtain ⟨k, hk, his, hsc⟩ := hv i v pv
    have has' : Has kd ks S i s'.heap := has.at_ fun o => mv.heap S o fun z => hS (W.sub _ z)
    have room : (dl (ks.take i)).length + 1 < scanBound := by
      have h1 := dl_le (ks.take i)
      have h2 : (ks.take i).length ≤ ks.length := List.length_take_le' ..
      omega
    have tk : ks.take (i + 1) = ks.take i ++ [k] := by rw [List.take_succ, hk]; rfl
    show wpAny _ A.in1 (holding [v] (setAdd S v) >>= _) _ _ s'
    refine wpAny_bind (wpAny_holding (show wpAny _ A.in1 (setAdd S v) _ _ s' from ?_)); unfold setAdd
    refine wpAny_holding (wpAny_bind (kd.pyHash (k := k) his (wpAny_setAddHashed_of (knd := kd) (s := { s' with toks := s'.toks + 1 }) his hsc has' room fun h' sb new => ?_)))
    have has2 : Has kd ks S (i + 1) h' := by unfold Has; rw [tk, dl_snoc]; exact SetOf_congr new (fun j => put1_any _ _ _) (put1_len _ _)
    have keep : ∀ b, b ≠ S → h'.get? b = s'.heap.get? b := fun b hb => sb.2 b hb
    refine wpAny_pure ⟨plainId_quiet F.plain_set_update_loop _, upd_loop W S hS ks hn hb hv m (i + 1) _ (by omega) (W.frame _ s' _ _ st' (Nat.le_succ _) fun b hb o e => ?_) has2 fun s2 mv2 has3 => q s2 ?_ has3⟩
    · exact (keep b fun z => hS (z ▸ hb)).trans e
    · exact Moved.trans W.gtrans ((mv.mono fun b hb => List.mem_cons_of_mem _ hb).then_heap (Nat.le_succ _) fun b o hb e => (keep b fun z => hb (by rw [z]; exact List.mem_cons_self)).trans e) mv2
end
section
variable {κ : Type} [DecidableEq κ] [BEq κ] [LawfulBEq κ] {P : Program} {w : World} {A : Around} {E : Value → Shared → Prop} {s : Shared} {kd : PySem.KeyKind P w κ}
/-- an empty set, just laid -/
abbrev emp (led : Bool) : Obj := { cls := .type "set", dict := none, data := .set #[] 0 (.fresh 0 0 led) }
/-- set(xs) of a list -/
theorem set_of {l : Addr} {items : Array Value} {ks : List κ} {Q : Value → Shared → Prop} (hh : A.handled = none) (hl : s.heap.IsList l items) (hn : ks.length = items.size) (hb : items.size + 1 < scanBound)
    (hv : ∀ (i : Nat) (v : Value), items[i]? = some v → ∃ k, ks[i]? = some k ∧ kd.is k v = true ∧ v.scannable = true)
    (q : ∀ (h' : Heap) (tk : Nat), Has kd ks s.heap.objs.size items.size h' → (∀ b o, b < s.heap.objs.size → s.heap.get? b = some o → h'.get? b = some o) → Q (.ref s.heap.objs.size) { s with heap := h', toks := tk }) :
    wpAny (model P w) A (call (.type "set") [.ref l]) Q E s := by
  have c0 := F.called_set.mro; obtain ⟨c1, c2, c3⟩ := c0
  have c4 := F.called_set.made; have c5 := F.called_set.sub; have c6 := F.called_set.notType; have c7 := F.called_set.canCreate; have c8 := PySem.F.typeCall_set_1 (.ref l)
  refine wpAny_call (codeAny_of_tree (show wpAny _ _ (callAny (.type "set") _) _ _ _ from wpAny_pure ⟨Code.quiet_builtin _ (by decide +kernel), codeAny_builtin F.entry_type_call ?_⟩))
  rw [Around.under_plain (weight_type_call_type "set" [.ref l] []) rfl]; (repeat (any_goals (first | assumption | wp_step)))
  refine codeAny_mono (PySem.code_set_new_1 (.ref l) (E := E) (Q₁ := fun u s1 => ∃ led, u = .ref s.heap.objs.size ∧ s1 = { s with heap := s.heap.push (emp led) }) fun led => ⟨led, rfl, rfl⟩) fun r s1 hr => ?_
  rcases r with e | fl
  · exact hr
  · cases fl with
    | ret u =>
      obtain ⟨led, rfl, rfl⟩ := hr
      have at1 : (s.heap.push (emp led)).get? s.heap.objs.size = some (emp led) := Heap.get?_push_size _ rfl
      have ty1 : Shared.TypeIs { s with heap := s.heap.push (emp led) } (.ref s.heap.objs.size) "set" := ⟨_, at1, rfl⟩
      have c9 := F.called_set.init.lookup; have ca := F.called_set.init.bind (.ref s.heap.objs.size); (repeat (any_goals (first | assumption | wp_step)))
      refine codeAny_mono (codeAny_call_builtin (R := wants (fun r s2 => r = .none ∧ ∃ h' tk, s2 = { s with heap := h', toks := tk } ∧ Has kd ks s.heap.objs.size items.size h' ∧ (∀ b o, b < s.heap.objs.size → s.heap.get? b = some o → h'.get? b = some o)) E)
        F.called_set.init.plain F.entry_set_init (PySem.check_set_init_1 ty1 ?_)) fun r2 s2 hr2 => ?_
      · have li : (s.heap.push (emp led)).IsList l items := hl.push _
        obtain ⟨⟨oc, od, oda, osl⟩, ol1, ol2, nl, ol3⟩ := hl
        simp only at ol2 ol3; subst ol2; subst ol3
        have ol4 : (s.heap.push (emp led)).get? l = some { cls := .type "list", dict := od, data := .seq items nl, slots := osl } := Heap.get?_push_of_some _ ol1
        have cb := PySem.F.sub_list_set; have cc := PySem.F.sub_list_frozenset; have cd : (Value.type "list" == Value.type "dict") = false := by decide
        have lt1 : l < s.heap.objs.size := Heap.lt_size ol1
        have h3 : A.in1.in1.in1.handled = none := by simp [hh]
        have sz : (s.heap.push (emp led)).objs.size = s.heap.objs.size + 1 := Heap.size_push _ _
        unfold Builtin.«set.__init__» noKeywords Builtin.Frozenset.updateFrom; generalize hPI : pyIter = PI; wp_walk; subst hPI
        refine wpAny_pyIter_list li (wpAny_bind (wpAny_runValue ?_))
        refine upd_loop (kd := kd) ((Walks.list h3 _ l (by rw [sz]; exact Nat.ne_of_lt (Nat.lt_succ_of_lt lt1)) items).toS) s.heap.objs.size (by rw [sz]; simp only [List.mem_cons, List.not_mem_nil, or_false, not_or]; exact ⟨Nat.ne_of_lt (Nat.lt_succ_self _), Nat.ne_of_gt lt1⟩) ks hn hb hv items.size 0 _ (by omega) ⟨⟨_, Heap.get?_push_size _ rfl, rfl, rfl⟩, li.push _⟩ ?_ ?_
        · exact SetOf_congr ((setObjOf_fresh (knd := kd) led).setOf (Heap.get?_push_of_some _ at1) (by unfold scanBound; omega)) (fun _ => rfl) rfl
        · rintro ⟨h', g', d', tk', os'⟩ mv has
          have e1 : g' = s.gens := mv.gens; have e2 : d' = s.drawn := mv.drawn; have e3 : os' = s.os := mv.os
          subst e1; subst e2; subst e3
          refine wpAny_pure (show wpAny _ _ (ret Value.none) _ _ _ from wpAny_pure ⟨rfl, h', tk', rfl, has, fun b o hb' e => mv.heap b o ?_ (Heap.get?_push_of_some _ (Heap.get?_push_of_some _ e))⟩)
          rw [sz]; simp only [List.mem_cons, List.not_mem_nil, or_false, not_or]; exact ⟨Nat.ne_of_lt hb', Nat.ne_of_lt (Nat.lt_succ_of_lt hb')⟩
      · rcases r2 with e | fl2
        · exact hr2
        · cases fl2 with
          | ret r =>
            obtain ⟨rfl, h', tk, rfl, has, hk⟩ := hr2; (repeat (any_goals (first | assumption | wp_step)))
            exact q _ _ has hk
          | _ => exact hr2.elim
    | _ => exact hr.elim
end
end StX

set_option Elab.async false
set_option linter.all false
set_option maxRecDepth 100000
set_option maxHeartbeats 4000000
/-! Fd28: chained comparisons, slices and turned lists, own lists asked and widened, len(set(..)), count of a text. -/
namespace Fd
open PySem PySem.Spec PyProof.Rows L2
section
variable {T : List (Addr × Str)} {X : Cx} {ss : SS} {P : Post} {a b c e o : Expr} {i j k : Int} {x y : Str} {d d2 : D} {xs ys : List D} {p p1 p2 p3 pos pos' pl : Pos} {n : Nat}
/-- a module's whole number -/
theorem ev_glI {t : Tok} {nm : Str} (hm : X.mg nm = some (.int i t)) (hg : Gl X nm := by rfl) (hd : (nm == ("__debug__" : Str)) = false := by decide) : EV T X (.Name nm pos) ss (.int i) :=
  EV.of (pe_glob hg hm (r := ⟨t, rfl⟩) (v := .int i) hd) fun B F H σ Q R q => q _ F H R.nx R rfl
/-- a op b op' c, of whole numbers -/
theorem ev_chain {op op' : CmpOp} {f g : Int → Int → Bool} (ho : OpR X (compareOp op) (rI0 fun i j => .bl (f i j))) (ho' : OpR X (compareOp op') (rI0 fun i j => .bl (g i j))) (ha : EV T X a ss (.int i)) (hb : EV T X b ss (.int j)) (hc : EV T X c ss (.int k))
    (hm : lastMarks [op, op'] [b, c] = false := by with_unfolding_all rfl) : EV T X (.Compare a [op, op'] [b, c] pos) ss (.bl (f i j && g j k)) :=
  EV.of (pe_chain ho ho' ha hb hc hm) fun B F H σ Q R q => ev_go R fun v F1 H1 n1 R1 i1 => ev_go R1 fun u F2 H2 n2 R2 i2 => by
    have e1 : v = .int i := i1
    have e2 : u = .int j := i2
    subst e1; subst e2
    refine ⟨i, j, rfl, rfl, f i j, rfl, ?_⟩
    cases hf : f i j with
    | false => exact q _ F2 H2 (n1.trans n2) R2 (by show V.bl false = V.bl (f i j && g j k); rw [hf]; rfl)
    | true =>
      refine ev_go (T := T) (K := X.K) (d := .int k) R2 fun w F3 H3 n3 R3 i3 => ?_
      have e3 : w = .int k := i3
      subst e3
      exact ⟨j, k, rfl, rfl, q _ F3 H3 ((n1.trans n2).trans n3) R3 (by show V.bl (g j k) = V.bl (f i j && g j k); rw [hf]; rfl)⟩
theorem tv_chain {op op' : CmpOp} {f g : Int → Int → Bool} (ho : OpR X (compareOp op) (rI0 fun i j => .bl (f i j))) (ho' : OpR X (compareOp op') (rI0 fun i j => .bl (g i j))) (ha : EV T X a ss (.int i)) (hb : EV T X b ss (.int j)) (hc : EV T X c ss (.int k))
    (hm : lastMarks [op, op'] [b, c] = false := by with_unfolding_all rfl) : TV T X (.Compare a [op, op'] [b, c] pos) ss (f i j && g j k) :=
  TV.of (pt_chain ho ho' ha hb hc hm) fun B F H σ Q R q => ev_go R fun v F1 H1 n1 R1 i1 => ev_go R1 fun u F2 H2 n2 R2 i2 => by
    have e1 : v = .int i := i1
    have e2 : u = .int j := i2
    subst e1; subst e2
    refine ⟨i, j, rfl, rfl, f i j, rfl, ?_⟩
    cases hf : f i j with
    | false => exact ⟨_, rfl, by have := q F2 H2 (n1.trans n2) R2; rw [hf] at this; exact this⟩
    | true =>
      refine ev_go (T := T) (K := X.K) (d := .int k) R2 fun w F3 H3 n3 R3 i3 => ?_
      have e3 : w = .int k := i3
      subst e3
      exact ⟨j, k, rfl, rfl, _, rfl, by have := q F3 H3 ((n1.trans n2).trans n3) R3; rw [hf] at this; exact this⟩
theorem nb_t {b : Bool} (h : (!b) = true) : b = false := by cases b with | false => rfl | true => cases h
theorem nb_f {b : Bool} (h : (!b) = false) : b = true := by cases b with | true => rfl | false => cases h
/-- slices of lists -/
def cutD (xs : List D) (lo hi : Option Int) : List D := (xs.drop (HT.sIx xs.length 0 lo)).take (HT.sIx xs.length xs.length hi - HT.sIx xs.length 0 lo)
theorem cut_is {K : PySem.W.Frag} {F : Hp} {vs : List V} (l u : Option Int) (h : IsL K F xs vs) : IsL K F (cutD xs l u) (cutV vs l u) := by
  unfold cutV cutD
  rw [h.length]
  exact (h.drop _).take _
theorem ev_cutL {lo hi : Option Expr} {l u : Option Int} {d : D} (hd : d = .lst xs ∨ d = .rdl xs) (ha : EV T X o ss d) (hl : PV T X lo ss l) (hu : PV T X hi ss u) : EV T X (.Subscript o (.Slice lo hi none p2) pos) ss (.lst (cutD xs l u)) :=
  EV.of (pe_slice sl_list ha (po_pv hl) (po_pv hu)) fun B F H σ Q R q => ev_go R fun v F1 H1 n1 R1 i1 => by
    have got : ∃ a vs, v = .ref a ∧ SqL X.K F1 a vs ∧ IsL X.K F1 xs vs := by
      rcases hd with rfl | rfl
      · obtain ⟨a, vs, e0, e1, e2⟩ := i1; exact ⟨a, vs, e0, SqL.of e1, e2⟩
      · obtain ⟨a, vs, e0, e1, e2⟩ := i1; exact ⟨a, vs, e0, e1, e2⟩
    obtain ⟨a, vs, rfl, e1, e2⟩ := got
    refine ⟨B, F1, R1, fun F2 H2 n2 R2 => ⟨B, F2, R2, fun F3 H3 n3 R3 => ⟨a, vs, rfl, ext_seqL ((n2.trans n3).f.trans R3.sub) e1, fun q' hq => ?_⟩⟩⟩
    refine q _ _ _ (((n1.trans n2).trans n3).trans (Nx.alloc R3.sub hq)) (R3.alloc hq) ⟨q', _, rfl, upd_same, cut_is l u (IsL.mono ((n2.trans n3).f.trans (Ext.upd (R3.free hq))) _ e2)⟩
theorem isL_rev {K : PySem.W.Frag} {F : Hp} : ∀ {xs : List D} {vs : List V}, IsL K F xs vs → IsL K F xs.reverse vs.reverse
  | [], _, h => by cases (show _ = _ from h); exact rfl
  | x :: xs, _, h => by
    obtain ⟨v, r, rfl, h1, h2⟩ := h
    simp only [List.reverse_cons]
    exact (isL_rev h2).snoc h1
theorem ev_rev {k0 : Nat} (ha : EV T X o ss (.lst xs)) : EV T X (.Subscript o (.Slice none none (some (.UnaryOp .USub (.Constant (.int 1) k0 p1) p2)) p3) pos) ss (.lst xs.reverse) :=
  EV.of (pe_revL ha) fun B F H σ Q R q => ev_go R fun v F1 H1 n1 R1 i1 => by
    obtain ⟨a, vs, rfl, e1, e2⟩ := i1
    exact ⟨a, vs, rfl, SqL.of (R1.sub _ _ e1), fun q' hq => q _ _ _ (n1.trans (Nx.alloc R1.sub hq)) (R1.alloc hq) ⟨q', _, rfl, upd_same, isL_rev (IsL.mono (Ext.upd (R1.free hq)) _ e2)⟩⟩
/-- len(set(xs)) of texts -/
theorem is_strs {K : PySem.W.Frag} {F : Hp} : ∀ {zs : List Str} {vs : List V}, IsL K F (zs.map D.str) vs → vs = zs.map V.str
  | [], _, h => h
  | z :: zs, _, h => by
    obtain ⟨v, r, rfl, h1, h2⟩ := h
    rw [is_strs h2, show v = .str z from h1]; rfl
theorem strs_get : ∀ {zs : List Str} {us : List Value} (i : Nat) (v : Value), Vals (zs.map V.str) us → us[i]? = some v → ∃ z t, zs[i]? = some z ∧ v = .str z t
  | [], _, i, v, .nil, h => by simp at h
  | z :: zs, _, 0, v, .cons r t, h => by
    obtain ⟨k, rfl⟩ := r
    simp at h; subst h
    exact ⟨z, k, rfl, rfl⟩
  | z :: zs, _, i + 1, v, .cons r t, h => by
    simp at h
    obtain ⟨z', t', h1, h2⟩ := strs_get i v t h
    exact ⟨z', t', by simpa using h1, h2⟩
theorem ev_lenSet {zs : List Str} (hl : zs.length < 1000) (ha : EV T X a ss (.lst (zs.map D.str))) (hm : X.mg "len" = none) (hm2 : X.mg "set" = none) (hc : X.calm = true := by rfl) (hg : Gl X "len" := by rfl) (hg2 : Gl X "set" := by rfl) (na : starEach [a] X.env = [(false, eval a X.env)] := by rfl) :
    EV T X (.Call (.Name "len" p) [.Call (.Name "set" p2) [a] [] p3] [] pos) ss (.int (StX.dl zs).length) := by
  refine EV.of (t := fun σ H Q => EvP T X.K ss (.lst (zs.map D.str)) σ H fun x H1 => ∃ l, x = .ref l ∧ SqL X.K H1 l (zs.map V.str) ∧ Q (.int (StX.dl zs).length) H1) ⟨fun pins s σ H Q I h => ?_⟩ fun B F H σ Q R q => ev_go R fun v F1 H1 n1 R1 i1 => ?_
  · refine Call_ (ld_blt I hg hm PySem.boot_len (callWith_builtin1 (args_cons ?_ rfl) rfl rfl))
    refine Call_ (ld_blt I hg2 hm2 PyProof.Rows.boot_set (callWith_type1 (args_cons (thn (ha.run pins s σ H _ I h) fun v s1 ⟨x, H1, I1, r1, q1⟩ => args_nil ?_) na) na rfl))
    obtain ⟨l, rfl, hq, q1⟩ := q1
    cases r1
    obtain ⟨its, r, pl, hz⟩ := I1.list hq
    have hsz : zs.length = its.toArray.size := by rw [List.size_toArray, ← r.length, List.length_map]
    have bnd : (1000 : Nat) + 1 < scanBound := by unfold scanBound; omega
    refine StX.set_of (kd := PySem.strKind X.prog X.w) (ks := zs) (I1.ok.hd hc) pl.isList hsz (by omega) (fun i v hv => ?_) fun h' tk has hk => args_nil ?_
    · obtain ⟨z, t, h1, rfl⟩ := strs_get i v r (by simpa using hv)
      exact ⟨z, h1, strKind_is _ _ _ _, rfl⟩
    · unfold StX.Has at has
      rw [← hsz, List.take_length] at has
      obtain ⟨o', es, ep, t, ho, hex, hd, _, _, _, hf, hn⟩ := has
      have dle := StX.dl_le zs
      exact call_len_set ho hex hd hf (by rw [hn]; omega) ⟨.int (StX.dl zs).length, H1, Inv.tok (I1.kept fun b o e => hk b o (Heap.lt_size e) e) _, ⟨_, by rw [hn]⟩, q1⟩
  · obtain ⟨l, vs, rfl, e1, e2⟩ := i1
    rw [is_strs e2] at e1
    exact ⟨l, rfl, SqL.of (R1.sub _ _ e1), q _ F1 H1 n1 R1 rfl⟩
end
end Fd

set_option Elab.async false
set_option linter.all false
set_option maxRecDepth 100000
set_option maxHeartbeats 4000000
/-! Fd29: raising C(e) with any datum, as contracts of a def and of an __init__; try/except C as n around a call, the handled exception a datum. -/
namespace Fd
open PySem PySem.Spec PyProof.Rows L2 PySem.ExS
/-- what is told of a raise of C with the datum d, from the base B -/
def JE (T : List (Addr × Str)) (K : PySem.W.Frag) (B : Hp × Hp) (C : Addr) (f : Str) (d : D) (E : XK) : Prop := ∀ a v F1 H1, Nx T B.1 B.2 F1 H1 → H1 a = some (.xd [(f, v)]) → F1 a = none → Fr B.2 a → Is K F1 d v → E (.ref C) (some a) H1
/-- a def that raises C with d -/
def spE (T : List (Addr × Str)) (K : PySem.W.Frag) (C : Addr) (f : Str) (n : Nat) (pre : List D → D → Prop) : Sp := fun vs H _ E => ∃ F ds d, Ext F H ∧ (∀ p ps, F p ≠ some (.tbl ps)) ∧ LamX.Tabs T H ∧ IsL K F ds vs ∧ ds.length = n ∧ pre ds d ∧ JE T K (F, H) C f d E
/-- an __init__ of CC that raises C with d -/
def spME (T : List (Addr × Str)) (K : PySem.W.Frag) (CC C : Addr) (f : Str) (n : Nat) (pre : List D → D → Prop) : Sp := fun vs H _ E => ∃ H0 F p dx us ds d, vs = .ref p :: us ∧ H0 p = none ∧ H0 dx = none ∧ dx ≠ p ∧ H = upd (upd H0 dx (.own p)) p (.ins CC dx []) ∧ Ext F H0 ∧ (∀ p ps, F p ≠ some (.tbl ps)) ∧ LamX.Tabs T H0 ∧ IsL K F ds us ∧ ds.length = n ∧ pre ds d ∧ JE T K (F, H0) C f d E
def RE (T : List (Addr × Str)) (X : Cx) (sts : List Stmt) (ss : SS) (C : Addr) (f : Str) (d : D) (E : XK) : Prop := PSs X sts (fun _ σ H => ∃ B F, StR T X.K B F H σ ss ∧ JE T X.K B C f d E)
abbrev AllRe (T : List (Addr × Str)) (X : Cx) (sts : List Stmt) (C : Addr) (f : Str) (d : D) (E : XK) : TS := fun _ σ H => ∃ B F ss, RE T X sts ss C f d E ∧ StR T X.K B F H σ ss ∧ JE T X.K B C f d E
section
variable {T : List (Addr × Str)} {X : Cx} {ss : SS} {st : Stmt} {sts rest A1 A2 : List Stmt} {e cnd tg : Expr} {E : XK} {pos p pos' : Pos} {C fI cc cda : Addr} {f y x : Str} {k n : Nat} {d : D} {xs : List D}
theorem pss_re : PSs X sts (AllRe T X sts C f d E) := ⟨fun pins s σ H D I ⟨B, F, ss, h, R, q⟩ => h.run pins s σ H D I ⟨B, F, R, q⟩⟩
theorem re_cons (h : SV T X st ss ⟨fun ss' => RE T X rest ss' C f d E, fun _ => False, fun _ => False, fun _ => False⟩) : RE T X (st :: rest) ss C f d E := by
  refine PSs.imp (pss_cons h (pss_re (T := T) (C := C) (f := f) (d := d) (E := E))) fun D σ H ⟨B, F, R, q⟩ => ?_
  exact ⟨B, F, ss, _, ⟨rfl, rfl⟩, R, fun ss' σ' F1 H1 hn R1 => ⟨B, F1, ss', hn, R1, q⟩, fun _ _ _ _ _ _ z => z.elim, fun _ _ _ _ z => z.elim, fun _ _ _ _ z => z.elim⟩
theorem re_ifT (hc : TV T X cnd ss true) (h : RE T X A1 ss C f d E) : RE T X (.If cnd A1 A2 pos :: rest) ss C f d E :=
  PSs.imp (pss_cons (ps_if hc h (pss_all (T := T) (sts := A2))) (pss_all (T := T))) fun D σ H ⟨B0, F, R, q⟩ => tv_go R fun F1 H1 n1 R1 => ⟨B0, F1, R1, q⟩
/-- raise C(e) -/
theorem re_raise (tk : Takes X (fun cls d _ H => E cls d H)) (EC : ExCls X.prog X.K X.mg C fI cc cda) (Fn : ExFn1 X.K C fI cc cda f y) (rs : Raises X (.ref C)) (hr : Room k X.A) (hm : X.mg x = some (.ref C)) (he : EV T X e ss d) (hg : Gl X x := by rfl) (hc : X.calm = true := by rfl) (hdb : (x == ("__debug__" : Str)) = false := by decide)
    (hst : starEach [e] X.env = [(false, eval e X.env)] := by rfl) (hpl : (backTo pos (starEach [] X.env)).any (·.1) = false := by rfl) : RE T X (.Raise (some (.Call (.Name x p) [e] [] pos)) none pos' :: rest) ss C f d E := by
  refine PSs.imp (pss_cons (ps_raise hc tk (pmk_exv1 EC Fn rs hr (evs_cons he evs_nil hst) hm hg hdb hst hpl)) (pss_all (T := T))) fun D σ H ⟨B0, F, R, q⟩ => ?_
  refine evs_go R fun vs F1 H1 n1 R1 i1 => ?_
  obtain ⟨v, rfl, i⟩ := isL1 i1
  exact ⟨_, rfl, fun a ha => q a v F1 _ (R1.back.trans (Nx.allocH R1.sub ha)) upd_same (R1.free ha) (R1.base_none ha) i⟩
theorem pss_orE {t1 t2 : TS} (h1 : PSs X sts t1) (h2 : PSs X sts t2) : PSs X sts (fun D σ H => t1 D σ H ∨ t2 D σ H) :=
  ⟨fun pins s σ H D I q => q.elim (fun z => h1.run pins s σ H D I z) fun z => h2.run pins s σ H D I z⟩
/-- a for whose turn n raises -/
theorem re_for {body : List Stmt} (t : Tg) (I : Nat → SS → Prop) (n : Nat) (hn : n < xs.length) (hi : IV T X tg e ss xs) (hg : PG X tg (gOf X.K t)) (h0 : I 0 ss)
    (hs : ∀ i x ss', i < n → xs[i]? = some x → I i ss' → t.fits x = true ∧ SVs T X body (t.put x ss') ⟨I (i + 1), fun _ => False, fun _ => False, I (i + 1)⟩)
    (hx : ∀ x ss', xs[n]? = some x → I n ss' → t.fits x = true ∧ RE T X body (t.put x ss') C f d E)
    (hp : PassesOwn (model X.prog X.w) X.A X.env X.xe := by exact passes_of rfl) (hc : X.calm = true := by rfl) (hf : ∀ x, foldedSetIterable e X.env x = pure x := by intro _; rfl) : RE T X (.For tg e body [] pos :: rest) ss C f d E := by
  refine PSs.imp (pss_cons (ps_for hp hc hi hg (pss_orE (pss_all (T := T) (sts := body)) (pss_re (T := T) (C := C) (f := f) (d := d) (E := E))) hf) (pss_all (T := T))) fun D σ H ⟨B, F, R, q⟩ => ⟨B, F, R, fun Jt F1 H1 n1 R1 Y => ?_⟩
  refine ⟨fun i m σ' H' => m = xs.length - i ∧ i ≤ n ∧ ∃ F' ss', StR T X.K (F1, B.2) F' H' σ' ss' ∧ I i ss', ⟨xs.length, by simp, Nat.zero_le _, F1, ss, R1.rebase, h0⟩, ?_⟩
  rintro i m σ' H' ⟨rfl, hi', F', ss', R', hI⟩
  obtain ⟨go, yl⟩ := Y.item i F' H' R'.bF R'.sub (by omega)
  refine .inr ⟨go, fun σ2 H2 => ∃ F2 ss2, StR T X.K (F1, B.2) F2 H2 σ2 ss2 ∧ I (i + 1) ss2 ∧ i + 1 ≤ n, fun σ2 H2 ⟨F2, ss2, R2, h2, h3⟩ => ⟨xs.length - (i + 1), by omega, rfl, h3, F2, ss2, R2, h2⟩, fun v H2 yv => ?_⟩
  obtain ⟨F2, x, n2, hx', ix⟩ := yl v H2 yv
  by_cases hin : i < n
  · obtain ⟨hfit, hbody⟩ := hs i x ss' hin hx' hI
    refine tg_go (ws := []) (R'.grow n2) ix hfit (fun j _ => .inr rfl) fun σ3 R3 _ => .inl ?_
    exact sv_go hbody R3 ⟨fun ss4 σ4 F4 H4 q4 R4 => ⟨F4, ss4, R4, q4, hin⟩, fun d v ss4 σ4 F4 H4 z => z.elim, fun _ _ _ _ z => z.elim, fun ss4 σ4 F4 H4 q4 R4 => ⟨F4, ss4, R4, q4, hin⟩⟩
  · obtain rfl : i = n := by omega
    obtain ⟨hfit, hbody⟩ := hx x ss' hx' hI
    exact tg_go (ws := []) (R'.grow n2) ix hfit (fun j _ => .inr rfl) fun σ3 R3 _ => .inr ⟨B, _, _, hbody, R1.unbase R3, q⟩
end
section
variable {T : List (Addr × Str)} {P : Program} {w : World} {K : PySem.W.Frag} {mg : Str → Option Value} {base : Heap} {x qual : Str} {st : Stmt} {f CC C : Addr} {fa : Str} {fd : FuncData} {cdv : Value} {N ps : List Str} {k n : Nat} {pre : List D → D → Prop}
theorem fe_ok (F : FunZ K x qual st f fd cdv) (S : FnScope N ps (defScope st)) (hn : ps.length = n)
    (h : ∀ (A : Around) (outer : List Env) (s : Shared) (H : Hp) (E : XK) (ds : List D) (d : D), Room k (A.deeper (envOfC qual (defScope st) s.heap.objs.size f cdv)) → ds.length = n → pre ds d →
      Takes (xX P w K mg base N qual st f cdv A outer s H E) (fun cls d _ H => E cls d H) → RE T (xX P w K mg base N qual st f cdv A outer s H E) (defBody st) (startS N ds) C fa d E) : FnOk P w K mg base (L2.CX P w) (k + 1) f fd ps (spE T K C fa n pre) :=
  F.ok S (fun vs H Q E ⟨F, ds, d, _, _, _, i, l, _⟩ => by rw [i.length, l, hn]) fun A outer s H vs Q E hr ⟨F0, ds, d, x, nt, tb, i, l, p, q⟩ =>
    ⟨_, h A outer s H E ds d hr l p (takes_of rfl rfl rfl rfl), (F0, H), F0, start_str x nt tb i, q⟩
theorem inite_ok (F : FunZ K x qual st f fd cdv) (S : FnScope N ps (defScope st)) (hn : ps.length = n + 1)
    (h : ∀ (A : Around) (outer : List Env) (s : Shared) (H : Hp) (E : XK) (p : Addr) (ds : List D) (d : D), Room k (A.deeper (envOfC qual (defScope st) s.heap.objs.size f cdv)) → ds.length = n → pre ds d →
      Takes (xX P w K mg base N qual st f cdv A outer s H E) (fun cls d _ H => E cls d H) → RE T (xX P w K mg base N qual st f cdv A outer s H E) (defBody st) (startO p CC N ds) C fa d E) : FnOk P w K mg base (L2.CX P w) (k + 1) f fd ps (spME T K CC C fa n pre) := by
  refine F.ok S (fun vs H Q E ⟨H0, F, p, dx, us, ds, d, e, _, _, _, _, _, _, _, i, l, _⟩ => by rw [e, hn, List.length_cons, i.length, l]) fun A outer s H vs Q E hr ⟨H0, F0, p, dx, us, ds, d, e, hp, hd, ne, eH, xF, nt, tb, i, l, pr, q⟩ => ?_
  subst e; subst eH
  exact ⟨_, h A outer s _ E p ds d hr l pr (takes_of rfl rfl rfl rfl), (F0, H0), F0, start_strO hp hd ne xF nt tb i, q⟩
/-- the def, in the runs in which it raises C with d -/
def FE (T : List (Addr × Str)) (P : Program) (w : World) (K : PySem.W.Frag) (mg : Str → Option Value) (base : Heap) (x : Str) (C : Addr) (fa : Str) (n k : Nat) (pre : List D → D → Prop) : Prop :=
  ∃ f fd ps, mg x = some (.ref f) ∧ PySem.W.keepIn K (.ref f) = true ∧ Binds K fd ps [] ∧ ps.length = n ∧ FnOk P w K mg base (L2.CX P w) k f fd ps (spE T K C fa n pre)
/-- the class, whose making raises -/
def MDE (T : List (Addr × Str)) (P : Program) (w : World) (K : PySem.W.Frag) (mg : Str → Option Value) (base : Heap) (x : Str) (CC C : Addr) (fa : Str) (n k : Nat) (pre : List D → D → Prop) : Prop :=
  ∃ f fd ps, mg x = some (.ref CC) ∧ Mk K CC f ∧ ps.length = n + 1 ∧ FnOk P w K mg base (L2.CX P w) k f fd ps (spME T K CC C fa n pre) ∧ Binds K fd ps []
/-- an own method, in the runs in which it raises -/
structure OwnE (T : List (Addr × Str)) (P : Program) (w : World) (K : PySem.W.Frag) (mg : Str → Option Value) (base : Heap) (CC : Addr) (m : Str) (C : Addr) (fa : Str) (n k : Nat) (pre : List D → D → Prop) : Prop where
  ex : ∃ f fd ps, Meth K CC m f ∧ FnOk P w K mg base (L2.CX P w) k f fd ps (spE T K C fa n pre) ∧ Binds K fd ps []
end
/-- e raises -/
def XE' (T : List (Addr × Str)) (X : Cx) (e : Expr) (ss : SS) (C : Addr) (f : Str) (d : D) (E : XK) : Prop := PE X e (fun σ H _ => ∃ B F, StR T X.K B F H σ ss ∧ JE T X.K (F, H) C f d E)
end Fd

set_option Elab.async false
set_option linter.all false
set_option maxRecDepth 100000
set_option maxHeartbeats 4000000
/-! Fd30: try: C(..) or o.m(..), except E as n: .. -/
namespace Fd
open PySem PySem.Spec PyProof.Rows L2 PySem.ExS
section
variable {X : Cx} {CX : CXT} {k : Nat} {f C : Addr} {fd : FuncData} {ps : List Str} {sp : Sp} {E : L2.St → XK} {x m : Str} {p pos apos : Pos} {e o : Expr} {es : List Expr} {t : TA} {to : TE}
/-- C(..): what its __init__ raises is wished for at the slots -/
theorem made_at {pins : List (Addr × Obj)} {σ : L2.St} {H : Hp} {s : Shared} {Q : VK} {us : List Value} {vs : List V} (M : Mk X.K C f) (F : FnOk X.prog X.w X.K X.mg X.base CX k f fd ps sp) (hr : Room (k + 1) X.A) (hb : Binds X.K fd ps []) (hx : PassesAt CX X σ (E σ)) (I : Inv X pins σ H s) (r : Vals vs us)
    (h : ∀ y dx, H y = none → H dx = none → dx ≠ y → sp (.ref y :: vs) (upd (upd H dx (.own y)) y (.ins C dx [])) (fun v H2 => v = .non ∧ Q (.ref y) H2) (E σ)) : wpAny (model X.prog X.w) X.A (call (.ref C) us) (EP X pins σ Q) X.xe s := by
  have q := h (s.heap.objs.size + 1) s.heap.objs.size (I.hok.fresh (Nat.le_succ _)) (I.hok.fresh (Nat.le_refl _)) (Nat.ne_of_lt (Nat.lt_succ_self _))
  have J := Inv.made (C := C) I
  have rv : Vals (V.ref (s.heap.objs.size + 1) :: vs) (Value.ref (s.heap.objs.size + 1) :: us) := .cons rfl r
  have len : (Value.ref (s.heap.objs.size + 1) :: us ++ []).length = ps.length := by
    rw [List.append_nil, ← rv.length]; exact F.len _ _ _ _ q
  have bnd := hb _ (Value.ref (s.heap.objs.size + 1) :: us) J.kIn len
  rw [List.append_nil] at bnd
  refine wpAny_call (make_map (f := f) I.kIn M.makes M.init (beq_iff_eq.mp M.fn) (codeAny_mono (F.run _ X.stack _ _ ⟨Value.ref (s.heap.objs.size + 1) :: us, []⟩ (Value.ref (s.heap.objs.size + 1) :: us) _ _ (E σ) (hr.make C us []) (J.env0.make C us []) bnd rv q) fun r s2 hq => ?_))
  rcases r with u | fl
  · exact hx pins _ _ u s2 J hq
  · cases fl with
    | ret u =>
      obtain ⟨v, H3, I3, r3, e3, q3⟩ := J.after hq
      subst e3
      exact ⟨r3, .ref _, H3, I3, rfl, q3⟩
    | next => exact hq.elim
    | brk => exact hq.elim
    | cont => exact hq.elim
theorem pe_makeAt (M : Mk X.K C f) (F : FnOk X.prog X.w X.K X.mg X.base CX k f fd ps sp) (hr : Room (k + 1) X.A) (hm : X.mg x = some (.ref C)) (hb : Binds X.K fd ps []) (hx : ∀ σ, PassesAt CX X σ (E σ)) (ha : PA X (e :: es) t) (hg : Gl X x := by rfl) (hdb : (x == ("__debug__" : Str)) = false := by decide)
    (he : starEach (e :: es) X.env = (false, eval e X.env) :: starEach es X.env := by rfl) (hpl : (backTo pos (starEach es X.env)).any (·.1) = false := by rfl) :
    PE X (.Call (.Name x p) (e :: es) [] pos) (fun σ H Q => t σ H fun vs H1 => ∀ y dx, H1 y = none → H1 dx = none → dx ≠ y → sp (.ref y :: vs) (upd (upd H1 dx (.own y)) y (.ins C dx [])) (fun v H2 => v = .non ∧ Q (.ref y) H2) (E σ)) :=
  ⟨fun pins s σ H Q I h => wpAny_Call_Name_kw (ld_glob I hg hm (PySem.W.callWith_K (h₀ := X.base) I.ok.mod.kin M.kp (thn (ha.run pos pins s σ H _ I h) fun us s1 ⟨vs, H1, I1, r, q⟩ => ⟨I1.kIn, made_at M F hr hb (hx σ) I1 r q⟩) he hpl) hdb)⟩
theorem pe_methAt {pl : Sem Bool} (ho : PE X o to) (c : Cls X.K C) (hm : Meth X.K C m f) (F : FnOk X.prog X.w X.K X.mg X.base CX k f fd ps sp) (hr : Room k X.A) (hb : Binds X.K fd ps []) (hx : ∀ σ, PassesAt CX X σ (E σ)) (ha : PA X (e :: es) t)
    (he : starEach (e :: es) X.env = (false, eval e X.env) :: starEach es X.env := by rfl) (hpl : (backTo pos (starEach es X.env)).any (·.1) = false := by rfl)
    (ht : eval (.Call (.Attribute o m apos) (e :: es) [] pos) X.env = (do
      let ov ← eval o X.env
      standAt apos.atName
      let (g, first) ← holding [ov] (getMethod ov m pl)
      callWith pos g first (backTo pos (starEach (e :: es) X.env)) (backToKw pos (keywordEach [] X.env))) := by rfl) :
    PE X (.Call (.Attribute o m apos) (e :: es) [] pos) (fun σ H Q => to σ H fun y H1 => ∃ (a dx : Addr) (fs : List (Str × V)), y = .ref a ∧ H1 a = some (.ins C dx fs) ∧ fs.lookup m = none ∧ t σ H1 fun vs H2 => sp (.ref a :: vs) H2 Q (E σ)) := by
  refine ⟨fun pins s σ H Q I h => PySem.W.methodCall_KW (pl := pl) (thn (ho.run pins s σ H _ I h) fun u s1 ⟨y, H1, I1, ry, a, dx, fs, ey, ea, l, q⟩ => ?_) ht⟩
  subst ey
  cases (show u = Value.ref a from ry)
  refine getmeth_ok I1 ea c hm l ?_
  exact PySem.W.callWith_K (first := [.ref a]) I1.kIn hm.kp (thn (ha.run pos pins s1 σ H1 _ I1 q) fun us s2 ⟨vs, H2, I2, r, q2⟩ => ⟨I2.kIn, run_fnS (us := Value.ref a :: us) (vs := V.ref a :: vs) F hr hb (hx σ) I2 (.cons rfl r) q2⟩) he hpl
end
section
variable {T : List (Addr × Str)} {X : Cx} {ss : SS} {P : Post} {e o call : Expr} {es : List Expr} {pos p p1 p2 p3 pa apos : Pos} {C CC : Addr} {f n x m : Str} {i k nn : Nat} {d : D} {ds : List D} {pre : List D → D → Prop} {W : WX} {ns : List Str} {xs : List D}
/-- a call that raises C with d, the wish at the slots -/
def XW (T : List (Addr × Str)) (X : Cx) (e : Expr) (ss : SS) (C : Addr) (f : Str) (d : D) (W : WX) : Prop := PE X e (fun σ H _ => ∃ B F, StR T X.K B F H σ ss ∧ ∀ a v F1 H1, Nx T F H F1 H1 → H1 a = some (.xd [(f, v)]) → F1 a = none → Fr H a → Is X.K F1 d v → W (.ref C) (some a) σ H1)
theorem xw_make (G : MDE T X.prog X.w X.K X.mg X.base x CC C f nn k pre) (tk : Takes X W) (hr : Room (k + 1) X.A) (ha : EVs T X (e :: es) ss ds) (hp : pre ds d) (hn : ds.length = nn := by rfl) (hg : Gl X x := by rfl) (hdb : (x == ("__debug__" : Str)) = false := by decide)
    (he : starEach (e :: es) X.env = (false, eval e X.env) :: starEach es X.env := by rfl) (hpl : (backTo pos (starEach es X.env)).any (·.1) = false := by rfl) : XW T X (.Call (.Name x p) (e :: es) [] pos) ss C f d W := by
  obtain ⟨g, fd, ps, h1, h2, h3, h4, h5⟩ := G
  refine PE.imp (pe_makeAt (E := WE W) h2 h4 hr h1 h5 (passAt tk) ha hg hdb he hpl) fun σ H Q ⟨B, F, R, q⟩ => evs_go R fun vs F1 H1 n1 R1 i1 => fun y dx hy hdx ne => ?_
  exact ⟨H1, F1, y, dx, vs, ds, d, rfl, hy, hdx, ne, rfl, R1.sub, R1.nt, R1.tb, i1, hn, hp, fun a v F2 H2 n2 h6 h7 h8 i2 => q a v F2 H2 (n1.trans n2) h6 h7 (n1.h.fr h8) i2⟩
theorem xw_meth {pl : Sem Bool} (ho : EV T X o ss (.ins CC ns xs)) (cl : Cls X.K CC) (nm : m ∉ ns) (G : OwnE T X.prog X.w X.K X.mg X.base CC m C f nn k pre) (tk : Takes X W) (hr : Room k X.A) (ha : EVs T X (e :: es) ss ds) (hp : pre (.ins CC ns xs :: ds) d) (hn : ds.length + 1 = nn := by rfl)
    (he : starEach (e :: es) X.env = (false, eval e X.env) :: starEach es X.env := by rfl) (hpl : (backTo pos (starEach es X.env)).any (·.1) = false := by rfl)
    (ht : eval (.Call (.Attribute o m apos) (e :: es) [] pos) X.env = (do
      let ov ← eval o X.env
      standAt apos.atName
      let (g, first) ← holding [ov] (getMethod ov m pl)
      callWith pos g first (backTo pos (starEach (e :: es) X.env)) (backToKw pos (keywordEach [] X.env))) := by rfl) : XW T X (.Call (.Attribute o m apos) (e :: es) [] pos) ss C f d W := by
  obtain ⟨g, fd, ps, h1, h2, h3⟩ := G.ex
  refine PE.imp (pe_methAt (E := WE W) (pl := pl) ho cl h1 h2 hr h3 (passAt tk) ha he hpl ht) fun σ H Q ⟨B, F, R, q⟩ => ev_go R fun v F1 H1 n1 R1 i1 => ?_
  obtain ⟨a, dx, fs, rfl, e1, e2, e3⟩ := id i1
  refine ⟨a, dx, fs, rfl, R1.sub _ _ e1, no_lookup (by rw [e2]; exact nm), evs_go R1 fun vs F2 H2 n2 R2 i2 => ?_⟩
  exact ⟨F2, .ins CC ns xs :: ds, d, R2.sub, R2.nt, R2.tb, .cons (Is.mono n2.f _ i1) i2, hn, hp, fun a v F3 H3 n3 h6 h7 h8 i3 => q a v F3 H3 ((n1.trans n2).trans n3) h6 h7 ((n1.trans n2).h.fr h8) i3⟩
/-- try: call / except C as n: suite -/
theorem sv_tryC {b0 : Stmt} {suite : List Stmt} (hX : ∀ (W : WX) (pn : List (Addr × Obj)) (xe : Value → Shared → Prop), Takes (X.tr pn xe) W → XW T (X.tr pn xe) call ss C f d W)
    (hsu : ∀ (a dd : Addr) (oe : Obj) (pn : List (Addr × Obj)), Zc (.ref C) (some dd) oe → (∃ vs, oe.data = .fields vs) → SVs T (X.suite a ((a, oe) :: pn)) (b0 :: suite) (ss.set i (.d (.hx a dd f d))) ⟨fun _ => False, P.rt, fun _ => False, fun _ => False⟩)
    (hxm : PySem.W.exmOne X.K (.ref C) (.ref C) = some true) (hm : X.mg x = some (.ref C)) (hN : X.N.Nodup) (hi : X.N[i]? = some n) (hln : X.env.kindOf n = some .local) (tk : Takes X (fun _ _ _ _ => False)) (hg : Gl X x := by rfl)
    (hstk : X.stack = X.env :: X.outer := by rfl) (hf : X.env.frame = some X.env.locals := by rfl) (hdx : (x == ("__debug__" : Str)) = false := by decide) (hs : swapsWith call none pos.line X.env = pure false := by rfl) :
    SV T X (.Try [.Expr call pos] [.ExceptHandler (some (.Name x p2)) (some n) (b0 :: suite) p3] [] [] p) ss P := by
  refine SV.of (ps_try_as (c := .ref C) (i := i) (Wout := fun _ _ _ _ => False) (tb := fun W D σ H => ∃ B F, StR T X.K B F H σ ss ∧ ∀ a v F1 H1, Nx T F H F1 H1 → H1 a = some (.xd [(f, v)]) → F1 a = none → Fr H a → Is X.K F1 d v → W (.ref C) (some a) σ H1)
    (ts := fun a cls dd D σ H => ∃ u, cls = .ref C ∧ dd = some u ∧ tSv T X.K (fun ss' P' => ss' = ss.set i (.d (.hx a u f d)) ∧ P' = ⟨fun _ => False, P.rt, fun _ => False, fun _ => False⟩) D σ H)
    hstk hf hN hi hln ⟨hg, hdx, .inl hm⟩ tk (fun W pn xe tk' _ => pss_one (ps_expr (hX W pn xe tk') hs)) (fun a oe cls dd pn hz hfl => ⟨fun pins s σ H D I ⟨u, e1, e2, q⟩ => ?_⟩)) fun B F H σ Dn R g => ?_
  · subst e1; subst e2
    exact (hsu a u oe pn hz hfl).run pins s σ H D I q
  · refine ⟨B, F, R, fun a0 v F1 H1 nx hxd hF hfr iv => ⟨true, hxm, fun _ a ha => ⟨a0, rfl, rfl, ?_⟩, fun z => nomatch z⟩⟩
    have n2 := nx.told hF hfr hxd
    have R1 := (R.grow n2).put (i := i) (x := .hx a a0 f d) (v := .ref a) ⟨rfl, v, upd_same, Is.mono (Ext.upd hF) _ iv⟩
    exact ⟨B, _, _, _, ⟨rfl, rfl⟩, R1, fun _ _ _ _ z => z.elim, fun d' v' ss' σ' F3 H3 k R3 i3 => g.rt d' v' ss' σ' F3 H3 k R3 i3, fun _ _ _ _ z => z.elim, fun _ _ _ _ z => z.elim⟩
/-- n.f of the handled exception -/
theorem ev_hx {a dd : Addr} {oe : Obj} {pn : List (Addr × Obj)} {ss' : SS} (i : Nat) (hss : ss'[i]? = some (.d (.hx a dd f d))) (xf : XfC X.K C) (hno : PySem.W.findIn X.K (.ref C) f = some none) (hz : Zc (.ref C) (some dd) oe) (hfl : ∃ vs, oe.data = .fields vs) (hi : X.N[i]? = some n) (hv : Vis X.env.scope n)
    (hd : (n == ("__debug__" : Str)) = false := by decide) (hcd : (n == ("__classdict__" : Str)) = false := by decide) (hb : attributeBase (.Name n p) f X.env (eval (.Name n p) X.env) = eval (.Name n p) X.env := by rfl) :
    EV T (X.suite a ((a, oe) :: pn)) (.Attribute (.Name n p) f pos) ss' d :=
  EV.of (pe_xf (X := X) xf hno hz hfl (pe_var (X := X.suite a ((a, oe) :: pn)) hi hv hd hcd) hb) fun B F H σ Q R q => by
    obtain ⟨v, e1, e2, u, e3, e4⟩ := R.get hss
    exact ⟨v, e1, e2, rfl, dd, _, u, rfl, R.sub _ _ e3, by simp, q u F H R.nx R e4⟩
end
end Fd

set_option Elab.async false
set_option linter.all false
set_option maxRecDepth 100000
set_option maxHeartbeats 4000000
/-! Fd31: in and not in of lists (data, one's own), insert, a comprehension as a list of one's own, count of a text, == of data and of flat things. -/
namespace Fd
open PySem PySem.Spec PyProof.Rows L2
/-! ### plain data, with its depth -/
structure Pd (d : D) (p : PyData) (n : Nat) : Prop where
  py : d.py = some p
  lay : p.canLay0 = true
  dep : p.depth ≤ n
structure PdL (ds : List D) (ps : List PyData) (n : Nat) : Prop where
  py : D.pys ds = some ps
  lay : PyData.canLayAll0 ps = true
  dep : PyData.depthAll ps ≤ n
theorem Pd.shaped {d : D} {p : PyData} {n : Nat} (h : Pd d p n) (hn : n ≤ 64 := by decide) : SeqAt.shaped p = true := by
  unfold SeqAt.shaped
  rw [h.lay]
  exact decide_eq_true (Nat.le_trans h.dep hn)
theorem Pd.str {x : Str} (h : PyData.strOk x = true) : Pd (.str x) (.str x) 0 := ⟨rfl, by unfold PyData.canLay0; exact h, by unfold PyData.depth; exact Nat.le_refl _⟩
theorem Pd.int (i : Int) : Pd (.int i) (.int i) 0 := ⟨rfl, by unfold PyData.canLay0; rfl, by unfold PyData.depth; exact Nat.le_refl _⟩
theorem Pd.non : Pd .non .none 0 := ⟨rfl, by unfold PyData.canLay0; rfl, by unfold PyData.depth; exact Nat.le_refl _⟩
theorem Pd.up {d : D} {p : PyData} {n m : Nat} (h : Pd d p n) (hm : n ≤ m := by decide) : Pd d p m := ⟨h.py, h.lay, Nat.le_trans h.dep hm⟩
theorem PdL.nil {n : Nat} : PdL [] [] n := ⟨rfl, by unfold PyData.canLayAll0; rfl, by unfold PyData.depthAll; exact Nat.zero_le _⟩
theorem PdL.cons {d : D} {p : PyData} {n : Nat} {ds : List D} {ps : List PyData} (h : Pd d p n) (t : PdL ds ps n) : PdL (d :: ds) (p :: ps) n :=
  ⟨by unfold D.pys; rw [h.py, t.py], by unfold PyData.canLayAll0; rw [h.lay, t.lay]; rfl, by unfold PyData.depthAll; exact Nat.max_le.mpr ⟨h.dep, t.dep⟩⟩
theorem Pd.lst {ds : List D} {ps : List PyData} {n : Nat} (h : PdL ds ps n) : Pd (.lst ds) (.list ps) (n + 1) := ⟨by unfold D.py; rw [h.py]; rfl, by unfold PyData.canLay0; exact h.lay, by unfold PyData.depth; exact Nat.succ_le_succ h.dep⟩
theorem Pd.tup {ds : List D} {ps : List PyData} {n : Nat} (h : PdL ds ps n) : Pd (.tup ds) (.tuple ps) (n + 1) := ⟨by unfold D.py; rw [h.py]; rfl, by unfold PyData.canLay0; exact h.lay, by unfold PyData.depth; exact Nat.succ_le_succ h.dep⟩
theorem PdL.map {α : Type} {f : α → D} {g : α → PyData} {n : Nat} : ∀ {l : List α}, (∀ x ∈ l, Pd (f x) (g x) n) → PdL (l.map f) (l.map g) n
  | [], _ => .nil
  | x :: l, h => .cons (h x List.mem_cons_self) (PdL.map fun y hy => h y (List.mem_cons_of_mem _ hy))
theorem PdL.strs {zs : List Str} (h : ∀ z ∈ zs, PyData.strOk z = true) : PdL (zs.map D.str) (zs.map PyData.str) 0 := .map fun z hz => .str (h z hz)
theorem eqv_self {d : D} {p : PyData} {n : Nat} (h : Pd d p n) : PyData.eqv p p = true := SeqAt.eqv_refl _ h.lay
theorem any_strs (zs : List Str) (x : Str) : (zs.map PyData.str).any (fun z => PyData.eqv z (.str x)) = decide (x ∈ zs) := by
  induction zs with
  | nil => rfl
  | cons z zs ih =>
    rw [List.map_cons, List.any_cons, ih, eqv_str]
    by_cases h : z = x
    · subst h; simp
    · have : ¬ x = z := fun e => h e.symm
      simp [h, this]
section
variable {T : List (Addr × Str)} {X : Cx} {ss : SS} {P : Post} {st : Stmt} {a b e o : Expr} {x y : Str} {d d2 : D} {xs ys : List D} {px p p1 p2 p3 pos pos' apos cpos : Pos} {n k m : Nat} {q1 q2 : PyData} {ps : List PyData} {i : Int}
theorem room65 (hr : Room k X.A) : X.A.units + 65 < cLine := by have := hr.un; omega
/-! ### in -/
theorem tv_inL (hr : Room k X.A) (ha : EV T X a ss d) (hb : EV T X b ss (.lst xs)) (h1 : Pd d q1 n) (h2 : PdL xs ps m) (hn : n ≤ 64 := by decide) (hm : m ≤ 63 := by decide) (hm1 : behindInMarks .In b = false := by rfl) : TV T X (.Compare a [.In] [b] pos) ss (ps.any fun z => PyData.eqv z q1) :=
  tv_cmp (op_inD (room65 hr)) ha hb (fun B F H σ v u Q R i1 i2 q => ⟨q1, ps, py_dp R.sub _ i1 h1.py, py_dp R.sub _ i2 (Pd.lst h2).py, h1.shaped hn, (Pd.lst h2).shaped (by omega), q F H R.nx R⟩) hm1
theorem tv_notInL (hr : Room k X.A) (ha : EV T X a ss d) (hb : EV T X b ss (.lst xs)) (h1 : Pd d q1 n) (h2 : PdL xs ps m) (hn : n ≤ 64 := by decide) (hm : m ≤ 63 := by decide) (hm1 : behindInMarks .NotIn b = false := by rfl) : TV T X (.Compare a [.NotIn] [b] pos) ss (!ps.any fun z => PyData.eqv z q1) :=
  tv_cmp (op_notInD (room65 hr)) ha hb (fun B F H σ v u Q R i1 i2 q => ⟨q1, ps, py_dp R.sub _ i1 h1.py, py_dp R.sub _ i2 (Pd.lst h2).py, h1.shaped hn, (Pd.lst h2).shaped (by omega), q F H R.nx R⟩) hm1
theorem own_dp {B : Hp × Hp} {F H : Hp} {σ : L2.St} (R : StR T X.K B F H σ ss) {j : Nat} (hx : ss[j]? = some (.own xs)) (h2 : D.pys xs = some ps) : ∃ v, σ[j]? = some (some v) ∧ Dp X.K H v (.list ps) := by
  have hj : j < ss.length := (List.getElem?_eq_some_iff.mp hx).1
  have hs : j < σ.length := by rw [R.len]; exact hj
  obtain ⟨l, vs, e1, e2, e3, e4⟩ := R.slots j _ _ hx (List.getElem?_eq_getElem hs)
  exact ⟨.ref l, by rw [List.getElem?_eq_getElem hs, e1], .lst (SqL.of e3) (pys_dp R.sub xs e4 h2)⟩
theorem tv_inOwn (j : Nat) (hx : ss[j]? = some (.own xs)) (hr : Room k X.A) (ha : EV T X a ss d) (h1 : Pd d q1 n) (h2 : PdL xs ps m) (hn : n ≤ 64 := by decide) (hm : m ≤ 63 := by decide) (hp : PE X (.Name x px) (tVar j) := by exact pv _) (hm1 : behindInMarks .In (.Name x px) = false := by rfl) :
    TV T X (.Compare a [.In] [.Name x px] pos) ss (ps.any fun z => PyData.eqv z q1) :=
  TV.of (pt_cmpR (op_inD (room65 hr)) ha hp hm1) fun B F H σ Q R q => ev_go R fun v F1 H1 n1 R1 i1 => by
    obtain ⟨u, e1, e2⟩ := own_dp R1 hx h2.py
    exact ⟨u, e1, q1, ps, py_dp R1.sub _ i1 h1.py, e2, h1.shaped hn, (Pd.lst h2).shaped (by omega), _, rfl, q F1 H1 n1 R1⟩
theorem tv_notInOwn (j : Nat) (hx : ss[j]? = some (.own xs)) (hr : Room k X.A) (ha : EV T X a ss d) (h1 : Pd d q1 n) (h2 : PdL xs ps m) (hn : n ≤ 64 := by decide) (hm : m ≤ 63 := by decide) (hp : PE X (.Name x px) (tVar j) := by exact pv _) (hm1 : behindInMarks .NotIn (.Name x px) = false := by rfl) :
    TV T X (.Compare a [.NotIn] [.Name x px] pos) ss (!ps.any fun z => PyData.eqv z q1) :=
  TV.of (pt_cmpR (op_notInD (room65 hr)) ha hp hm1) fun B F H σ Q R q => ev_go R fun v F1 H1 n1 R1 i1 => by
    obtain ⟨u, e1, e2⟩ := own_dp R1 hx h2.py
    exact ⟨u, e1, q1, ps, py_dp R1.sub _ i1 h1.py, e2, h1.shaped hn, (Pd.lst h2).shaped (by omega), _, rfl, q F1 H1 n1 R1⟩
/-! ### == of data, of flat things -/
theorem ev_eqP (hr : Room k X.A) (ha : EV T X a ss d) (hb : EV T X b ss d2) (h1 : Pd d q1 n) (h2 : Pd d2 q2 m) (hn : n ≤ 64 := by decide) (hm : m ≤ 64 := by decide) (hm1 : behindInMarks .Eq b = false := by first | exact nomark _ | rfl) : EV T X (.Compare a [.Eq] [b] pos) ss (.bl (PyData.eqv q1 q2)) :=
  ev_cmpD (opD_eq hr) ha hb ⟨q1, q2, h1.py, h2.py, h1.shaped hn, h2.shaped hm, rfl⟩ hm1
/-- .. where something is handled -/
theorem ev_eqPU (hu : X.A.units + 64 < cLine) (ha : EV T X a ss d) (hb : EV T X b ss d2) (h1 : Pd d q1 n) (h2 : Pd d2 q2 m) (hn : n ≤ 64 := by decide) (hm : m ≤ 64 := by decide) (hm1 : behindInMarks .Eq b = false := by first | exact nomark _ | rfl) : EV T X (.Compare a [.Eq] [b] pos) ss (.bl (PyData.eqv q1 q2)) :=
  ev_cmp (op_eqD hu) ha hb (fun B F H σ v u Q R i1 i2 q => ⟨q1, q2, py_dp R.sub _ i1 h1.py, py_dp R.sub _ i2 h2.py, h1.shaped hn, h2.shaped hm, q _ F H R.nx R rfl⟩) hm1
theorem ev_eqB {t u : Bool} (ha : EV T X a ss (.bl t)) (hb : EV T X b ss (.bl u)) (hm1 : behindInMarks .Eq b = false := by first | exact nomark _ | rfl) : EV T X (.Compare a [.Eq] [b] pos) ss (.bl (t == u)) :=
  ev_cmp op_eq ha hb (fun B F H σ v w Q R i1 i2 q => by
    cases (show v = .bl t from i1); cases (show w = .bl u from i2)
    exact ⟨rfl, q _ F H R.nx R (by show V.bl _ = V.bl _; rw [dec_bl])⟩) hm1
theorem tv_neB {t u : Bool} (ha : EV T X a ss (.bl t)) (hb : EV T X b ss (.bl u)) (hm1 : behindInMarks .NotEq b = false := by first | exact nomark _ | rfl) : TV T X (.Compare a [.NotEq] [b] pos) ss (!(t == u)) :=
  tv_cmp op_ne ha hb (fun B F H σ v w Q R i1 i2 q => by
    cases (show v = .bl t from i1); cases (show w = .bl u from i2)
    refine ⟨rfl, ?_⟩
    rw [dec_bl]
    exact q F H R.nx R) hm1
/-- None or a whole number on either side -/
def oI : Option Nat → D
  | none => .non
  | some j => .int (j : Nat)
theorem ev_eqO {s t : Option Nat} (ha : EV T X a ss (oI s)) (hb : EV T X b ss (oI t)) (hm1 : behindInMarks .Eq b = false := by first | exact nomark _ | rfl) : EV T X (.Compare a [.Eq] [b] pos) ss (.bl (decide (s = t))) :=
  ev_cmp op_eq ha hb (fun B F H σ v w Q R i1 i2 q => by
    have key : ∀ {s : Option Nat} {v : V}, Is X.K F (oI s) v → v = (match s with | none => V.non | some j => V.int (j : Nat)) := fun {s v} h => by cases s <;> exact h
    rw [key i1, key i2]
    cases s with
    | none => cases t with
      | none => exact ⟨rfl, q _ F H R.nx R rfl⟩
      | some j => exact ⟨rfl, q _ F H R.nx R rfl⟩
    | some i => cases t with
      | none => exact ⟨rfl, q _ F H R.nx R rfl⟩
      | some j =>
        refine ⟨rfl, q _ F H R.nx R ?_⟩
        show V.bl _ = V.bl _
        rw [dec_int]
        by_cases h : i = j
        · subst h; simp
        · have h2 : ((i : Int) == (j : Int)) = false := by rw [beq_eq_false_iff_ne]; omega
          rw [h2]; simp [h]) hm1
/-! ### x.insert(i, e) -/
theorem sv_insert (j : Nat) (hx : ss[j]? = some (.own xs)) (ha : EV T X a ss (.int i)) (he : EV T X e ss d) (kk : P.nx (ss.set j (.own (xs.take i.toNat ++ [d] ++ xs.drop i.toNat)))) (hl : xs.length ≤ 100000) (h0 : 0 ≤ i) (h1 : i < 1000000)
    (hp : ∀ {ta te : TE}, PE X a ta → PE X e te → PE X (.Call (.Attribute (.Name x px) "insert" apos) [a, e] [] cpos) (tBM X.K "list" (fun x vs H Q => ∃ (l : Addr) (xs : List V) (i : Int) (y : V), x = .ref l ∧ vs = [.int i, y] ∧ H l = some (.lst xs) ∧ xs.length < sizeLine ∧ 0 ≤ i ∧ i < 2 ^ 63 ∧ Q .non (upd H l (.lst (xs.take i.toNat ++ [y] ++ xs.drop i.toNat)))) (tVar j) (tCons ta (tCons te tNil))) := by
      intro ta te g g2; exact pe_bm PySem.F.plainAttrs_list PySem.F.slot_list_insert PySem.F.type_list_insert mt_insert (pv _) (pa_cons g (pa_cons g2 pa_nil)))
    (hs : swapsWith (.Call (.Attribute (.Name x px) "insert" apos) [a, e] [] cpos) none pos.line X.env = pure false := by rfl) : SV T X (.Expr (.Call (.Attribute (.Name x px) "insert" apos) [a, e] [] cpos) pos) ss P := by
  refine SV.of (ps_expr (hp ha he) hs) fun B F H σ Dn R g => ?_
  have hj : j < ss.length := (List.getElem?_eq_some_iff.mp hx).1
  have hsl : j < σ.length := by rw [R.len]; exact hj
  obtain ⟨l, vs, e1, e2, e3, e4⟩ := R.slots j _ _ hx (List.getElem?_eq_getElem hsl)
  have hσ : σ[j]? = some (some (.ref l)) := by rw [List.getElem?_eq_getElem hsl, e1]
  refine ⟨.ref l, hσ, .inl ⟨rfl, vs, SqL.of e3⟩, ev_go R fun v F1 H1 n1 R1 i1 => ev_go R1 fun w F2 H2 n2 R2 i2 => ?_⟩
  cases (show v = .int i from i1)
  obtain ⟨l', vs', q1, q2, q3, q4⟩ := R2.slots j _ _ hx (List.getElem?_eq_getElem hsl)
  rw [q1] at e1
  cases e1
  refine ⟨l, _, i, w, rfl, rfl, q3, by rw [q4.length, sizeLine_eq]; omega, h0, Int.lt_trans h1 (by decide), g.nx _ _ _ _ kk (R2.chg hx rfl hσ rfl q2 ⟨l, _, rfl, q2, upd_same, ?_⟩)⟩
  exact ((q4.take _).append (.cons i2 .nil)).append (q4.drop _)
/-! ### y = [..]: one's own -/
theorem sv_lcOwn {elt tg it : Expr} {ifs : List Expr} {scope : Scope} {spos py : Pos} (j : Nat) (own : List (Str × Nat)) (t : Tg) (keep : D → Bool) (f : D → D) (hi : IV T X tg it ss xs) (ok : BlkOk X.N X.env.scope scope own)
    (hg : ∀ (s : Shared) (H : Hp) (C : Addr) (cl : List (Str × Addr)) (fp : List Addr), PG (X.blk s H scope (compEnvC scope cl C X.env) fp) tg (gOf X.K t))
    (ht : ∀ (s : Shared) (H : Hp) (C : Addr) (cl : List (Str × Addr)) (fp : List Addr) x, x ∈ xs → TsV T (X.blk s H scope (compEnvC scope cl C X.env) fp) ifs (t.put x (wipeS ss (own.map (·.2)))) (keep x))
    (he : ∀ (s : Shared) (H : Hp) (C : Addr) (cl : List (Str × Addr)) (fp : List Addr) x, x ∈ xs → keep x = true → EV T (X.blk s H scope (compEnvC scope cl C X.env) fp) elt (t.put x (wipeS ss (own.map (·.2)))) (f x))
    (kk : P.nx (ss.set j (.own (outs keep f xs)))) (hN : X.N.Nodup) (hfit : ∀ x ∈ xs, t.fits x = true) (hlen : xs.length ≤ 100000) (hsw : swapsWith (.ListComp elt [⟨tg, it, ifs, 0⟩] scope pos) (some (.Name y py)) spos.line X.env = pure true) (hy : X.N[j]? = some y := by rfl) (hyl : X.env.scope.names.lookup y = some .local := by rfl)
    (hv : own.map (·.2) ≠ [] := by decide) (hsl : ∀ j ∈ t.slots, j ∈ own.map (·.2) := by decide) (hc : X.calm = true := by rfl) (hs : ∀ x, foldedSetIterable it X.env x = pure x := by intro _; rfl) :
    SV T X (.Assign [.Name y py] (.ListComp elt [⟨tg, it, ifs, 0⟩] scope pos) spos) ss P := by
  refine SV.of (ps_setLc (i := j) (tt := tTv T X.K fun ss' b => ∃ x ∈ xs, ss' = t.put x (wipeS ss (own.map (·.2))) ∧ b = keep x) (te := tEv T X.K fun ss' d => ∃ x ∈ xs, keep x = true ∧ ss' = t.put x (wipeS ss (own.map (·.2))) ∧ d = f x) hc hN hy hyl hsw hi ok hg (fun s H C cl fp => pts_fam (X := X.blk s H scope (compEnvC scope cl C X.env) fp) (Rl := fun ss' b => ∃ x ∈ xs, ss' = t.put x (wipeS ss (own.map (·.2))) ∧ b = keep x) fun ss' b ⟨x, hx, e1, e2⟩ => by rw [e1, e2]; exact ht s H C cl fp x hx)
    (fun s H C cl fp => pe_fam (X := X.blk s H scope (compEnvC scope cl C X.env) fp) (Rl := fun ss' d => ∃ x ∈ xs, keep x = true ∧ ss' = t.put x (wipeS ss (own.map (·.2))) ∧ d = f x) fun ss' d ⟨x, hx, hk, e1, e2⟩ => by rw [e1, e2]; exact he s H C cl fp x hx hk) hs) fun B F H σ Dn R g => ?_
  refine lc_go hv hsl hfit hlen R fun D vs' F1 H1 n1 R1 f1 b1 h1 d1 i1 => ?_
  refine g.nx _ _ F1 H1 kk (R1.putOwn rfl ⟨D, vs', rfl, f1, d1, i1⟩ b1 fun l t' _ e1 e2 z => ?_)
  obtain ⟨p', w1, w2, w3⟩ := R.mine_at e1 e2
  rw [z] at w1
  cases w1
  cases hH : H D with
  | none => exact w3 hH
  | some o' =>
    obtain ⟨ps, rfl⟩ := h1 o' hH
    exact R.plain e1 e2 z _ hH (.inl ⟨ps, rfl⟩)
end
end Fd

set_option Elab.async false
set_option linter.all false
set_option maxRecDepth 100000
set_option maxHeartbeats 4000000
/-! Fd32: enumerate of a tuple; count of a text in a list of texts. -/
namespace EnT
open PySem PySem.Spec PyProof.Rows L2
theorem news {v : Value} {o : Obj} {G : Heap → Prop} (B : Begins v o G) : Meets (Builtin.«enumerate.__new__» ⟨[.type "enumerate", v], []⟩) (fun _ R s => G s.heap ∧
    R (.ok (.ret (.ref (s.heap.push o).objs.size))) { s with heap := (s.heap.push o).push { cls := .type "enumerate", data := .fields #[.none, .bool false, .ref s.heap.objs.size, rawInt 0, .none, .none] } }) :=
  .of_wp fun prog w A R s ⟨g1, g2⟩ => by
    obtain ⟨hp, g, d, tk, os⟩ := s
    have sb := sub_enumerate
    have go : ∀ {A' : Around} {E : Value → Shared → Prop} {Q : Value → Shared → Prop}, Q (.ref hp.objs.size) ⟨hp.push o, g, d, tk, os⟩ → wpAny (model prog w) A' (pyIter v) Q E ⟨hp, g, d, tk, os⟩ := fun q => B.iter prog w _ _ ⟨hp, g, d, tk, os⟩ _ g1 q
    wp_walk using go
    refine wpAny_stack_any fun st => wpAny_pure ?_; split
    · rename_i c _ _ _ _ _; cases (c == Value.type "enumerate") <;> (wp_walk using go; exact ⟨_, rfl, g2⟩)
    · (wp_walk using go); exact ⟨_, rfl, g2⟩
/-- enumerate(v) begins -/
theorem starts {prog : Program} {w : World} {A : Around} {E : Value → Shared → Prop} {s : Shared} {v : Value} {o : Obj} {G : Heap → Prop} {Q : Value → Shared → Prop} (B : Begins v o G) (g : G s.heap)
    (q : ∀ h', IsEnum h' (s.heap.objs.size + 1) s.heap.objs.size 0 .none → h'.get? s.heap.objs.size = some o → (∀ b o, s.heap.get? b = some o → h'.get? b = some o) → Q (.ref (s.heap.objs.size + 1)) { s with heap := h' }) :
    wpAny (model prog w) A (call (.type "enumerate") [v]) Q E s := by
  have sz : (s.heap.push o).objs.size = s.heap.objs.size + 1 := Heap.size_push ..
  have at1 := Heap.get?_push_size (s.heap.push o) (o := { cls := .type "enumerate", data := .fields #[.none, .bool false, .ref s.heap.objs.size, rawInt 0, .none, .none] }) rfl
  rw [sz] at at1
  refine callType_new F.called_enumerate (by decide) (F.typeCall_enumerate_1 _) (F.newCall_enumerate_1 _) (fun u => F.args_object_init_2 u _) F.entry_enumerate_new (news B) ⟨g, (show _ ∧ _ from ?_)⟩; rw [sz]
  exact ⟨⟨_, at1, rfl⟩, q _ at1 (Heap.get?_push_of_some _ (Heap.get?_push_size _ B.free)) fun b o' e => Heap.get?_push_of_some _ (Heap.get?_push_of_some _ e)⟩
/-- the items of the tuple at a, each in a new pair -/
def IteT (K : PySem.W.Frag) (a : Addr) : It :=
  ⟨fun i H => ∃ (xs : List V) (x : V), SqT K H a xs ∧ xs[i]? = some x, fun i H v H' => ∃ T x, v = .ref T ∧ H T = none ∧ H' = upd H T (.tup [.int (i : Nat), x]) ∧ ∀ xs, SqT K H a xs → xs[i]? = some x, fun i H => ∃ xs : List V, SqT K H a xs ∧ xs.length ≤ i⟩
theorem turn {P : Program} {w : World} {K : PySem.W.Frag} {elts : List Expr} {kk : Nat} {tpos : Pos} (a e it : Addr) (hea : e ≠ a) (hia : a ≠ it) :
    Turn P w K (.Tuple elts kk tpos) (IteT K a) [e, it] e (fun i h => (∃ old, IsEnum h e it ((i : Nat) : Int) old) ∧ h.IsTupleIter it a i ∧ e ≠ it) where
  mem := by simp
  obj := fun i h st b hb => by
    obtain ⟨⟨old, g1⟩, ⟨o, g2, g3, g4⟩, _⟩ := st
    simp only [List.mem_cons, List.not_mem_nil, or_false] at hb
    rcases hb with rfl | rfl
    · exact ⟨_, g1, fun v z => nomatch z⟩
    · exact ⟨o, g2, fun v z => by rw [g4] at z; cases z⟩
  keep := fun i h h' ⟨⟨old, g1⟩, g2, g3⟩ k => ⟨⟨old, k e (by simp) _ g1⟩, g2.at fun o z => k it (by simp) o z, g3⟩
  item := by
    intro X hP hw hK hc i pins s σ H E I hf st ⟨xs, x, hq, hx⟩
    subst hP hw hK
    obtain ⟨⟨old, g1⟩, g2, g3⟩ := st
    obtain ⟨its, rv, tp, hz⟩ := I.tuple hq
    obtain ⟨u, hu, ru⟩ := rv.get hx
    have le : e < s.heap.objs.size := Heap.lt_size g1
    have li : it < s.heap.objs.size := by obtain ⟨_, z, _⟩ := g2; exact Heap.lt_size z
    have tp' : s.heap.IsTuple a its.toArray := tp
    have hlt : i < its.toArray.size := by rw [List.size_toArray]; exact (List.getElem?_eq_some_iff.mp hu).1
    have hd := I.ok.hd hc
    refine wpAny_pyNext_enum_itemD (Draws.tuple (A := X.A.in1) (by simp [hd]) it a hia its.toArray) g1 ⟨g2, tp'⟩ hlt g3 (by simp [g3, hea]) fun y h' tk hy out st' hT sz hk => ?_
    have ey : y = u := by
      have : its[i]? = some y := by simpa using hy
      rw [hu] at this; exact (Option.some.inj this).symm
    subst ey
    refine ⟨_, rfl, wpAny_letOwnedTupleGo_enum (s := { s with heap := h', toks := tk + 1 }) out fun h2 en sb => ?_⟩
    have hT2 := (sb.2 _ (Nat.ne_of_gt le)).trans hT
    have new : ObjOk X.prog X.w (upd H s.heap.objs.size (.tup [.int (i : Nat), x])) h2 s.heap.objs.size (.tup [.int (i : Nat), x]) := ⟨by show 2 ≤ sizeLine; decide, [.int i tk, y], .cons ⟨_, rfl⟩ (.cons ru .nil), ⟨_, hT2, rfl, _, rfl⟩⟩
    have J : Inv X pins σ (upd H s.heap.objs.size (.tup [.int (i : Nat), x])) { s with heap := h2, toks := tk + 1 } := I.turnedNew (ch := [e, it]) (fun b o hb z => (sb.2 b fun q => hb (by simp [q])).trans (hk b o (fun q => hb (by simp [q])) (fun q => hb (by simp [q])) z)) hf (Nat.le_refl _) new
    refine ⟨.ref s.heap.objs.size, _, J, rfl, ⟨_, x, rfl, I.hok.fresh (Nat.le_refl _), rfl, fun ys hy => by rw [I.tuple_inj hy hq]; exact hx⟩, ⟨⟨y, ?_⟩, st'.1.at fun o q => (sb.2 it (Ne.symm g3)).trans q, g3⟩, fun b hb => ?_⟩
    · rw [show ((i + 1 : Nat) : Int) = (i : Int) + 1 by omega]; exact en
    · have lb : b < s.heap.objs.size := by
        simp only [List.mem_cons, List.not_mem_nil, or_false] at hb
        rcases hb with rfl | rfl
        · exact le
        · exact li
      rw [upd_ne (Nat.ne_of_lt lb)]; exact (hf b hb).1
  done := by
    intro X hP hw hK hc i pins s σ H E I hf st ⟨xs, hq, hx⟩
    subst hP hw hK
    obtain ⟨⟨old, g1⟩, g2, g3⟩ := st
    obtain ⟨its, rv, tp, hz⟩ := I.tuple hq
    have tp' : s.heap.IsTuple a its.toArray := tp
    obtain ⟨f0, f1, f2, f3, f4, f5⟩ := hf it (by simp)
    have hd := I.ok.hd hc
    have hl := rv.length
    have none_at : its.toArray[i]? = none := by simp; omega
    have hT : s.TypeIs (.ref e) "enumerate" := ⟨_, g1, rfl⟩
    unfold pyNext
    refine wpAny_bind (wpAny_attempt (wpAny_callSpecial?_slot (name := Str.ofString "__next__") hT F.slot_enumerate_next (wpAny_call_entry F.slot_enumerate_next hT F.entry_enumerate_next (show wpAny _ _ (field (.ref e) 2 >>= _) _ _ _ from ?_) (F.args_enumerate_next_1 _))))
    refine wpAny_bind (wpAny_field g1 rfl (x := .ref it) rfl (wpAny_bind (wpAny_nextOf_tuple_end (by simp [hd]) g2 tp' none_at fun h' x eb ⟨o, ho, hcl⟩ => wpAny_bind (wpAny_isInstance (T := "StopIteration") (b := true) ⟨o, ho, hcl⟩ isSubtype_stop ?_))))
    exact wpAny_pure ⟨rfl, I.turned (t' := s.toks) (fun b o hb q => eb b o hb q) f0 f1 f3 f4 f5⟩
  self := fun A i s Q E st h => let ⟨⟨_, g1⟩, _⟩ := st; wpAny_pyIter_enum g1 h
theorem pi_enumT {X : Cx} {e : Expr} {ta : TA} {p pos tpos : Pos} {elts : List Expr} {kk : Nat} (hg : Gl X "enumerate") (hm : X.mg "enumerate" = none) (ha : PA X [e] ta) (hs : starEach [e] X.env = [(false, eval e X.env)] := by rfl) :
    PI X (.Tuple elts kk tpos) (.Call (.Name "enumerate" p) [e] [] pos) (fun σ H R => ta σ H fun vs H1 => ∃ a xs, vs = [.ref a] ∧ SqT X.K H1 a xs ∧ R (IteT X.K a) H1) := by
  refine ⟨fun pins s σ H R I h => Call_ (ld_blt I hg hm boot_enumerate (PyProof.Rows.callWith_type1 (thn (ha.run pos pins s σ H _ I h) fun us s1 ⟨vs, H1, I1, r1, a, xs, ex, hq, q⟩ => ?_) hs rfl))⟩
  subst ex
  obtain ⟨u, rfl, ru⟩ := r1.one
  cases (show u = Value.ref a from ru)
  obtain ⟨its, rv, tp, hz⟩ := I1.tuple hq
  have tp' : s1.heap.IsTuple a its.toArray := tp
  have la : a < s1.heap.objs.size := by obtain ⟨_, z, _⟩ := tp; exact Heap.lt_size z
  refine starts (begins_tuple a its.toArray) tp' fun h' en at1 hk => wpAny_pyIter_enum en ?_
  have J : Inv X pins σ H1 { s1 with heap := h' } := I1.kept (t' := s1.toks) hk
  refine ⟨s1.heap.objs.size + 1, [s1.heap.objs.size + 1, s1.heap.objs.size], _, _, H1, rfl, J, turn a (s1.heap.objs.size + 1) s1.heap.objs.size (Nat.ne_of_gt (Nat.lt_succ_of_lt la)) (Nat.ne_of_lt la), ⟨⟨.none, en⟩, ⟨_, at1, rfl, rfl⟩, Nat.succ_ne_self _⟩, fun b hb => ?_, q⟩
  have lb : s1.heap.objs.size ≤ b := by
    simp only [List.mem_cons, List.not_mem_nil, or_false] at hb
    rcases hb with rfl | rfl
    · exact Nat.le_succ _
    · exact Nat.le_refl _
  exact I1.fpOk lb (I1.hok.fresh lb)
end EnT
namespace Fd
open PySem PySem.Spec PyProof.Rows L2
section
variable {T : List (Addr × Str)} {X : Cx} {ss : SS} {e o : Expr} {xs : List D} {p pos ap cp tpos : Pos} {elts : List Expr} {kk : Nat} {zs : List Str} {z : Str}
theorem iv_enumT (ha : EV T X e ss (.tup xs)) (hm : X.mg "enumerate" = none) (hg : Gl X "enumerate" := by rfl) (hs : starEach [e] X.env = [(false, eval e X.env)] := by rfl) : IV T X (.Tuple elts kk tpos) (.Call (.Name "enumerate" p) [e] [] pos) ss (nums 0 xs) :=
  IV.of (EnT.pi_enumT hg hm (evs_cons ha evs_nil hs) hs) fun B F H σ R R0 q => evs_go R0 fun vs F1 H1 n1 R1 i1 => by
    obtain ⟨v, rfl, h1⟩ := isL1 i1
    obtain ⟨a, us, rfl, a1, a2⟩ := h1
    refine ⟨a, us, rfl, ext_seqT R1.sub a1, q _ F1 H1 n1 R1 ⟨fun i F H x1 x2 hi => ?_, fun F H x1 x2 => ?_⟩⟩
    · have hl : i < xs.length := by rw [nums_len] at hi; exact hi
      have sa : SqT X.K H a us := ext_seqT (x1.trans x2) a1
      obtain ⟨v, hv, iv⟩ := IsL.get' a2 (List.getElem?_eq_getElem hl)
      refine ⟨⟨us, v, sa, hv⟩, fun x H' y => ?_⟩
      obtain ⟨T', v', rfl, hT, rfl, g1⟩ := y
      have e1 := g1 us sa
      rw [hv] at e1
      cases e1
      obtain ⟨n, it⟩ := pair_new (K := X.K) (x := .int (i : Nat)) (v := .int (i : Nat)) x2 hT rfl (Is.mono x1 _ iv)
      refine ⟨_, _, n, nums_get xs 0 i _ (List.getElem?_eq_getElem hl), ?_⟩
      rw [Nat.zero_add]
      exact it
    · exact ⟨us, ext_seqT (x1.trans x2) a1, by rw [a2.length, nums_len]; exact Nat.le_refl _⟩
/-! ### x.count(z) of texts -/
def isZ (z : Str) : Value → Bool
  | .str y _ => decide (y = z)
  | _ => false
def rCntS (K : PySem.W.Frag) : V → List V → Hp → VK → Prop := fun x xs H Q => ∃ (p : Addr) (zs : List Str) (z : Str), x = .ref p ∧ xs = [.str z] ∧ SqL K H p (zs.map V.str) ∧ Q (.int (zs.count z : Nat)) H
theorem cnt_strs (z : Str) : ∀ {zs : List Str} {us : List Value}, Vals (zs.map V.str) us → us.countP (isZ z) = zs.count z
  | [], _, .nil => rfl
  | y :: ys, _, .cons r t => by
    obtain ⟨k, rfl⟩ := r
    rw [List.countP_cons, List.count_cons, cnt_strs z t]
    by_cases h : y = z
    · subst h; simp [isZ]
    · have : (y == z) = false := beq_eq_false_iff_ne.mpr h
      simp [isZ, h, this]
theorem mt_cntS : MtR X "list.count" (rCntS X.K) := by
  intro pins s σ H x xs v us Q I rx rxs h
  obtain ⟨l, zs, z, rfl, rfl, hs, q⟩ := h
  cases rx
  obtain ⟨u, rfl, ru⟩ := rxs.one
  obtain ⟨tk, rfl⟩ : ∃ tk, u = Value.str z tk := ru
  obtain ⟨its, rv, ⟨⟨cls, dd, data, sl⟩, n, ho, hc, hdn, hd⟩, hlen⟩ := I.list hs
  simp only at hc hd
  subst hc hd
  refine call_meets PySem.F.slot_list_count ⟨_, ho, rfl⟩ PySem.F.entry_list_count (PySem.F.args_list_count_2 _ _) (SeqAt.list_countAt l its.toArray n dd sl (.str z tk) (isZ z)) ⟨ho, fun y hy => ?_, ?_⟩
  · obtain ⟨i, hi⟩ := List.mem_iff_getElem?.mp (show y ∈ its by simpa using hy)
    obtain ⟨z', t', e1, rfl⟩ := strs_get i y rv hi
    have := eqAt_V (A := X.A.in1) (s := s) (y := .str z') (x := .str z) (u := .str z' t') (v := .str z tk) ⟨_, rfl⟩ ⟨_, rfl⟩ rfl rfl
    have e2 : eqV (.str z') (.str z) = isZ z (.str z' t') := by
      show (z' == z) = decide (z' = z)
      by_cases h : z' = z <;> simp [h]
    rw [e2] at this; exact this
  · refine ⟨.int (zs.count z : Nat), H, I.tok _, ⟨s.toks, ?_⟩, q⟩
    show Value.int ((its.toArray.toList.countP (isZ z) : Nat) : Int) s.toks = _
    rw [show its.toArray.toList = its from rfl, cnt_strs z rv]
theorem ev_countS (ho : EV T X o ss (.lst (zs.map D.str))) (he : EV T X e ss (.str z)) (hm1 : starEach [e] X.env = [(false, eval e X.env)] := by rfl)
    (hp : ∀ {to te : TE}, PE X o to → PE X e te → PE X (.Call (.Attribute o "count" ap) [e] [] cp) (tBM X.K "list" (rCntS X.K) to (tCons te tNil)) := by
      intro to te h h2; exact pe_bm PySem.F.plainAttrs_list PySem.F.slot_list_count PySem.F.type_list_count mt_cntS h (pa_cons h2 pa_nil)) :
    EV T X (.Call (.Attribute o "count" ap) [e] [] cp) ss (.int (zs.count z : Nat)) :=
  EV.of (hp ho he) fun B F H σ Q R q => ev_go R fun v F1 H1 n1 R1 i1 => by
    obtain ⟨l, us, rfl, e1, e2⟩ := i1
    rw [is_strs e2] at e1
    refine ⟨.inl ⟨rfl, _, SqL.of (R1.sub _ _ e1)⟩, ev_go R1 fun w F2 H2 n2 R2 i2 => ?_⟩
    have e3 : w = .str z := i2
    subst e3
    exact ⟨l, zs, z, rfl, rfl, SqL.of (R2.sub _ _ (n2.f _ _ e1)), q _ F2 H2 (n1.trans n2) R2 rfl⟩
end
end Fd

set_option Elab.async false
set_option linter.all false
set_option maxRecDepth 100000
set_option maxHeartbeats 4000000
/-! Fd33: x = a + b as a list of one's own; len of a list of one's own. -/
namespace Fd
open PySem PySem.Spec PyProof.Rows L2
section
variable {T : List (Addr × Str)} {X : Cx} {ss : SS} {P : Post} {a b e : Expr} {x : Str} {xs ys : List D} {p px pos pos' pos2 : Pos}
theorem sv_catOwn (i : Nat) (hl : xs.length + ys.length ≤ 100000) (ha : EV T X a ss (.lst xs)) (hb : EV T X b ss (.lst ys)) (k : P.nx (ss.set i (.own (xs ++ ys)))) (hN : X.N.Nodup) (hi : X.N[i]? = some x := by rfl) (hx : Loc X.env.scope x := by first | exact Or.inl rfl | exact Or.inr rfl)
    (hs : swapsWith (.BinOp a .Add b pos2) (some (.Name x pos')) pos.line X.env = pure false := by rfl) (hf : X.fn x = true ∨ X.env.scope.names.lookup x = some .local := by first | exact .inl rfl | exact .inr rfl | assumption) :
    SV T X (.Assign [.Name x pos'] (.BinOp a .Add b pos2) pos) ss P :=
  SV.of (ps_set hN hi hx (pe_op op_cat ha hb) hs hf) fun B F H σ Dn R g => ev_go R fun v F1 H1 n1 R1 i1 => ev_go R1 fun u F2 H2 n2 R2 i2 => by
    obtain ⟨p1, vs, rfl, a1, a2⟩ := i1
    obtain ⟨p2, us, rfl, b1, b2⟩ := i2
    refine ⟨p1, p2, vs, us, rfl, rfl, R2.sub _ _ (n2.f _ _ a1), R2.sub _ _ b1, ?_, fun q hq => g.nx _ _ _ _ k (R2.newOwn hq rfl ⟨q, _, rfl, R2.free hq, upd_same, (IsL.mono n2.f _ a2).append b2⟩)⟩
    rw [a2.length, b2.length, sizeLine_eq]; omega
theorem ev_lenOwn (i : Nat) (hx : ss[i]? = some (.own xs)) (hl : xs.length ≤ 100000) (hm : X.mg "len" = none) (hp : PE X (.Name x px) (tVar i) := by exact pv _) (hg : Gl X "len" := by rfl) (he : starEach [.Name x px] X.env = [(false, eval (.Name x px) X.env)] := by rfl) : EV T X (.Call (.Name "len" p) [.Name x px] [] pos) ss (.int (xs.length : Nat)) :=
  EV.of (pe_callB call_len hg hm PySem.boot_len (pa_cons hp pa_nil he) (by decide) (by decide) he (by rfl)) fun B F H σ Q R q => by
    have hj : i < ss.length := (List.getElem?_eq_some_iff.mp hx).1
    have hs : i < σ.length := by rw [R.len]; exact hj
    obtain ⟨l, vs, e1, e2, e3, e4⟩ := R.slots i _ _ hx (List.getElem?_eq_getElem hs)
    refine ⟨.ref l, by rw [List.getElem?_eq_getElem hs, e1], .ref l, xs.length, rfl, ?_, q _ F H R.nx R rfl⟩
    exact .inl ⟨vs, SqL.of e3, by rw [e4.length]⟩
end
end Fd

set_option Elab.async false
set_option linter.all false
set_option maxRecDepth 100000
set_option maxHeartbeats 4000000
/-! Fd34: a list that is told is a new one, and may be changed. -/
namespace Fd
open PySem PySem.Spec PyProof.Rows L2
/-- p is a list that stood nowhere at H -/
structure NewL (H F1 H1 : Hp) (us : List V) (p : Addr) : Prop where
  fr : Fr H p
  no : F1 p = none
  is : H1 p = some (.lst us)
/-- e tells a new list -/
def EVF (T : List (Addr × Str)) (X : Cx) (e : Expr) (ss : SS) (us : List V) : Prop := ∃ te, PE X e te ∧ ∀ B F H σ Q, StR T X.K B F H σ ss → (∀ p F1 H1, Nx T F H F1 H1 → StR T X.K B F1 H1 σ ss → NewL H F1 H1 us p → Q (.ref p) H1) → te σ H Q
/-- the rows return a new list -/
def RF (T : List (Addr × Str)) (X : Cx) (sts : List Stmt) (ss : SS) (us : List V) : Prop := ∃ t, PSs X sts t ∧ ∀ B F H σ Dn, StR T X.K B F H σ ss → (∀ p F1 H1, Nx T B.1 B.2 F1 H1 → NewL B.2 F1 H1 us p → Dn.rt (.ref p) H1) → t Dn σ H
def spF (T : List (Addr × Str)) (K : PySem.W.Frag) (n : Nat) (pre : List D → List V → Prop) : Sp := fun vs H Q _ => ∃ F ds us, Ext F H ∧ (∀ p ps, F p ≠ some (.tbl ps)) ∧ LamX.Tabs T H ∧ IsL K F ds vs ∧ ds.length = n ∧ pre ds us ∧ ∀ p F1 H1, Nx T F H F1 H1 → NewL H F1 H1 us p → Q (.ref p) H1
structure OwnF (T : List (Addr × Str)) (P : Program) (w : World) (K : PySem.W.Frag) (mg : Str → Option Value) (base : Heap) (C : Addr) (m : Str) (n k : Nat) (pre : List D → List V → Prop) (f : Addr) : Prop where
  at_ : PySem.W.findIn K (.ref C) m = some (some (.ref f))
  fn : PySem.W.isFn K (.ref f) = true
  kp : PySem.W.keepIn K (.ref f) = true
  ok : ∃ fd ps, Binds K fd ps [] ∧ ps.length = n ∧ FnOk P w K mg base CX0 k f fd ps (spF T K n pre)
section
variable {T : List (Addr × Str)} {X : Cx} {ss : SS} {e o : Expr} {es : List Expr} {d : D} {ds : List D} {ks : List Key} {xs : List D} {us : List V} {n k : Nat} {m : Str} {p pos apos : Pos} {C : Addr} {ns : List Str} {P : Post} {sts : List Stmt} {st : Stmt}
theorem evf_keys (ha : EV T X e ss (.dct ks xs)) (hm : X.mg "list" = none) (hc : X.calm = true := by rfl) (hg : Gl X "list" := by rfl) (he : starEach [e] X.env = [(false, eval e X.env)] := by rfl) : EVF T X (.Call (.Name "list" p) [e] [] pos) ss (ks.map kV) :=
  ⟨_, pe_callTy (call_listD hc) hg hm boot_list (evs_cons ha evs_nil he) (by decide) (by decide) he rfl, fun B F H σ Q R q => evs_go R fun vs F1 H1 n1 R1 i1 => by
    obtain ⟨v, rfl, i⟩ := isL1 i1
    obtain ⟨a, kvs, rfl, e1, rfl, e2⟩ := i
    refine ⟨a, kvs, rfl, .inl (R1.sub _ _ e1), fun l hl => ?_⟩
    have n2 := n1.trans (Nx.allocH (o := .lst (kvs.map fun kv => kV kv.1)) R1.sub hl)
    refine q l F1 _ n2 (R.grow n2) ⟨n1.h.fr (Fr.of hl), R1.free hl, ?_⟩
    rw [upd_same, List.map_map]; rfl⟩
theorem evf_list {zs : List Str} (ha : EV T X e ss (.tup (zs.map D.str))) (hm : X.mg "list" = none) (hg : Gl X "list" := by rfl) (he : starEach [e] X.env = [(false, eval e X.env)] := by rfl) : EVF T X (.Call (.Name "list" p) [e] [] pos) ss (zs.map V.str) :=
  ⟨_, pe_callTy call_list_of hg hm boot_list (evs_cons ha evs_nil he) (by decide) (by decide) he rfl, fun B F H σ Q R q => evs_go R fun vs F1 H1 n1 R1 i1 => by
    obtain ⟨v, rfl, i⟩ := isL1 i1
    obtain ⟨a, ys, rfl, e1, e2⟩ := i
    obtain rfl := is_strs e2
    refine ⟨a, _, rfl, .inr (ext_seqT R1.sub e1), fun l hl => ?_⟩
    have n2 := n1.trans (Nx.allocH (o := .lst (zs.map V.str)) R1.sub hl)
    exact q l F1 _ n2 (R.grow n2) ⟨n1.h.fr (Fr.of hl), R1.free hl, upd_same⟩⟩
theorem rf_ret (h : EVF T X e ss us) : RF T X [.Return (some e) pos] ss us := by
  obtain ⟨te, hp, hk⟩ := h
  exact ⟨_, pss_one (ps_ret hp), fun B F H σ Dn R q => hk B F H σ _ R fun p F1 H1 n1 R1 nl => q p F1 H1 R1.back ⟨R.base_fr nl.fr, nl.no, nl.is⟩⟩
theorem rf_cons {ss1 : SS} (h1 : SV T X st ss { nx := fun ss' => ss' = ss1, rt := fun _ => False }) (h2 : RF T X sts ss1 us) : RF T X (st :: sts) ss us := by
  obtain ⟨t, hp, hk⟩ := h2
  refine ⟨_, pss_cons h1 hp, fun B F H σ Dn R q => ?_⟩
  exact ⟨B, F, ss, _, ⟨rfl, rfl⟩, R, fun ss' σ' F1 H1 e R1 => hk B F1 H1 σ' Dn (e ▸ R1) q, fun _ _ _ _ _ _ z => z.elim, fun _ _ _ _ z => z.elim, fun _ _ _ _ z => z.elim⟩
/-- o.m() tells a new list -/
theorem evf_meth0 {pl : Sem Bool} {pre : List D → List V → Prop} {f : Addr} (he : EV T X o ss (.ins C ns xs)) (cl : Cls X.K C) (M : OwnF T X.prog X.w X.K X.mg X.base C m 1 k pre f) (hr : Room k X.A) (hp : pre [.ins C ns xs] us) (hmn : m ∉ ns)
    (ht : eval (.Call (.Attribute o m apos) [] [] pos) X.env = (do
      let ov ← eval o X.env; standAt apos.atName; let (f, first) ← holding [ov] (getMethod ov m pl); callWith pos f first (backTo pos (starEach [] X.env)) (backToKw pos (keywordEach [] X.env))) := by rfl) :
    EVF T X (.Call (.Attribute o m apos) [] [] pos) ss us := by
  obtain ⟨fd, ps, hb, hps, G⟩ := M.ok
  refine ⟨_, pe_meth0 (E := E0) he cl ⟨M.at_, M.fn, M.kp⟩ G hr hb .nil pass0 ht, fun B F H σ Q R q => ev_go R fun v F1 H1 n1 R1 i1 => ?_⟩
  obtain ⟨y, dx, fs, rfl, e1, e2, e3⟩ := id i1
  refine ⟨y, dx, fs, rfl, R1.sub _ _ e1, no_lookup (by rw [e2]; exact hmn), ?_⟩
  exact ⟨F1, _, us, R1.sub, R1.nt, R1.tb, IsL.cons i1 IsL.nil, rfl, hp, fun p F3 H3 n3 nl => q p F3 H3 (n1.trans n3) (R1.grow n3) ⟨n1.h.fr nl.fr, nl.no, nl.is⟩⟩
/-- o.m(..) tells a new list -/
theorem evf_meth {pl : Sem Bool} {pre : List D → List V → Prop} {f : Addr} (he : EV T X o ss (.ins C ns xs)) (cl : Cls X.K C) (M : OwnF T X.prog X.w X.K X.mg X.base C m n k pre f) (hr : Room k X.A)
    (ha : EVs T X (e :: es) ss ds) (hp : pre (.ins C ns xs :: ds) us) (hmn : m ∉ ns) (hn : (D.ins C ns xs :: ds).length = n := by rfl)
    (hst : starEach (e :: es) X.env = (false, eval e X.env) :: starEach es X.env := by rfl) (hpl : (backTo pos (starEach es X.env)).any (·.1) = false := by rfl)
    (ht : eval (.Call (.Attribute o m apos) (e :: es) [] pos) X.env = (do
      let ov ← eval o X.env; standAt apos.atName; let (f, first) ← holding [ov] (getMethod ov m pl); callWith pos f first (backTo pos (starEach (e :: es) X.env)) (backToKw pos (keywordEach [] X.env))) := by rfl) :
    EVF T X (.Call (.Attribute o m apos) (e :: es) [] pos) ss us := by
  obtain ⟨fd, ps, hb, hps, G⟩ := M.ok
  refine ⟨_, pe_meth (E := E0) he cl ⟨M.at_, M.fn, M.kp⟩ G hr hb .nil pass0 ha hst hpl ht, fun B F H σ Q R q => ev_go R fun v F1 H1 n1 R1 i1 => ?_⟩
  obtain ⟨y, dx, fs, rfl, e1, e2, e3⟩ := id i1
  refine ⟨y, dx, fs, rfl, R1.sub _ _ e1, no_lookup (by rw [e2]; exact hmn), evs_go R1 fun vs F2 H2 n2 R2 i2 => ?_⟩
  rw [List.append_nil]
  exact ⟨F2, _, us, R2.sub, R2.nt, R2.tb, IsL.cons (Is.mono n2.f _ i1) i2, hn, hp, fun p F3 H3 n3 nl => q p F3 H3 ((n1.trans n2).trans n3) (R2.grow n3) ⟨n1.h.fr (n2.h.fr nl.fr), nl.no, nl.is⟩⟩
/-- o.append(z), o a new list -/
theorem sv_appF {z : Str} {j : Nat} {p1 : Pos} (h : EVF T X o ss us) (hl : us.length < 100000) (k : P.nx ss)
    (h1 : attributeBase o "append" X.env (eval o X.env) = eval o X.env := by rfl)
    (h2 : (((backTo pos (starEach [.Constant (.str z) j p1] X.env)).all fun x => !x.1) && ((backToKw pos (keywordEach [] X.env)).all fun x => x.1.isSome) && decide (([Expr.Constant (.str z) j p1].length + ([] : List Keyword).length + if ([] : List Keyword).isEmpty then 0 else 1) < 30)) = true := by rfl)
    (h3 : (apos.endLine == pos.line) = true := by rfl)
    (hs : swapsWith (.Call (.Attribute o "append" apos) [.Constant (.str z) j p1] [] pos) none p.line X.env = pure false := by rfl) : SV T X (.Expr (.Call (.Attribute o "append" apos) [.Constant (.str z) j p1] [] pos) p) ss P := by
  obtain ⟨te, hp, hk⟩ := h
  refine SV.of (ps_expr (pe_bm PySem.F.plainAttrs_list PySem.F.slot_list_append PySem.F.type_list_append mt_append hp (pa_cons pe_str pa_nil) h1 h2 h3) hs) fun B F H σ Dn R g => hk B F H σ _ R fun q F1 H1 n1 R1 nl => ?_
  refine ⟨.inl ⟨rfl, _, SqL.of nl.is⟩, q, us, _, rfl, rfl, nl.is, by rw [sizeLine_eq]; omega, g.nx _ _ _ _ k (R1.updH nl.no (R.base_fr nl.fr) (fun o' e => ?_) fun i t e m z => ?_)⟩
  · rw [nl.is] at e; cases e
    rintro (⟨_, z⟩ | ⟨_, _, z⟩) <;> cases z
  · obtain ⟨p', e1, _, e3⟩ := R.mine_at e m
    rw [z] at e1; cases e1
    cases ho : H q with
    | none => exact e3 ho
    | some o =>
      obtain ⟨ps, rfl⟩ := nl.fr o ho
      exact R.plain e m z _ ho (.inl ⟨ps, rfl⟩)
end
section
variable {T : List (Addr × Str)} {P : Program} {w : World} {K : PySem.W.Frag} {mg : Str → Option Value} {base : Heap}
theorem ff_ok {x qual : Str} {st : Stmt} {f : Addr} {fd : FuncData} {N ps : List Str} {k n : Nat} {pre : List D → List V → Prop} (F : Fun K x qual st f fd) (S : FnScope N ps (defScope st)) (hn : ps.length = n)
    (h : ∀ (cdv : Value) (A : Around) (outer : List Env) (s : Shared) (H : Hp) (E : XK) (ds : List D) (us : List V), Room k (A.deeper (envOfC qual (defScope st) s.heap.objs.size f cdv)) → ds.length = n → pre ds us →
      RF T (bodyX CX0 P w K mg base N qual st f cdv A outer s H E) (defBody st) (startS N ds) us) : FnOk P w K mg base CX0 (k + 1) f fd ps (spF T K n pre) := by
  refine F.ok S (fun vs H Q E ⟨F, ds, us, _, _, _, i, l, _⟩ => by rw [i.length, l, hn]) (fun cdv A outer s H vs Q E hr hsp => ?_)
  obtain ⟨F0, ds, us, x, nt, tb, i, l, p, q⟩ := hsp
  obtain ⟨t, hp, hk⟩ := h cdv A outer s H E ds us hr l p
  exact ⟨t, hp, hk (F0, H) F0 H _ _ (start_str x nt tb i) fun p F1 H1 n1 nl => q p F1 H1 n1 nl⟩
end
end Fd

set_option Elab.async false
set_option linter.all false
set_option maxRecDepth 100000
set_option maxHeartbeats 4000000
/-! Fd35: stars in displays; a comprehension with two fors. -/
namespace Fd
open PySem PySem.Spec PyProof.Rows L2
section
variable {T : List (Addr × Str)} {X : Cx} {ss : SS} {e : Expr} {es : List Expr} {xs ds : List D} {d : D} {p : Pos}
/-- *e, .. : e is a list or a tuple -/
theorem evs_star (hd : d = .lst xs ∨ d = .tup xs ∨ d = .rdl xs) (ha : EV T X e ss d) (hr : EVs T X es ss ds) (hs : starEach (.Starred e p :: es) X.env = (true, eval e X.env) :: starEach es X.env := by rfl) : EVs T X (.Starred e p :: es) ss (xs ++ ds) :=
  EVs.of (StX.pa_star ha hr hs) fun B F H σ Q R k => ev_go R fun v F1 H1 n1 R1 i1 => by
    have got : ∃ a vs, v = .ref a ∧ (SqT X.K H1 a vs ∨ SqL X.K H1 a vs) ∧ IsL X.K F1 xs vs := by
      rcases hd with rfl | rfl | rfl
      · obtain ⟨a, vs, rfl, e1, e2⟩ := i1; exact ⟨a, vs, rfl, .inr (SqL.of (R1.sub _ _ e1)), e2⟩
      · obtain ⟨a, vs, rfl, e1, e2⟩ := i1; exact ⟨a, vs, rfl, .inl (ext_seqT R1.sub e1), e2⟩
      · obtain ⟨a, vs, rfl, e1, e2⟩ := i1; exact ⟨a, vs, rfl, .inr (ext_seqL R1.sub e1), e2⟩
    obtain ⟨a, vs, rfl, e1, e2⟩ := got
    exact ⟨a, vs, rfl, e1, evs_go R1 fun us F2 H2 n2 R2 i2 => k _ F2 H2 (n1.trans n2) R2 ((IsL.mono n2.f _ e2).append i2)⟩
end
/-- the items that two fors give -/
def outs2 (g : D → List D) (f : D → D → D) (xs : List D) : List D := xs.flatMap fun x => (g x).map (f x)
theorem outs2_take {g : D → List D} {f : D → D → D} {xs : List D} {i : Nat} {x : D} (h : xs[i]? = some x) : outs2 g f (xs.take (i + 1)) = outs2 g f (xs.take i) ++ (g x).map (f x) := by
  unfold outs2
  rw [List.take_succ, h, List.flatMap_append]
  simp
theorem outs2_le {g : D → List D} {f : D → D → D} {xs : List D} (i : Nat) : (outs2 g f (xs.take i)).length ≤ (outs2 g f xs).length := by
  conv => rhs; rw [← List.take_append_drop i xs]
  unfold outs2
  rw [List.flatMap_append, List.length_append]
  omega
def tIvF (T : List (Addr × Str)) (K : PySem.W.Frag) (Rl : SS → List D → Prop) : TI := fun σ H R => ∃ B F ss xs, Rl ss xs ∧ StR T K B F H σ ss ∧ ∀ J F1 H1, Nx T F H F1 H1 → StR T K B F1 H1 σ ss → Yl T K J F1 xs → R J H1
theorem pi_fam {T : List (Addr × Str)} {X : Cx} {tg e : Expr} {Rl : SS → List D → Prop} (h : ∀ ss xs, Rl ss xs → IV T X tg e ss xs) : PI X tg e (tIvF T X.K Rl) :=
  ⟨fun pins s σ H R I ⟨B, F, ss, xs, r, R0, q⟩ => (h ss xs r).run pins s σ H R I ⟨B, F, R0, q⟩⟩
theorem yes_go {te : TE} {σ : L2.St} {H : Hp} {A : VK} {B : Hp → Prop} (h : te σ H A) : tYes σ H fun b H3 => if b = true then te σ H3 A else B H3 := iteT (B := B H) h
theorem yes_goI {wi : TI} {σ : L2.St} {H : Hp} {A : It → Hp → Prop} {B : Hp → Prop} (h : wi σ H A) : tYes σ H fun b H3 => if b = true then wi σ H3 A else B H3 := iteT (B := B H) h
def noMine (ss : SS) : Bool := ss.all fun s => !s.mine
theorem noMine_at {ss : SS} (h : noMine ss = true) {i : Nat} {s : S} (e : ss[i]? = some s) : s.mine = false := by
  have := List.all_eq_true.mp h s (List.mem_of_getElem? e)
  simpa using this
theorem offD {T : List (Addr × Str)} {Fa Ha Fb Hb : Hp} {D : Addr} {vs : List V} (n : Nx T Fa Ha Fb Hb) (h1 : Fa D = none) (h2 : Ha D = some (.lst vs)) : Fb D = none := by
  cases e : Fb D with
  | none => rfl
  | some u =>
    rcases n.n D u e with z | z
    · exact absurd h1 z
    · exact z.no h2 (fun _ z => nomatch z) (fun _ z => nomatch z)
/-- one more at D, which is new since H1 -/
theorem nx_app {T : List (Addr × Str)} {F1 H1 F H : Hp} {D : Addr} {vs us : List V} (n : Nx T F1 H1 F H) (hD : H1 D = none) (fD : F D = none) (eD : H D = some (.lst vs)) : Nx T F1 H1 F (upd H D (.lst us)) :=
  ⟨n.f, ⟨fun p o e nn => by rw [upd_ne (ne_of_none e hD)]; exact n.h.k p o e nn, fun t => tabs_upd (n.h.t t) fun o' e z => by
    rw [eD] at e; cases e
    rcases z with ⟨_, z⟩ | ⟨_, _, z⟩ <;> cases z⟩, fun p o e => by rw [upd_ne (ne_of_none e fD)]; exact n.s p o e, n.nt, n.n⟩
section
variable {T : List (Addr × Str)} {X : Cx} {ss : SS} {e elt tg tg1 e1 : Expr} {xs : List D} {pos : Pos} {scope : Scope}
theorem lc2_go {K : PySem.W.Frag} {B : Hp × Hp} {F H : Hp} {σ : L2.St} {vs vs1 : List Nat} {t t1 : Tg} {wi wi1 : TI} {te : TE} {Pv : V → Prop} {g : D → List D} {f : D → D → D} {Q : VK} (hv : vs ≠ []) (hv1 : vs1 ≠ []) (ht : ∀ j ∈ t.slots, j ∈ vs) (ht1 : ∀ j ∈ t1.slots, j ∈ vs1) (hfit : ∀ x ∈ xs, t.fits x = true) (hfit1 : ∀ x ∈ xs, ∀ y ∈ g x, t1.fits y = true)
    (hlen : (outs2 g f xs).length ≤ 100000) (hm : ∀ x ∈ xs, noMine (t.put x (wipeS ss vs)) = true) (R : StR T K B F H σ ss)
    (hO : ∀ R0 : It → Hp → Prop, (∀ J F1 H1, Nx T F H F1 H1 → StR T K B F1 H1 σ ss → Yl T K J F1 xs → R0 J H1) → wi σ H R0)
    (hI : ∀ x, x ∈ xs → ∀ F' H' σ2 (R1 : It → Hp → Prop), Nx T F H F' H' → StR T K B F' H' σ2 (t.put x (wipeS ss vs)) → L2.wipe σ2 vs = L2.wipe σ vs → (∀ J1 F3 H3, Nx T F' H' F3 H3 → StR T K B F3 H3 σ2 (t.put x (wipeS ss vs)) → Yl T K J1 F3 (g x) → R1 J1 H3) → wi1 σ2 H' R1)
    (hT : ∀ x, x ∈ xs → ∀ y, y ∈ g x → ∀ F' H' σ3 (Q1 : VK), StR T K B F' H' σ3 (t1.put y (wipeS (t.put x (wipeS ss vs)) vs1)) → (∀ v F1 H1, Nx T F' H' F1 H1 → StR T K B F1 H1 σ3 (t1.put y (wipeS (t.put x (wipeS ss vs)) vs1)) → Is K F1 (f x y) v → Pv v → Q1 v H1) → te σ3 H' Q1)
    (q : ∀ D vs' F1 H1, Nx T F H F1 H1 → StR T K B F1 H1 σ ss → F1 D = none → Fr B.2 D → Fr H D → H1 D = some (.lst vs') → IsL K F1 (outs2 g f xs) vs' → (∀ w ∈ vs', Pv w) → Q (.ref D) H1) :
    tLc2 wi (gOf K t) tYes wi1 (gOf K t1) tYes te vs vs1 σ H Q := by
  refine hO _ fun J F1 H1 n1 R1 Y D hD => ?_
  have HD : Fr H D := n1.h.ff hD
  have HB : Fr B.2 D := R.base_fr HD
  refine ⟨fun i m H' => m = xs.length - i ∧ i ≤ xs.length ∧ ∃ F' acc, Nx T F1 H1 F' H' ∧ F' D = none ∧ H' D = some (.lst acc) ∧ IsL K F' (outs2 g f (xs.take i)) acc ∧ ∀ w ∈ acc, Pv w, ⟨xs.length, by simp, Nat.zero_le _, F1, [], Nx.allocH R1.sub hD, R1.free hD, upd_same, by simp [outs2]; exact rfl, fun _ h => nomatch h⟩, ?_⟩
  rintro i m H' ⟨rfl, hi', F', acc, n2, fD, eD, hacc, hpv⟩
  by_cases hlt : i < xs.length
  · obtain ⟨go, yl⟩ := Y.item i F' H' n2.f n2.s hlt
    refine .inr ⟨go, fun H2 => ∃ F2 acc', Nx T F1 H1 F2 H2 ∧ F2 D = none ∧ H2 D = some (.lst acc') ∧ IsL K F2 (outs2 g f (xs.take (i + 1))) acc' ∧ ∀ w ∈ acc', Pv w, fun H2 ⟨F2, acc', h⟩ => ⟨xs.length - (i + 1), by omega, rfl, hlt, F2, acc', h⟩, fun v H2 y => ?_⟩
    obtain ⟨F2, x, n3, hx, ix⟩ := yl v H2 y
    have hmem : x ∈ xs := List.mem_of_getElem? hx
    have fD2 : F2 D = none := offD n3 fD eD
    have n12 := n2.trans n3
    have eD2 := n3.h.k _ _ eD (fun _ z => nomatch z)
    have hle := outs2_le (g := g) (f := f) (xs := xs) (i + 1)
    rw [outs2_take hx, List.length_append, List.length_map] at hle
    have hal := hacc.length
    have R2 : StR T K B F2 H2 (L2.wipe σ vs) (wipeS ss vs) := (R1.wipe vs).grow n12
    refine tg_go (ws := vs) R2 ix (hfit x hmem) (fun j hj => .inl (ht j hj)) fun σ2 R3 hw => ⟨(hw hv).trans wipe_wipe, yes_goI (wi := wi1) ?_⟩
    refine hI x hmem F2 H2 σ2 _ (n1.trans n12) R3 ((hw hv).trans wipe_wipe) fun J1 F3 H3 n4 R4 Y1 => ?_
    have fD3 : F3 D = none := offD n4 fD2 eD2
    have eD3 := n4.h.k _ _ eD2 (fun _ z => nomatch z)
    have n13 := n12.trans n4
    refine ⟨fun j k H'' => k = (g x).length - j ∧ j ≤ (g x).length ∧ ∃ F' acc', Nx T F1 H1 F' H'' ∧ Ext F3 F' ∧ StR T K B F' H'' σ2 (t.put x (wipeS ss vs)) ∧ F' D = none ∧ H'' D = some (.lst acc') ∧ IsL K F' (outs2 g f (xs.take i) ++ ((g x).take j).map (f x)) acc' ∧ ∀ w ∈ acc', Pv w, ⟨(g x).length, by simp, Nat.zero_le _, F3, acc, n13, fun _ _ h => h, R4, fD3, eD3, by simpa using IsL.mono (n3.f.trans n4.f) _ hacc, hpv⟩, ?_⟩
    rintro j k H4 ⟨rfl, hj', F4, acc', n5, x5, R5, fD4, eD4, hacc', hpv'⟩
    by_cases hjl : j < (g x).length
    · obtain ⟨go1, yl1⟩ := Y1.item j F4 H4 x5 n5.s hjl
      refine .inr ⟨go1, fun H5 => ∃ F5 acc5, Nx T F1 H1 F5 H5 ∧ Ext F3 F5 ∧ StR T K B F5 H5 σ2 (t.put x (wipeS ss vs)) ∧ F5 D = none ∧ H5 D = some (.lst acc5) ∧ IsL K F5 (outs2 g f (xs.take i) ++ ((g x).take (j + 1)).map (f x)) acc5 ∧ ∀ w ∈ acc5, Pv w, fun H5 ⟨F5, acc5, h⟩ => ⟨(g x).length - (j + 1), by omega, rfl, hjl, F5, acc5, h⟩, fun v1 H5 y1 => ?_⟩
      obtain ⟨F5, z, n6, hz, iz⟩ := yl1 v1 H5 y1
      have hzm : z ∈ g x := List.mem_of_getElem? hz
      have R6 := R5.grow n6
      have fD5 : F5 D = none := offD n6 fD4 eD4
      have eD5 := n6.h.k _ _ eD4 (fun _ z => nomatch z)
      refine tg_go (ws := vs1) (R6.wipe vs1) iz (hfit1 x hmem z hzm) (fun j hj => .inl (ht1 j hj)) fun σ3 R7 hw1 => ⟨(hw1 hv1).trans wipe_wipe, yes_go (te := te) ?_⟩
      refine hT x hmem z hzm F5 H5 σ3 _ R7 fun u F6 H6 n7 R8 i8 hu => ?_
      have fD6 : F6 D = none := offD n7 fD5 eD5
      have eD6 := n7.h.k _ _ eD5 (fun _ z => nomatch z)
      have n67 := n6.trans n7
      refine ⟨acc', eD6, ?_, F6, acc' ++ [u], nx_app (n5.trans n67) hD fD6 eD6, x5.trans n67.f, (R6.grow n7).updH fD6 HB (fun o' e z => ?_) (fun l s e1 e2 => ?_), fD6, upd_same, ?_, fun w hw => ?_⟩
      · have := hacc'.length
        rw [List.length_append, List.length_map, List.length_take] at this
        rw [sizeLine_eq]; omega
      · rw [eD6] at e; cases e
        rcases z with ⟨_, z⟩ | ⟨_, _, z⟩ <;> cases z
      · rw [noMine_at (hm x hmem) e1] at e2; cases e2
      · have : (g x).take (j + 1) = (g x).take j ++ [z] := by rw [List.take_succ, hz]; rfl
        rw [this, List.map_append, ← List.append_assoc]
        exact (IsL.mono n67.f _ hacc').snoc i8
      · rcases List.mem_append.mp hw with hw | hw
        · exact hpv' w hw
        · obtain rfl : w = u := by simpa using hw
          exact hu
    · obtain rfl : j = (g x).length := by omega
      refine .inl ⟨Y1.stop F4 H4 x5 n5.s, F4, acc', n5, fD4, eD4, ?_, hpv'⟩
      rw [outs2_take hx]
      rw [List.take_length] at hacc'
      exact hacc'
  · have e : i = xs.length := by omega
    subst e
    refine .inl ⟨Y.stop F' H' n2.f n2.s, q D acc F' H' (n1.trans n2) (R1.grow n2) fD HB HD eD ?_ hpv⟩
    rw [List.take_length] at hacc
    exact hacc
/-- [elt for tg in e for tg1 in e1] -/
theorem ev_lc2 (own : List (Str × Nat)) (vs1 : List Nat) (t t1 : Tg) (g : D → List D) (f : D → D → D) (hi : IV T X tg e ss xs) (ok : BlkOk X.N X.env.scope scope own) (hsub : ∀ i ∈ vs1, i ∈ own.map (·.2))
    (hg : ∀ (s : Shared) (H : Hp) (C : Addr) (cl : List (Str × Addr)) (fp : List Addr), PG (X.blk s H scope (compEnvC scope cl C X.env) fp) tg (gOf X.K t))
    (hi1 : ∀ (s : Shared) (H : Hp) (C : Addr) (cl : List (Str × Addr)) (fp : List Addr) x, x ∈ xs → IV T (X.blk s H scope (compEnvC scope cl C X.env) fp) tg1 e1 (t.put x (wipeS ss (own.map (·.2)))) (g x))
    (hg1 : ∀ (s : Shared) (H : Hp) (C : Addr) (cl : List (Str × Addr)) (fp : List Addr), PG (X.blk s H scope (compEnvC scope cl C X.env) fp) tg1 (gOf X.K t1))
    (he : ∀ (s : Shared) (H : Hp) (C : Addr) (cl : List (Str × Addr)) (fp : List Addr) x, x ∈ xs → ∀ y ∈ g x, EV T (X.blk s H scope (compEnvC scope cl C X.env) fp) elt (t1.put y (wipeS (t.put x (wipeS ss (own.map (·.2)))) vs1)) (f x y))
    (hN : X.N.Nodup) (hfit : ∀ x ∈ xs, t.fits x = true) (hfit1 : ∀ x ∈ xs, ∀ y ∈ g x, t1.fits y = true) (hlen : (outs2 g f xs).length ≤ 100000) (hm : ∀ x ∈ xs, noMine (t.put x (wipeS ss (own.map (·.2)))) = true)
    (hv : own.map (·.2) ≠ [] := by decide) (hv1 : vs1 ≠ [] := by decide) (hsl : ∀ j ∈ t.slots, j ∈ own.map (·.2) := by decide) (hsl1 : ∀ j ∈ t1.slots, j ∈ vs1 := by decide) (hc : X.calm = true := by rfl) (hs : ∀ x, foldedSetIterable e X.env x = pure x := by intro _; rfl) (hs1 : ∀ env x, foldedSetIterable e1 env x = pure x := by intro _ _; rfl) :
    EV T X (.ListComp elt [⟨tg, e, [], 0⟩, ⟨tg1, e1, [], 0⟩] scope pos) ss (.lst (outs2 g f xs)) := by
  refine EV.of (pe_lc2 (vs1 := vs1) (wi1 := tIvF T X.K fun ss' ys => ∃ x ∈ xs, ss' = t.put x (wipeS ss (own.map (·.2))) ∧ ys = g x) (te := tEv T X.K fun ss' d => ∃ x ∈ xs, ∃ y ∈ g x, ss' = t1.put y (wipeS (t.put x (wipeS ss (own.map (·.2)))) vs1) ∧ d = f x y) hc hN hi ok hsub hg (fun s H C cl fp => pts_nil)
    (fun s H C cl fp => pi_fam (X := X.blk s H scope (compEnvC scope cl C X.env) fp) (Rl := fun ss' ys => ∃ x ∈ xs, ss' = t.put x (wipeS ss (own.map (·.2))) ∧ ys = g x) fun ss' ys ⟨x, hx, e1, e2⟩ => by rw [e1, e2]; exact hi1 s H C cl fp x hx) hg1 (fun s H C cl fp => pts_nil)
    (fun s H C cl fp => pe_fam (X := X.blk s H scope (compEnvC scope cl C X.env) fp) (Rl := fun ss' d => ∃ x ∈ xs, ∃ y ∈ g x, ss' = t1.put y (wipeS (t.put x (wipeS ss (own.map (·.2)))) vs1) ∧ d = f x y) fun ss' d ⟨x, hx, y, hy, e1, e2⟩ => by rw [e1, e2]; exact he s H C cl fp x hx y hy) hs hs1) fun B F H σ Q R q => ?_
  exact lc2_go hv hv1 hsl hsl1 hfit hfit1 hlen hm R (fun R0 k => ⟨B, F, R, k⟩) (fun x hx F' H' σ2 R1 n R3 hw k => ⟨B, F', _, g x, ⟨x, hx, rfl, rfl⟩, R3, k⟩) (Pv := fun _ => True) (fun x hx y hy F' H' σ3 Q1 R3 k => ⟨B, F', _, f x y, ⟨x, hx, y, hy, rfl, rfl⟩, R3, fun v F1 H1 n R i => k v F1 H1 n R i trivial⟩) fun D vs' F1 H1 n1 R1 f1 b1 h1 d1 i1 _ => by
    have n2 := n1.told f1 h1 d1
    exact q _ _ H1 n2 (R.grow n2) ⟨D, vs', rfl, upd_same, IsL.mono (Ext.upd f1) _ i1⟩
/-- y = [elt for tg in e for tg1 in e1] -/
theorem sv_lc2 {P : Post} {y : Str} {py spos : Pos} (j : Nat) (own : List (Str × Nat)) (vs1 : List Nat) (t t1 : Tg) (g : D → List D) (f : D → D → D) (hi : IV T X tg e ss xs) (ok : BlkOk X.N X.env.scope scope own) (hsub : ∀ i ∈ vs1, i ∈ own.map (·.2))
    (hg : ∀ (s : Shared) (H : Hp) (C : Addr) (cl : List (Str × Addr)) (fp : List Addr), PG (X.blk s H scope (compEnvC scope cl C X.env) fp) tg (gOf X.K t))
    (hi1 : ∀ (s : Shared) (H : Hp) (C : Addr) (cl : List (Str × Addr)) (fp : List Addr) x, x ∈ xs → IV T (X.blk s H scope (compEnvC scope cl C X.env) fp) tg1 e1 (t.put x (wipeS ss (own.map (·.2)))) (g x))
    (hg1 : ∀ (s : Shared) (H : Hp) (C : Addr) (cl : List (Str × Addr)) (fp : List Addr), PG (X.blk s H scope (compEnvC scope cl C X.env) fp) tg1 (gOf X.K t1))
    (he : ∀ (s : Shared) (H : Hp) (C : Addr) (cl : List (Str × Addr)) (fp : List Addr) x, x ∈ xs → ∀ y ∈ g x, EV T (X.blk s H scope (compEnvC scope cl C X.env) fp) elt (t1.put y (wipeS (t.put x (wipeS ss (own.map (·.2)))) vs1)) (f x y))
    (kk : P.nx (ss.set j (.d (.lst (outs2 g f xs))))) (hN : X.N.Nodup) (hfit : ∀ x ∈ xs, t.fits x = true) (hfit1 : ∀ x ∈ xs, ∀ y ∈ g x, t1.fits y = true) (hlen : (outs2 g f xs).length ≤ 100000) (hm : ∀ x ∈ xs, noMine (t.put x (wipeS ss (own.map (·.2)))) = true)
    (hsw : swapsWith (.ListComp elt [⟨tg, e, [], 0⟩, ⟨tg1, e1, [], 0⟩] scope pos) (some (.Name y py)) spos.line X.env = pure true) (hy : X.N[j]? = some y := by rfl) (hyl : X.env.scope.names.lookup y = some .local := by rfl)
    (hv : own.map (·.2) ≠ [] := by decide) (hv1 : vs1 ≠ [] := by decide) (hsl : ∀ j ∈ t.slots, j ∈ own.map (·.2) := by decide) (hsl1 : ∀ j ∈ t1.slots, j ∈ vs1 := by decide) (hc : X.calm = true := by rfl) (hs : ∀ x, foldedSetIterable e X.env x = pure x := by intro _; rfl) (hs1 : ∀ env x, foldedSetIterable e1 env x = pure x := by intro _ _; rfl) :
    SV T X (.Assign [.Name y py] (.ListComp elt [⟨tg, e, [], 0⟩, ⟨tg1, e1, [], 0⟩] scope pos) spos) ss P := by
  refine SV.of (ps_setLc2 (i := j) (vs1 := vs1) (wi1 := tIvF T X.K fun ss' ys => ∃ x ∈ xs, ss' = t.put x (wipeS ss (own.map (·.2))) ∧ ys = g x) (te := tEv T X.K fun ss' d => ∃ x ∈ xs, ∃ y ∈ g x, ss' = t1.put y (wipeS (t.put x (wipeS ss (own.map (·.2)))) vs1) ∧ d = f x y) hc hN hy hyl hsw hi ok hsub hg (fun s H C cl fp => pts_nil)
    (fun s H C cl fp => pi_fam (X := X.blk s H scope (compEnvC scope cl C X.env) fp) (Rl := fun ss' ys => ∃ x ∈ xs, ss' = t.put x (wipeS ss (own.map (·.2))) ∧ ys = g x) fun ss' ys ⟨x, hx, e1, e2⟩ => by rw [e1, e2]; exact hi1 s H C cl fp x hx) hg1 (fun s H C cl fp => pts_nil)
    (fun s H C cl fp => pe_fam (X := X.blk s H scope (compEnvC scope cl C X.env) fp) (Rl := fun ss' d => ∃ x ∈ xs, ∃ y ∈ g x, ss' = t1.put y (wipeS (t.put x (wipeS ss (own.map (·.2)))) vs1) ∧ d = f x y) fun ss' d ⟨x, hx, y, hy, e1, e2⟩ => by rw [e1, e2]; exact he s H C cl fp x hx y hy) hs hs1) fun B F H σ Dn R q => ?_
  refine lc2_go hv hv1 hsl hsl1 hfit hfit1 hlen hm R (fun R0 k => ⟨B, F, R, k⟩) (fun x hx F' H' σ2 R1 n R3 hw k => ⟨B, F', _, g x, ⟨x, hx, rfl, rfl⟩, R3, k⟩) (Pv := fun _ => True) (fun x hx y hy F' H' σ3 Q1 R3 k => ⟨B, F', _, f x y, ⟨x, hx, y, hy, rfl, rfl⟩, R3, fun v F1 H1 n R i => k v F1 H1 n R i trivial⟩) fun D vs' F1 H1 n1 R1 f1 b1 h1 d1 i1 _ => ?_
  have n2 := n1.told f1 h1 d1
  exact q.nx _ _ _ H1 kk ((R.grow n2).put ⟨D, vs', rfl, upd_same, IsL.mono (Ext.upd f1) _ i1⟩)
end
end Fd

set_option Elab.async false
set_option linter.all false
set_option maxRecDepth 100000
set_option maxHeartbeats 4000000
/-! Fd36: a new list of data is told; a list of one's own, read in a test as data. -/
namespace Fd
open PySem PySem.Spec PyProof.Rows L2
/-- p is a list of the data xs that stood nowhere -/
structure NewD (K : PySem.W.Frag) (F H F1 H1 : Hp) (xs : List D) (p : Addr) (vs : List V) : Prop where
  f0 : F p = none
  fr : Fr H p
  no : F1 p = none
  is : H1 p = some (.lst vs)
  dt : IsL K F1 xs vs
def EVD (T : List (Addr × Str)) (X : Cx) (e : Expr) (ss : SS) (xs : List D) : Prop := ∃ te, PE X e te ∧ ∀ B F H σ Q, StR T X.K B F H σ ss → (∀ p vs F1 H1, Nx T F H F1 H1 → StR T X.K B F1 H1 σ ss → NewD X.K F H F1 H1 xs p vs → Q (.ref p) H1) → te σ H Q
def RFd (T : List (Addr × Str)) (X : Cx) (sts : List Stmt) (ss : SS) (xs : List D) : Prop := ∃ t, PSs X sts t ∧ ∀ B F H σ Dn, StR T X.K B F H σ ss → (∀ p vs F1 H1, Nx T B.1 B.2 F1 H1 → NewD X.K B.1 B.2 F1 H1 xs p vs → Dn.rt (.ref p) H1) → t Dn σ H
def spN1 (T : List (Addr × Str)) (K : PySem.W.Frag) (n : Nat) (pre : List D → List D → Prop) : Sp := fun vs H Q _ => ∃ F ds xs, Ext F H ∧ (∀ p ps, F p ≠ some (.tbl ps)) ∧ LamX.Tabs T H ∧ IsL K F ds vs ∧ ds.length = n ∧ pre ds xs ∧ ∀ p us F1 H1, Nx T F H F1 H1 → NewD K F H F1 H1 xs p us → Q (.ref p) H1
structure OwnN1 (T : List (Addr × Str)) (P : Program) (w : World) (K : PySem.W.Frag) (mg : Str → Option Value) (base : Heap) (C : Addr) (m : Str) (n k : Nat) (pre : List D → List D → Prop) (f : Addr) : Prop where
  at_ : PySem.W.findIn K (.ref C) m = some (some (.ref f))
  fn : PySem.W.isFn K (.ref f) = true
  kp : PySem.W.keepIn K (.ref f) = true
  ok : ∃ fd ps, Binds K fd ps [] ∧ ps.length = n ∧ FnOk P w K mg base CX0 k f fd ps (spN1 T K n pre)
theorem NewD.told {T : List (Addr × Str)} {K : PySem.W.Frag} {F H F1 H1 : Hp} {xs : List D} {p : Addr} {vs : List V} (n : Nx T F H F1 H1) (h : NewD K F H F1 H1 xs p vs) : Nx T F H (upd F1 p (.lst vs)) H1 ∧ Is K (upd F1 p (.lst vs)) (.lst xs) (.ref p) :=
  ⟨n.told h.no h.fr h.is, p, vs, rfl, upd_same, IsL.mono (Ext.upd h.no) _ h.dt⟩
theorem spN1_data {T : List (Addr × Str)} {K : PySem.W.Frag} {n : Nat} {pre : List D → List D → Prop} {vs : List V} {H : Hp} {Q : VK} {E : XK} (h : spD T K n (fun ds d => ∃ xs, pre ds xs ∧ d = .lst xs) vs H Q E) : spN1 T K n pre vs H Q E := by
  obtain ⟨F, ds, d, x, nt, tb, i, l, ⟨xs, hp, rfl⟩, q⟩ := h
  exact ⟨F, ds, xs, x, nt, tb, i, l, hp, fun p us F1 H1 n1 nd => q _ _ H1 (NewD.told n1 nd).1 (NewD.told n1 nd).2⟩
section
variable {T : List (Addr × Str)} {X : Cx} {ss : SS} {e o : Expr} {es : List Expr} {ds xs ys : List D} {n k : Nat} {m : Str} {pos apos : Pos} {C : Addr} {ns : List Str} {P : Post}
/-- o.m(..) tells a new list -/
theorem evd_meth {pl : Sem Bool} {pre : List D → List D → Prop} {f : Addr} (he : EV T X o ss (.ins C ns ys)) (cl : Cls X.K C) (M : OwnN1 T X.prog X.w X.K X.mg X.base C m n k pre f) (hr : Room k X.A)
    (ha : EVs T X (e :: es) ss ds) (hp : pre (.ins C ns ys :: ds) xs) (hmn : m ∉ ns) (hn : (D.ins C ns ys :: ds).length = n := by rfl)
    (hst : starEach (e :: es) X.env = (false, eval e X.env) :: starEach es X.env := by rfl) (hpl : (backTo pos (starEach es X.env)).any (·.1) = false := by rfl)
    (ht : eval (.Call (.Attribute o m apos) (e :: es) [] pos) X.env = (do
      let ov ← eval o X.env; standAt apos.atName; let (f, first) ← holding [ov] (getMethod ov m pl); callWith pos f first (backTo pos (starEach (e :: es) X.env)) (backToKw pos (keywordEach [] X.env))) := by rfl) :
    EVD T X (.Call (.Attribute o m apos) (e :: es) [] pos) ss xs := by
  obtain ⟨fd, ps, hb, hps, G⟩ := M.ok
  refine ⟨_, pe_meth (E := E0) he cl ⟨M.at_, M.fn, M.kp⟩ G hr hb .nil pass0 ha hst hpl ht, fun B F H σ Q R q => ev_go R fun v F1 H1 n1 R1 i1 => ?_⟩
  obtain ⟨y, dx, fs, rfl, e1, e2, e3⟩ := id i1
  refine ⟨y, dx, fs, rfl, R1.sub _ _ e1, no_lookup (by rw [e2]; exact hmn), evs_go R1 fun vs F2 H2 n2 R2 i2 => ?_⟩
  rw [List.append_nil]
  have back : ∀ {p : Addr}, F2 p = none → F p = none := fun {p} h => by
    cases e : F p with
    | none => rfl
    | some u => rw [n2.f _ _ (n1.f _ _ e)] at h; cases h
  exact ⟨F2, _, xs, R2.sub, R2.nt, R2.tb, IsL.cons (Is.mono n2.f _ i1) i2, hn, hp, fun p us F3 H3 n3 nd => q p us F3 H3 ((n1.trans n2).trans n3) (R2.grow n3) ⟨back nd.f0, n1.h.fr (n2.h.fr nd.fr), nd.no, nd.is, nd.dt⟩⟩
/-- x = e, e a new list: one's own -/
theorem sv_setD (i : Nat) {x : Str} {px : Pos} (he : EVD T X e ss xs) (kk : P.nx (ss.set i (.own xs))) (hN : X.N.Nodup) (hi : X.N[i]? = some x := by rfl) (hx : Loc X.env.scope x := by first | exact Or.inl rfl | exact Or.inr rfl)
    (hs : swapsWith e (some (.Name x px)) pos.line X.env = pure false := by rfl) (hf : X.fn x = true ∨ X.env.scope.names.lookup x = some .local := by first | exact .inl rfl | exact .inr rfl | assumption) : SV T X (.Assign [.Name x px] e pos) ss P := by
  obtain ⟨te, hp, hk⟩ := he
  refine SV.of (ps_set hN hi hx hp hs hf) fun B F H σ Dn R g => hk B F H σ _ R fun p vs F1 H1 n1 R1 nd => ?_
  refine g.nx _ _ F1 H1 kk (R1.putOwn rfl ⟨p, vs, rfl, nd.no, nd.is, nd.dt⟩ (R.base_fr nd.fr) fun l t' _ e1 e2 z => ?_)
  obtain ⟨p', w1, w2, w3⟩ := R.mine_at e1 e2
  rw [z] at w1
  cases w1
  cases hH : H p with
  | none => exact w3 hH
  | some o' =>
    obtain ⟨ps, rfl⟩ := nd.fr o' hH
    exact R.plain e1 e2 z _ hH (.inl ⟨ps, rfl⟩)
/-- the heap grew while p was lent to the data -/
theorem Nx.back {F H F1 H1 : Hp} {p : Addr} {vs : List V} (h0 : F p = none) (n : Nx T (upd F p (.lst vs)) H F1 H1) : Nx T F H (fun b => if b = p then none else F1 b) H1 :=
  ⟨fun b o e => by
    have z : b ≠ p := fun z => by rw [z, h0] at e; cases e
    show (if b = p then none else F1 b) = some o
    rw [if_neg z]; exact n.f b o (by rw [upd_ne z]; exact e), n.h, fun b o e => by
    have e : (if b = p then none else F1 b) = some o := e
    by_cases z : b = p
    · rw [if_pos z] at e; cases e
    · rw [if_neg z] at e; exact n.s b o e, fun q ps e => by
    have e : (if q = p then none else F1 q) = some _ := e
    by_cases z : q = p
    · rw [if_pos z] at e; cases e
    · rw [if_neg z] at e
      have := n.nt q ps e
      rw [upd_ne z] at this; exact this, fun q o e => by
    have e : (if q = p then none else F1 q) = some o := e
    by_cases z : q = p
    · rw [if_pos z] at e; cases e
    · rw [if_neg z] at e
      have := n.n q o e
      rw [upd_ne z] at this; exact this⟩
theorem StR.freezeAt {B : Hp × Hp} {F H : Hp} {σ : L2.St} {K : PySem.W.Frag} {i : Nat} {xs : List D} {p : Addr} {vs : List V} (R : StR T K B F H σ ss) (h : ss[i]? = some (.own xs)) (hσ : σ[i]? = some (some (.ref p))) (e1 : F p = none) (e2 : H p = some (.lst vs)) (hx : IsL K F xs vs) : StR T K B (upd F p (.lst vs)) H σ (ss.set i (.d (.lst xs))) := by
  have hi : i < ss.length := (List.getElem?_eq_some_iff.mp h).1
  have hB := R.own i _ p h rfl hσ
  have xF : Ext F (upd F p (.lst vs)) := Ext.upd e1
  refine ⟨by simp [R.len], R.bF.trans xF, R.bH, fun q u z => ?_, fun q ps z => ?_, R.tb, fun q u z => ?_, fun j s o z1 z2 => ?_, fun j s q z1 m z2 => ?_, fun j k s t q z1 z2 m1 m2 z3 z4 => ?_⟩
  · by_cases hq : q = p
    · subst hq; rw [upd_same] at z; rw [e2]; exact z
    · rw [upd_ne hq] at z; exact R.sub q u z
  · by_cases hq : q = p
    · subst hq; rw [upd_same] at z; cases z
    · rw [upd_ne hq] at z; exact R.nt q ps z
  · by_cases hq : q = p
    · subst hq; exact .inr (.inl hB)
    · rw [upd_ne hq] at z; exact R.new q u z
  · rcases set_get z1 with ⟨q, rfl⟩ | ⟨q, z1⟩
    · subst q
      rw [hσ] at z2
      cases z2
      exact ⟨.ref p, rfl, p, vs, rfl, upd_same, IsL.mono xF _ hx⟩
    · have w := R.slots j s o z1 z2
      have ne : ∀ {p' : Addr}, s.mine = true → o = some (.ref p') → p' ≠ p := fun {p'} m e' z => q (R.dis i j _ s p h z1 rfl m hσ (by rw [z2, e', z]))
      cases s with
      | no => exact True.intro
      | d x => obtain ⟨v, w1, w2⟩ := w; exact ⟨v, w1, Is.mono xF x w2⟩
      | own ys => obtain ⟨p', us, w1, w2, w3, w4⟩ := w; exact ⟨p', us, w1, by rw [upd_ne (ne rfl w1)]; exact w2, w3, IsL.mono xF _ w4⟩
      | obj p' C ns ys => obtain ⟨dx, fs, w1, w2, w3, w4, w5⟩ := w; exact ⟨dx, fs, w1, by rw [upd_ne (ne rfl w1)]; exact w2, w3, w4, IsL.mono xF _ w5⟩
      | dic ks ys => obtain ⟨p', kvs, w1, w2, w3, w4, w5⟩ := w; exact ⟨p', kvs, w1, by rw [upd_ne (ne rfl w1)]; exact w2, w3, w4, IsL.mono xF _ w5⟩
      | dicT ks ys => obtain ⟨p', kvs, w1, w2, w3, w4, w5⟩ := w; exact ⟨p', kvs, w1, by rw [upd_ne (ne rfl w1)]; exact w2, w3, w4, IsL.mono xF _ w5⟩
  · rcases set_get z1 with ⟨_, rfl⟩ | ⟨_, z1⟩
    · cases m
    · exact R.own j s q z1 m z2
  · rcases set_get z1 with ⟨_, rfl⟩ | ⟨_, z1⟩
    · cases m1
    · rcases set_get z2 with ⟨_, rfl⟩ | ⟨_, z2⟩
      · cases m2
      · exact R.dis j k s t q z1 z2 m1 m2 z3 z4
/-- a test reads a list of one's own as data -/
theorem tv_lend (i : Nat) {c : Expr} {b : Bool} (hx : ss[i]? = some (.own xs)) (h : TV T X c (ss.set i (.d (.lst xs))) b) : TV T X c ss b := by
  refine PT.imp h fun σ H Q ⟨B, F, ss', b', ⟨e1, e2⟩, R, q⟩ => ?_
  subst e1; subst e2
  have hi : i < ss'.length := (List.getElem?_eq_some_iff.mp hx).1
  have hs : i < σ.length := by rw [R.len]; exact hi
  obtain ⟨p, vs, e, f0, h0, hd⟩ := R.slots i _ _ hx (List.getElem?_eq_getElem hs)
  have hσ : σ[i]? = some (some (.ref p)) := by rw [List.getElem?_eq_getElem hs, e]
  exact ⟨B, upd F p (.lst vs), _, _, ⟨rfl, rfl⟩, R.freezeAt hx hσ f0 h0 hd, fun F1 H1 n1 R1 => q _ H1 (Nx.back f0 n1) (R.grow (Nx.back f0 n1))⟩
end
section
variable {T : List (Addr × Str)} {P : Program} {w : World} {K : PySem.W.Frag} {mg : Str → Option Value} {base : Heap}
theorem fnd_ok {x qual : Str} {st : Stmt} {f : Addr} {fd : FuncData} {N ps : List Str} {k n : Nat} {pre : List D → List D → Prop} (F : Fun K x qual st f fd) (S : FnScope N ps (defScope st)) (hn : ps.length = n)
    (h : ∀ (cdv : Value) (A : Around) (outer : List Env) (s : Shared) (H : Hp) (E : XK) (ds xs : List D), Room k (A.deeper (envOfC qual (defScope st) s.heap.objs.size f cdv)) → ds.length = n → pre ds xs →
      RFd T (bodyX CX0 P w K mg base N qual st f cdv A outer s H E) (defBody st) (startS N ds) xs) : FnOk P w K mg base CX0 (k + 1) f fd ps (spN1 T K n pre) := by
  refine F.ok S (fun vs H Q E ⟨F, ds, us, _, _, _, i, l, _⟩ => by rw [i.length, l, hn]) (fun cdv A outer s H vs Q E hr hsp => ?_)
  obtain ⟨F0, ds, xs, x, nt, tb, i, l, p, q⟩ := hsp
  obtain ⟨t, hp, hk⟩ := h cdv A outer s H E ds xs hr l p
  exact ⟨t, hp, hk (F0, H) F0 H _ _ (start_str x nt tb i) fun p us F1 H1 n1 nd => q p us F1 H1 n1 nd⟩
end
end Fd

set_option Elab.async false
set_option linter.all false
set_option maxRecDepth 100000
set_option maxHeartbeats 4000000
/-! Fd37: a new list of new lists is told, read in a test, and then both it and its first list are changed. -/
namespace Fd
open PySem PySem.Spec PyProof.Rows L2
def EVNL (T : List (Addr × Str)) (X : Cx) (e : Expr) (ss : SS) (yss : List (List D)) : Prop := ∃ te, PE X e te ∧ ∀ B F H σ Q, StR T X.K B F H σ ss → (∀ p qs F1 H1, Nx T F H F1 H1 → StR T X.K B F1 H1 σ ss → F p = none → Fr H p → (∀ w ∈ qs, ∃ q, w = V.ref q ∧ F q = none ∧ Fr H q) → F1 p = some (.lst qs) → IsL X.K F1 (yss.map D.lst) qs → Q (.ref p) H1) → te σ H Q
theorem Nx.drop {T : List (Addr × Str)} {F H F1 H1 : Hp} {p : Addr} (h0 : F p = none) (n : Nx T F H F1 H1) : Nx T F H (fun b => if b = p then none else F1 b) H1 :=
  ⟨fun b o e => by
    have z : b ≠ p := fun z => by rw [z, h0] at e; cases e
    show (if b = p then none else F1 b) = some o
    rw [if_neg z]; exact n.f b o e, n.h, fun b o e => by
    have e : (if b = p then none else F1 b) = some o := e
    by_cases z : b = p
    · rw [if_pos z] at e; cases e
    · rw [if_neg z] at e; exact n.s b o e, fun q ps e => by
    have e : (if q = p then none else F1 q) = some _ := e
    by_cases z : q = p
    · rw [if_pos z] at e; cases e
    · rw [if_neg z] at e; exact n.nt q ps e, fun q o e => by
    have e : (if q = p then none else F1 q) = some o := e
    by_cases z : q = p
    · rw [if_pos z] at e; cases e
    · rw [if_neg z] at e; exact n.n q o e⟩
section
variable {T : List (Addr × Str)} {X : Cx} {ss : SS} {e c : Expr} {yss : List (List D)} {P : Post} {x : Str} {px p1 p2 p3 p4 p5 p6 p7 p8 pos pos2 pos3 pos4 : Pos} {body : List Stmt} {z z2 : Str} {j j2 j3 : Nat} {ap cp ap2 cp2 : Pos}
/-- own slots stand nowhere new -/
theorem own_new {B : Hp × Hp} {F H : Hp} {σ : L2.St} {K : PySem.W.Frag} {q : Addr} (R : StR T K B F H σ ss) (fr : Fr H q) {l : Nat} {s : S} (e : ss[l]? = some s) (m : s.mine = true) : σ[l]? ≠ some (some (.ref q)) := fun zz => by
  obtain ⟨p', e1, _, e3⟩ := R.mine_at e m
  rw [zz] at e1; cases e1
  cases ho : H q with
  | none => exact e3 ho
  | some o =>
    obtain ⟨ps, rfl⟩ := fr o ho
    exact R.plain e m zz _ ho (.inl ⟨ps, rfl⟩)
theorem svs_fresh (i : Nat) (he : EVNL T X e ss yss) (hne : yss ≠ []) (hl : yss.length ≤ 90000) (hl2 : ∀ y ∈ yss, y.length ≤ 90000) (hc : TV T X c (ss.set i (.d (.lst (yss.map D.lst)))) false) (k : P.nx (ss.set i .no)) (hil : i < ss.length)
    (hN : X.N.Nodup) (hi : X.N[i]? = some x := by rfl) (hx : Loc X.env.scope x := by first | exact Or.inl rfl | exact Or.inr rfl)
    (hs : swapsWith e (some (.Name x px)) pos.line X.env = pure false := by rfl) (hf : X.fn x = true ∨ X.env.scope.names.lookup x = some .local := by first | exact .inl rfl | exact .inr rfl | assumption)
    (hp : PE X (.Name x p1) (tVar i) := by exact pv _) (hp2 : PE X (.Name x p5) (tVar i) := by exact pv _)
    (a1 : ∀ {to : TE}, PE X (.Subscript (.Name x p1) (.Constant (.int 0) j p2) p3) to → PE X (.Call (.Attribute (.Subscript (.Name x p1) (.Constant (.int 0) j p2) p3) "append" ap) [.Constant (.str z) j2 p4] [] cp) (tBM X.K "list" rAppend to (tCons (tC (.str z)) tNil)) := by intro to g; exact pe_bm PySem.F.plainAttrs_list PySem.F.slot_list_append PySem.F.type_list_append mt_append g (pa_cons pe_str pa_nil))
    (a2 : ∀ {to : TE}, PE X (.Name x p5) to → PE X (.Call (.Attribute (.Name x p5) "append" ap2) [.Constant (.str z2) j3 p6] [] cp2) (tBM X.K "list" rAppend to (tCons (tC (.str z2)) tNil)) := by intro to g; exact pe_bm PySem.F.plainAttrs_list PySem.F.slot_list_append PySem.F.type_list_append mt_append g (pa_cons pe_str pa_nil))
    (h3 : swapsWith (.Call (.Attribute (.Subscript (.Name x p1) (.Constant (.int 0) j p2) p3) "append" ap) [.Constant (.str z) j2 p4] [] cp) none pos3.line X.env = pure false := by rfl)
    (h4 : swapsWith (.Call (.Attribute (.Name x p5) "append" ap2) [.Constant (.str z2) j3 p6] [] cp2) none pos4.line X.env = pure false := by rfl) :
    SVs T X [.Assign [.Name x px] e pos, .If c body [] pos2, .Expr (.Call (.Attribute (.Subscript (.Name x p1) (.Constant (.int 0) j p2) p3) "append" ap) [.Constant (.str z) j2 p4] [] cp) pos3, .Expr (.Call (.Attribute (.Name x p5) "append" ap2) [.Constant (.str z2) j3 p6] [] cp2) pos4] ss P := by
  obtain ⟨te, hpe, hk⟩ := he
  refine SVs.of (pss_cons (ps_set hN hi hx hpe hs hf) (pss_cons (ps_if hc (pss_all (T := T)) pss_nil) (pss_cons (ps_expr (a1 (pe_ix ix_list hp pe_int (fun _ _ => rfl))) h3) (pss_one (ps_expr (a2 hp2) h4))))) fun B F H σ Dn R g => hk B F H σ _ R fun p qs F1 H1 n1 R1 f0 fr nw fp dt => ?_
  obtain ⟨y0, yr, rfl⟩ : ∃ y0 yr, yss = y0 :: yr := by
    cases yss with
    | nil => exact absurd rfl hne
    | cons a b => exact ⟨a, b, rfl⟩
  have dt0 := dt
  obtain ⟨v0, qr, eq, ⟨q0, us0, rfl, fq, dq⟩, dr⟩ := dt0
  subst eq
  obtain ⟨q0', eq0, fq0, frq⟩ := nw (.ref q0) List.mem_cons_self
  cases eq0
  have lσ : i < σ.length := by rw [R.len]; exact hil
  have Rp := R1.put (i := i) (x := .lst ((y0 :: yr).map D.lst)) ⟨p, _, rfl, fp, dt⟩
  have sσ : (σ.set i (some (.ref p)))[i]? = some (some (.ref p)) := List.getElem?_set_self lσ
  refine ⟨B, F1, _, false, ⟨rfl, rfl⟩, Rp, fun F2 H2 n2 R2 => iteF ?_⟩
  have n3 := Nx.drop fq0 (Nx.drop f0 (n1.trans n2))
  have h2p : H2 p = some (.lst (.ref q0 :: qr)) := n2.s _ _ (n2.f _ _ fp)
  have h2q : H2 q0 = some (.lst us0) := n2.s _ _ (n2.f _ _ fq)
  have R3 := (R.grow n3).forget (i := i) (o := some (.ref p))
  have cody : ∀ {Hh : Hp} {q : Addr} {vs : List V}, Hh q = some (.lst vs) → ∀ o', Hh q = some o' → ¬ Codey o' := fun {Hh q vs} h o' e zz => by
    rw [h] at e; cases e
    rcases zz with ⟨_, w⟩ | ⟨_, _, w⟩ <;> cases w
  have nown : ∀ {q : Addr}, Fr H q → ∀ (l : Nat) (s : S), (ss.set i .no)[l]? = some s → s.mine = true → (σ.set i (some (.ref p)))[l]? ≠ some (some (.ref q)) := fun {q} hq l s e1 m zz => by
    by_cases hli : l = i
    · subst hli
      rw [List.getElem?_set_self hil] at e1
      cases e1; cases m
    · rw [List.getElem?_set_ne (Ne.symm hli)] at e1 zz
      exact own_new R hq e1 m zz
  have f3q : (fun b => if b = q0 then none else (fun b => if b = p then none else F2 b) b) q0 = none := if_pos rfl
  have f3p : (fun b => if b = q0 then none else (fun b => if b = p then none else F2 b) b) p = none := by
    by_cases hpq : p = q0
    · exact if_pos hpq
    · show (if p = q0 then none else if p = p then none else F2 p) = none
      rw [if_neg hpq, if_pos rfl]
  have R4 := R3.updH (o := .lst (us0 ++ [.str z])) f3q (R.base_fr frq) (cody h2q) (nown frq)
  obtain ⟨ws, h4p, hws⟩ : ∃ ws, (upd H2 q0 (.lst (us0 ++ [.str z]))) p = some (.lst ws) ∧ ws.length ≤ 90001 := by
    by_cases hpq : p = q0
    · subst hpq
      refine ⟨_, upd_same, ?_⟩
      rw [List.length_append, List.length_singleton, dq.length]
      have := hl2 y0 List.mem_cons_self
      omega
    · refine ⟨_, by rw [upd_ne hpq]; exact h2p, ?_⟩
      rw [dt.length, List.length_map]
      omega
  refine ⟨.ref p, sσ, p, _, 0, .ref q0, rfl, rfl, SqL.of h2p, (atI_nat (j := 0) (show (V.ref q0 :: qr)[0]? = some (V.ref q0) from rfl)), .inl ⟨rfl, _, SqL.of h2q⟩, q0, us0, .str z, rfl, rfl, h2q, ?_, ?_⟩
  · rw [dq.length, sizeLine_eq]
    have := hl2 y0 List.mem_cons_self
    omega
  · refine ⟨.ref p, sσ, .inl ⟨rfl, _, SqL.of h4p⟩, p, ws, .str z2, rfl, rfl, h4p, by rw [sizeLine_eq]; omega, g.nx _ _ _ _ k (R4.updH f3p (R.base_fr fr) (cody h4p) (nown fr))⟩
end
end Fd

set_option Elab.async false
set_option linter.all false
set_option maxRecDepth 100000
set_option maxHeartbeats 4000000
/-! Fd38: dict(list of pairs). -/
namespace Fd
open PySem PySem.Spec PyProof.Rows L2
theorem boot_dict : bootBuiltins "dict" = some (.type "dict") := by decide +kernel
theorem merge_new : ∀ (kvs acc : List (Key × V)), (∀ kv ∈ kvs, kv.1 ∉ acc.map (·.1)) → (kvs.map (·.1)).Nodup → kvs.foldl (fun acc kv => putK acc kv.1 kv.2) acc = acc ++ kvs
  | [], acc, _, _ => by simp
  | kv :: r, acc, h, nd => by
    have h0 := h kv List.mem_cons_self
    have e : putK acc kv.1 kv.2 = acc ++ [kv] := by
      unfold putK
      rw [if_neg]
      intro z
      obtain ⟨x, hx, e⟩ := List.any_eq_true.mp z
      exact h0 (List.mem_map.mpr ⟨x, hx, of_decide_eq_true e⟩)
    rw [List.foldl_cons, e, merge_new r (acc ++ [kv]) (fun y hy z => ?_) (List.nodup_cons.mp nd).2, List.append_assoc]
    · rfl
    · rw [List.map_append] at z
      rcases List.mem_append.mp z with z | z
      · exact h y (List.mem_cons_of_mem _ hy) z
      · have e2 : y.1 = kv.1 := by simpa using z
        exact (List.nodup_cons.mp nd).1 (List.mem_map.mpr ⟨y, hy, e2⟩)
theorem pairs_at {K : PySem.W.Frag} {F H : Hp} (x : Ext F H) : ∀ {l : List (Str × D)} {us : List V}, IsL K F (l.map fun y => D.tup [.str y.1, y.2]) us → ∃ (ps : List Addr) (kvs : List (Key × V)), us = ps.map V.ref ∧ Paired (fun p (kv : Key × V) => SqT K H p [kV kv.1, kv.2]) ps kvs ∧ kvs.map (·.1) = l.map (fun y => Sum.inr y.1) ∧ IsL K F (l.map (·.2)) (kvs.map (·.2))
  | [], _, h => ⟨[], [], h, .nil, rfl, rfl⟩
  | y :: l, _, h => by
    obtain ⟨v, r, rfl, ⟨a, vs, rfl, e1, v1, r1, rfl, k1, v2, r2, rfl, k2, k3⟩, h2⟩ := h
    cases k3
    obtain rfl := k1
    obtain ⟨ps, kvs, rfl, q1, q2, q3⟩ := pairs_at x h2
    exact ⟨a :: ps, (Sum.inr y.1, v2) :: kvs, rfl, .cons (ext_seqT x e1) q1, by rw [List.map_cons, q2]; rfl, ⟨v2, _, rfl, k2, q3⟩⟩
section
variable {T : List (Addr × Str)} {X : Cx} {ss : SS} {e : Expr} {p pos : Pos}
theorem ev_dictP {l : List (Str × D)} (nd : (l.map (·.1)).Nodup) (ha : EV T X e ss (.lst (l.map fun y => .tup [.str y.1, y.2]))) (hm : X.mg "dict" = none) (hc : X.calm = true := by rfl) (hg : Gl X "dict" := by rfl) (he : starEach [e] X.env = [(false, eval e X.env)] := by rfl) : EV T X (.Call (.Name "dict" p) [e] [] pos) ss (.dct (l.map fun y => Sum.inr y.1) (l.map (·.2))) :=
  ev_bty (call_dictP hc) (evs_cons ha evs_nil he) hm boot_dict (fun B F H σ vs Q R i1 q => by
    obtain ⟨v, rfl, i⟩ := isL1 i1
    obtain ⟨a, us, rfl, e1, e2⟩ := i
    obtain ⟨ps, kvs, rfl, q1, q2, q3⟩ := pairs_at R.sub e2
    refine ⟨a, ps, kvs, rfl, SqL.of (R.sub _ _ e1), q1, fun d hd => ?_⟩
    have em : mergeK [] kvs = kvs := by
      have h := merge_new kvs [] (fun _ _ z => nomatch z) (by
        rw [q2]
        have : l.map (fun y => (Sum.inr y.1 : Key)) = (l.map (·.1)).map Sum.inr := by rw [List.map_map]; rfl
        rw [this]
        exact nd.map _ fun a b h z => h (Sum.inr.inj z))
      exact h
    rw [em]
    exact q _ _ _ (Nx.alloc R.sub hd) (R.alloc hd) ⟨d, kvs, rfl, upd_same, q2, IsL.mono (Ext.upd (R.free hd)) _ q3⟩) hg (he := he)
end
end Fd

set_option Elab.async false
set_option linter.all false
set_option maxRecDepth 100000
set_option maxHeartbeats 4000000
/-! Fd39: a != b of lists of the very same things. -/
namespace Fd
open PySem PySem.Spec PyProof.Rows L2
def okV : V → Bool
  | .ref _ => true | .int _ => true | .str _ => true | .bl _ => true | .non => true
  | _ => false
theorem eqAt_same {A : Around} {s : Shared} {x : V} {v u : Value} (h : okV x = true) (rv : RelV x v) (ru : RelV x u) : SeqAt.EqAt A s v u true := by
  cases x with
  | ref a => cases rv; cases ru; exact SeqAt.EqAt.same _
  | int i =>
    obtain ⟨t, rfl⟩ := rv
    obtain ⟨t', rfl⟩ := ru
    have := SeqAt.EqAt.int_int (A := A) (s := s) i t i t'
    rwa [show (i == i) = true from beq_self_eq_true i] at this
  | str x =>
    obtain ⟨t, rfl⟩ := rv
    obtain ⟨t', rfl⟩ := ru
    have := SeqAt.EqAt.str_str (A := A) (s := s) x t x t'
    rwa [show (x == x) = true from beq_self_eq_true x] at this
  | bl b => cases rv; cases ru; exact SeqAt.EqAt.same _
  | non => cases rv; cases ru; exact SeqAt.EqAt.same _
  | _ => cases h
theorem op_neSame {X : Cx} (hu : X.A.units < cLine) : OpR X (compareOp .NotEq) (fun x y H Q => ∃ a b xs, x = V.ref a ∧ y = V.ref b ∧ SqL X.K H a xs ∧ SqL X.K H b xs ∧ (∀ v ∈ xs, okV v = true) ∧ Q (.bl false) H) := by
  rintro pins s σ H x y v u Q I rx ry ⟨a, b, xs, rfl, rfl, ha, hb, hv, q⟩
  cases rx
  cases ry
  obtain ⟨us, r1, p1, _⟩ := Inv.list I ha
  obtain ⟨ws, r2, p2, _⟩ := Inv.list I hb
  have l1 := Vals.length r1
  have l2 := Vals.length r2
  obtain ⟨⟨cls, dd, data, sl⟩, ho, hc, n, hd⟩ := p1.isList
  obtain ⟨⟨cls2, dd2, data2, sl2⟩, ho2, hc2, n2, hd2⟩ := p2.isList
  cases hc; cases hd; cases hc2; cases hd2
  have e : ∀ (j : Nat) (h1 : j < us.toArray.size) (h2 : j < ws.toArray.size), SeqAt.EqAt X.A.in1 s us.toArray[j] ws.toArray[j] true := fun j h1 h2 => by
    have hj : j < us.length := by simpa using h1
    have hx : j < xs.length := by omega
    obtain ⟨v1, e1, w1⟩ := Vals.get r1 (List.getElem?_eq_getElem hx)
    obtain ⟨v2, e2, w2⟩ := Vals.get r2 (List.getElem?_eq_getElem hx)
    have q1 : us.toArray[j] = v1 := by
      rw [List.getElem?_eq_getElem hj] at e1
      simpa using e1
    have q2 : ws.toArray[j] = v2 := by
      rw [List.getElem?_eq_getElem (by omega)] at e2
      simpa using e2
    rw [q1, q2]
    exact eqAt_same (hv _ (List.getElem_mem hx)) w1 w2
  show wpAny _ _ (richCompare .NotEq (.ref a) (.ref b)) _ _ _
  refine wpAny_richCompare_same_room ⟨_, ho, rfl⟩ ⟨_, ho2, rfl⟩ F.slot_list_ne ?_ hu
  refine call_meets F.slot_list_ne ⟨_, ho, rfl⟩ F.entry_list_ne (F.args_list_ne_2 (.ref a) (.ref b)) (SeqAt.list_neAt a b us.toArray ws.toArray n n2 dd dd2 sl sl2 (by simp; omega) fun _ => true) ⟨ho, ho2, e, ?_⟩
  refine ⟨fun z => (nomatch z), ?_⟩
  have : (!(List.range us.toArray.size).all fun _ => true) = false := by
    rw [List.all_eq_true.mpr fun _ _ => rfl]; rfl
  rw [this]
  exact ⟨.bl false, H, I, rfl, q⟩
end Fd

set_option Elab.async false
set_option linter.all false
set_option maxRecDepth 100000
set_option maxHeartbeats 4000000
/-! DcT: dict comprehensions whose keys are tuples of whole numbers and texts. -/
namespace DcT
open PySem PySem.Spec PyProof.Rows L2
variable {X : Cx}
/-- a tuple key is laid into the dict at D -/
theorem lay {pins : List (Addr × Obj)} {σ : L2.St} {H : Hp} {s : Shared} {E : Value → Shared → Prop} {D b : Addr} {kvs : List (List Key × V)} {k : List Key} {z : V} {r : Value} {Q : Unit → Shared → Prop}
    (hu : X.A.units < cLine) (J : Inv X pins σ H s) (hD : H D = some (.dT kvs)) (hb : H b = some (.tup (k.map kV))) (room : kvs.length < sizeLine) (rz : RelV z r)
    (go : ∀ s', Inv X pins σ (upd H D (.dT (putK kvs k z))) s' → Q () s') : wpAny (model X.prog X.w) X.A (dictSet D (.ref b) r) Q E s := by
  obtain ⟨h1, h2, xs, pr, dd⟩ := dt_of J.hok hD
  have lx : xs.length ≤ sizeLine := by have := Paired.length pr; omega
  have lk : (putK kvs k z).length ≤ sizeLine := by have := length_putK kvs k z; omega
  refine wpAny_dictSet_heap (hsz := lx) hu (key_of J.hok hb) dd fun h' dd' same => go _ ?_
  obtain ⟨q, es, ep, w1, w2, w3, w4, _, w5⟩ := dd'
  refine d_write J (by rw [hD]; exact True.intro) same ⟨q, w1⟩ ⟨lk, h2, _, (pr.put k hb rz).keeps fun c ys ec => ?_, q, es, ep, w1, w2, w3, w4, w5⟩
  rw [upd_ne (ne_of ec hD (fun y => nomatch y))]
  exact ec
/-- what a turn of the comprehension does: the key is the tuple at b, z is laid under it -/
def turnT (tt : TT) (tk tv : TE) (D : Addr) (Nx : Hp → Prop) (σ : L2.St) (H : Hp) : Prop :=
  tt σ H fun c H3 => if c = true then tk σ H3 fun y H4 => tv σ H4 fun z H5 => ∃ kvs k b, y = .ref b ∧ H5 b = some (.tup (k.map kV)) ∧ H5 D = some (.dT kvs) ∧ kvs.length < sizeLine ∧ Nx (upd H5 D (.dT (putK kvs k z))) else Nx H3
/-- {k: v for target in iter if ..} -/
def tDcT (wi : TI) (g : TG) (tt : TT) (tk tv : TE) (vs : List Nat) : TE := fun σ H Q => wi σ H fun J H1 => ∀ D, H1 D = none → ∃ W : Nat → Nat → Hp → Prop, (∃ m, W 0 m (upd H1 D (.dT []))) ∧
  ∀ i m Ha, W i m Ha → (J.stop i Ha ∧ Q (.ref D) Ha) ∨ (J.go i Ha ∧ ∃ Nx : Hp → Prop, (∀ Hb, Nx Hb → ∃ l, l < m ∧ W (i + 1) l Hb) ∧
    ∀ x Hb, J.yld i Ha x Hb → g x (wipe σ vs) Hb fun σ2 H2 => wipe σ2 vs = wipe σ vs ∧ turnT tt tk tv D Nx σ2 H2)
/-- the blocks of a comprehension -/
abbrev Blk (X : Cx) (scope : Scope) (s : Shared) (H : Hp) (C : Addr) (cl : List (Str × Addr)) (fp : List Addr) : Cx := X.blk s H scope (compEnvC scope cl C X.env) fp
theorem pe_dcT {kx vx tg iter : Expr} {ifs : List Expr} {scope : Scope} {own : List (Str × Nat)} {pos : Pos} {wi : TI} {g : TG} {tt : TT} {tk tv : TE} (hu : X.A.units < cLine) (hc : X.calm = true) (hN : X.N.Nodup) (hi : PI X tg iter wi) (ok : BlkOk X.N X.env.scope scope own)
    (hg : ∀ s H C cl fp, PG (Blk X scope s H C cl fp) tg g) (ht : ∀ s H C cl fp, PTs (Blk X scope s H C cl fp) ifs tt) (hk : ∀ s H C cl fp, PE (Blk X scope s H C cl fp) kx tk) (hv : ∀ s H C cl fp, PE (Blk X scope s H C cl fp) vx tv)
    (hs : ∀ x, foldedSetIterable iter X.env x = pure x := by intro _; rfl) : PE X (.DictComp kx vx [⟨tg, iter, ifs, 0⟩] scope pos) (tDcT wi g tt tk tv (own.map (·.2))) := by
  constructor
  intro pins s σ H Q J0 h0
  rw [arm_eval_DictComp]
  have cells : ∀ y ∈ scope.names, y.2 = .free → ∃ c, X.env.cells.lookup y.1 = some c := fun y hy e => J0.ok.has _ (ok.free y hy e)
  refine wpAny_comprehension_free (use := none) rfl hs (closure_ok cells) ok.kind (fun y hy e => by rw [ok.uniq y hy, e]) (thn (hi.run pins s σ H _ J0 h0) fun v0 sa ha => thn ha fun v1 sb hb => ?_)
  obtain ⟨it, fp, tn, I, Hb, rfl, Jb, Tn, stb, fpb, qq⟩ := hb; refine wpAny_newObj_type (newEnv_comp ?_)
  -- D: the new dict; C: the block's own table
  obtain ⟨D, eD⟩ : ∃ D, sb.heap.objs.size = D := ⟨_, rfl⟩
  have freeD : Hb D = none := Jb.hok.fresh (Nat.le_of_eq eD)
  obtain ⟨W, ⟨m0, w0⟩, turn⟩ := qq D freeD
  obtain ⟨sc, esc⟩ : ∃ sc : Shared, ({ sb with heap := sb.heap.push { cls := .type "dict", data := .dict #[] } } : Shared) = sc := ⟨_, rfl⟩
  have hp : sc.heap = sb.heap.push { cls := .type "dict", data := .dict #[] } := by rw [← esc]
  rw [eD, esc]
  have Jc : Inv X pins σ (upd Hb D (.dT [])) sc := by
    subst esc
    refine Jb.laid (t' := sb.toks) (fun b o e => Heap.get?_push_of_some _ e) (Nat.le_of_eq eD) ?_
    subst eD
    exact dt_empty sb.heap Jb.big
  have grow : ∀ b o, sb.heap.get? b = some o → sc.heap.get? b = some o := fun b o e => by rw [hp]; exact Heap.get?_push_of_some _ e
  have fpc : ∀ b ∈ fp, FpOk X pins (upd Hb D (.dT [])) b ∧ b < sc.heap.objs.size := fun b m => by
    obtain ⟨o, e, _⟩ := Tn.obj _ _ stb b m
    have lt := Heap.lt_size e
    have ne : b ≠ D := fun z => absurd (eD ▸ z ▸ lt) (Nat.lt_irrefl _)
    exact ⟨⟨by rw [upd_ne ne]; exact (fpb b m).1, (fpb b m).2⟩, Heap.lt_size (grow b o e)⟩
  have Jd := block_start Jc ok hN fpc
  show codeAny _ _ (.compStart _ 0 (.ref it) (.ref D) (compEnvC scope (cellsFrom (sc.heap.objs.size + 1) scope.names (cloFrom X.env.cells scope.names [])) sc.heap.objs.size X.env)) (compPost (model X.prog X.w) X.A X.xe none (EP X pins σ Q) (.ref D) sc.heap.objs.size)
    { sc with heap := pushCells (sc.heap.push { cls := .type "dict", data := .dict #[] }) scope.names }
  generalize eC : sc.heap.objs.size = C at Jd fpc ⊢
  generalize ecl : cellsFrom (C + 1) scope.names (cloFrom X.env.cells scope.names []) = cl at Jd ⊢
  have lC : (compEnvC scope cl C X.env).locals = C := rfl
  have pg := hg sc (upd Hb D (.dT [])) C cl fp
  have pt := ht sc (upd Hb D (.dT [])) C cl fp
  have pk := hk sc (upd Hb D (.dT [])) C cl fp
  have pv := hv sc (upd Hb D (.dT [])) C cl fp
  unfold Blk at pg pt pk pv
  generalize eCe : compEnvC scope cl C X.env = ce at lC Jd pg pt pk pv ⊢
  have noHc : ∀ b ∈ fp, upd Hb D (.dT []) b = none := fun b m => (fpc b m).1.1
  generalize eHc : upd Hb D (.dT []) = Hc at w0 Jc Jd fpc pg pt pk pv noHc
  obtain ⟨sd, esd⟩ : ∃ sd : Shared, ({ sc with heap := pushCells (sc.heap.push { cls := .type "dict", data := .dict #[] }) scope.names } : Shared) = sd := ⟨_, rfl⟩
  rw [esd] at Jd
  have std : tn 0 sd.heap := Tn.keep _ _ _ stb fun b _ o e => by rw [← esd]; exact pushCells_keeps _ _ _ _ (Heap.get?_push_of_some _ (grow b o e))
  rw [esd]
  have okFp : ∀ {τ : L2.St} {Hn : Hp} {sn : Shared}, Inv (X.blk sc Hc scope ce fp) [] τ Hn sn → (∀ b ∈ fp, Hn b = none) → ∀ b ∈ fp, FpOk (X.blk sc Hc scope ce fp) [] Hn b := fun {τ Hn sn} Jn no b m =>
    ⟨no b m, (Jn.ok.exf b m).1, Jn.ok.exfs b m, .inl m, fun x c e => (Jn.ok.exf b m).2 x c e, fun p hp => absurd hp (by intro z; exact nomatch (show p ∈ ([] : List (Addr × Obj)) from by simpa using z))⟩
  have run : codeAny (model X.prog X.w) X.A (.compLoop (.DictComp kx vx [⟨tg, iter, ifs, 0⟩] scope pos) 0 (.ref it) (.ref D) ce) (compPost (model X.prog X.w) X.A X.xe none (EP X pins σ Q) (.ref D) C) sd := by
    refine compLoop_anyD (fun n sn => ∃ i Hn, Inv (X.blk sc Hc scope ce fp) [] (wipe σ (own.map (·.2))) Hn sn ∧ tn i sn.heap ∧ (∀ b ∈ fp, Hn b = none) ∧ W i n Hn) (fun n sn ⟨i, Hn, Jn, stn, non, wn⟩ => ?_) m0 ⟨0, Hc, Jd, std, noHc, w0⟩
    rcases turn i n Hn wn with ⟨stop, fin⟩ | ⟨go, Nx, less, step⟩
    · refine thnF (Tn.done (X.blk sc Hc scope ce fp) rfl rfl rfl hc i [] sn _ Hn (fun _ _ => False) Jn (okFp Jn non) stn stop) fun r se ⟨hr, Je⟩ => ?_
      subst hr
      have Jf : Inv X pins σ Hn se := Jc.call' (ch := fp) Je.os Je.base Je.hok Je.bare fun b m => ⟨(fpc b m).1.2.2.2.1, (fpc b m).1.2.1, (fpc b m).1.2.2.2.2.1, (fpc b m).1.2.2.2.2.2⟩
      have noC : Hn C = none := by have z : Hn ce.locals = none := Je.free; rwa [lC] at z
      obtain ⟨m, hm, _⟩ := Je.loc
      have ns : se.heap.Ns C m := by have z : se.heap.Ns ce.locals m := hm; rwa [lC] at z
      obtain ⟨f0, f1, f2, f3, f4, f5⟩ := Jc.fpOk (Nat.le_of_eq eC) noC
      exact ⟨m, ns, fun h'' sb'' => ⟨.ref D, Hn, Jf.turned (t' := se.toks) (fun b o ne e => (sb''.2 b ne).trans e) f0 f1 f3 f4 f5, rfl, fin⟩⟩
    · refine thnF (Tn.item (X.blk sc Hc scope ce fp) rfl rfl rfl hc i [] sn _ Hn (fun _ _ => False) Jn (okFp Jn non) stn go) fun r se ⟨u, hr, hu'⟩ => ?_
      subst hr
      refine thnF hu' fun _ sf ⟨x, Hf, Jf, rx, yl, stf, nof⟩ => ?_
      have Jp := Jf.pinned (okFp Jf nof) (Tn.obj _ _ stf)
      -- what a turn ends in
      have close : ∀ {τ : L2.St} {Hz : Hp} {sz : Shared}, wipe τ (own.map (·.2)) = wipe σ (own.map (·.2)) → Inv (X.blk sc Hc scope ce fp) ([] ++ pinsAt fp sf.heap) τ Hz sz → Nx Hz →
          ∃ l, l < n ∧ ∃ i' Hy, Inv (X.blk sc Hc scope ce fp) [] (wipe σ (own.map (·.2))) Hy sz ∧ tn i' sz.heap ∧ (∀ b ∈ fp, Hy b = none) ∧ W i' l Hy := fun {τ Hz sz} ew Jz nz => by
        obtain ⟨l, hl, wl⟩ := less Hz nz
        have held : ∀ b ∈ fp, ∀ o, sf.heap.get? b = some o → sz.heap.get? b = some o ∧ Hz b = none := fun b m o e => by
          have y := Jz.pin (b, o) (List.mem_append_right _ (List.mem_append_right _ (mem_pinsAt m e)))
          exact ⟨y.1, y.2.1⟩
        refine ⟨l, hl, i + 1, Hz, (Jz.unpinned (pins := [])).weak (by rw [← ew, wipe_length]) (fun j v e => ?_), Tn.keep _ _ _ stf fun b m o e => (held b m o e).1, fun b m => ?_, wl⟩
        · rw [← ew] at e
          exact (wipe_some e).1
        · obtain ⟨o, e, _⟩ := Tn.obj _ _ stf b m
          exact (held b m o e).2
      refine thnF (pg.run _ sf _ Hf x u _ Jp rx (step x Hf yl)) fun _ sg ⟨τ, Hg, Jg, ew, qg⟩ => ?_
      refine thnF (pt.run _ sg τ Hg _ Jg qg) fun c sh ⟨Hh, Jh, qh⟩ => ?_
      cases c with
      | false => exact close ew Jh (by simpa using qh)
      | true =>
        simp only [if_true] at qh ⊢
        refine thnF (pk.run _ sh τ Hh _ Jh qh) fun w1 si ⟨y, Hi, Ji, ry, qi⟩ => thnF (pv.run _ si τ Hi _ Ji qi) fun w2 sj ⟨z, Hj, Jj, rz, kvs, k, b, ey, eb, eDj, room, nz⟩ => ?_
        subst ey
        cases (show w1 = Value.ref b from ry)
        exact lay (X := X.blk sc Hc scope ce fp) hu Jj eDj eb room rz fun sk Jk => close ew Jk nz
  exact codeAny_compStart_dict run (Tn.self X.A 0 _ _ _ std run)
end DcT

set_option Elab.async false
set_option linter.all false
set_option maxRecDepth 100000
set_option maxHeartbeats 4000000
/-! ItT: for k, v in d.items(), d a locked dict whose keys are tuples. -/
namespace ItT
open PySem PySem.Spec PyProof.Rows L2
/-- the pairs, each a new tuple of the key's own tuple and the value -/
def Itp (d : Addr) (o : Obj) (kvs : List (List Key × V)) : It where
  go := fun i H => i < kvs.length ∧ H d = some (.frz o (.dT kvs))
  yld := fun i H x H' => ∃ t q k v, x = .ref t ∧ kvs[i]? = some (k, v) ∧ H q = some (.tup (k.map kV)) ∧ H t = none ∧ H' = upd H t (.tup [.ref q, v])
  stop := fun i H => kvs.length ≤ i ∧ H d = some (.frz o (.dT kvs))
section
variable {X : Cx} {pins : List (Addr × Obj)} {σ : L2.St} {H : Hp} {s : Shared} {d : Addr} {o : Obj} {kvs : List (List Key × V)}
theorem entries (J : Inv X pins σ H s) (h : H d = some (.frz o (.dT kvs))) : (d == sysModules) = false ∧ ∃ (es : Array DictEntry) (ep : Nat), o.data = .dict es ep ∧ DT.Raw s.heap d es ep ∧ es.size = kvs.length ∧
    ∀ (i : Nat) (hi : i < es.size), ∃ k v q, kvs[i]? = some (k, v) ∧ es[i].key = .ref q ∧ H q = some (.tup (k.map kV)) ∧ RelV v es[i].val := by
  obtain ⟨hd, _, ns, xs, pr, o', es, ep, ho, hx, hdt, he, _⟩ := J.hok d _ h
  cases hd.symm.trans ho
  have l1 : es.size = xs.length := size_of_entries he
  have lk : kvs.length = xs.length := Paired.length pr
  refine ⟨ns, es, ep, hdt, ⟨_, hd, hx, hdt⟩, l1.trans lk.symm, fun i hi => ?_⟩
  have hk : kvs[i]? = some kvs[i] := List.getElem?_eq_getElem (by omega)
  obtain ⟨b, hb, e1, e2, e3⟩ := paired_get pr hk
  have q := entry_at he i
  rw [hb, Array.getElem?_eq_getElem hi] at q
  have q := Option.some.inj q
  exact ⟨kvs[i].1, kvs[i].2, b.2.1, hk, by rw [q]; rfl, e2, by rw [q]; exact e3⟩
theorem same_es {es es' : Array DictEntry} {ep ep' : Nat} (h : o.data = .dict es ep) (h' : o.data = .dict es' ep') : es' = es ∧ ep' = ep := by
  cases h.symm.trans h'
  exact ⟨rfl, rfl⟩
end
theorem turns {P : Program} {w : World} {K : PySem.W.Frag} {elts : List Expr} {kk : Nat} {tpos : Pos} {d : Addr} {o : Obj} {es : Array DictEntry} {ep : Nat} {kvs : List (List Key × V)} (it : Addr) (hod : o.data = .dict es ep) (hz : es.size = kvs.length) :
    Turn P w K (.Tuple elts kk tpos) (Itp d o kvs) [it] it (fun i h => ∃ ok ov, IsItemIter h it d i es.size ep ok ov) where
  mem := List.mem_singleton.mpr rfl
  obj := fun i h st b m => by
    obtain ⟨ok, ov, e⟩ := st
    cases List.mem_singleton.mp m
    exact ⟨_, e, fun u ne => nomatch ne⟩
  keep := fun i h h' st k => by
    obtain ⟨ok, ov, e⟩ := st
    exact ⟨ok, ov, k it (List.mem_singleton.mpr rfl) _ e⟩
  self := fun _ _ _ _ _ st h => by
    obtain ⟨_, _, e⟩ := st
    exact PySem.W.kcp_self e h
  done := by
    intro X hP hw hK hc i pins s σ H E J hf st ⟨hi, hd⟩
    subst hP hw hK
    obtain ⟨f0, f1, f2, f3, f4, f5⟩ := hf it (List.mem_singleton.mpr rfl)
    obtain ⟨ns, es', ep', e1, raw, sz, _⟩ := entries J hd
    obtain ⟨rfl, rfl⟩ := same_es hod e1
    obtain ⟨ok, ov, e⟩ := st
    exact DT.endI (J.ok.hd hc) e raw (by omega) fun h' x => ⟨rfl, J.turned (t' := s.toks) (fun b ob hb e => x b ob hb e) f0 f1 f3 f4 f5⟩
  item := by
    intro X hP hw hK hc i pins s σ H E J hf st ⟨hi, hd⟩
    subst hP hw hK
    obtain ⟨ns, es', ep', e1, raw, sz, ents⟩ := entries J hd
    obtain ⟨rfl, rfl⟩ := same_es hod e1
    have hi' : i < es'.size := by omega
    obtain ⟨k, v, q, hkv, ek, eq, rv⟩ := ents i hi'
    obtain ⟨ok, ov, e⟩ := st
    have lt : it < s.heap.objs.size := Heap.lt_size e
    refine DT.nextI e raw hi' fun h' out tup sz' keep => ⟨_, rfl, wpAny_letOwnedTupleGo_items (s := { s with heap := h' }) out fun h2 e2 sb => ?_⟩
    have tup2 : h2.get? s.heap.objs.size = some { cls := .type "tuple", data := .seq #[es'[i].key, es'[i].val] } := (sb.2 _ (Nat.ne_of_gt lt)).trans tup
    have fresh : H s.heap.objs.size = none := J.hok.fresh (Nat.le_refl _)
    have new : ObjOk X.prog X.w (upd H s.heap.objs.size (.tup [.ref q, v])) h2 s.heap.objs.size (.tup [.ref q, v]) :=
      ⟨by show 2 ≤ sizeLine; decide, [es'[i].key, es'[i].val], .cons ek (.cons rv .nil), _, tup2, rfl, _, rfl⟩
    refine ⟨.ref s.heap.objs.size, _, J.turnedNew (t' := s.toks) (ch := [it]) (fun b ob m z => ?_) hf (Nat.le_refl _) new, rfl, ⟨_, q, k, v, rfl, hkv, eq, fresh, rfl⟩, ⟨_, _, e2⟩, fun b m => ?_⟩
    · have m' : b ≠ it := fun y => m (List.mem_singleton.mpr y)
      exact (sb.2 b m').trans (keep b ob m' z)
    · cases List.mem_singleton.mp m
      rw [upd_ne (Nat.ne_of_lt lt)]
      exact (hf it (List.mem_singleton.mpr rfl)).1
/-- the dict is locked -/
def iPairs (td : TE) : TI := fun σ H R => td σ H fun x H1 => ∃ d o kvs, x = .ref d ∧ H1 d = some (.frz o (.dT kvs)) ∧ R (Itp d o kvs) H1
theorem pi_pairs {X : Cx} {e : Expr} {td : TE} {apos cpos : Pos} {elts : List Expr} {kk : Nat} {tpos : Pos} (he : PE X e td) (hbase : attributeBase e "items" X.env (eval e X.env) = eval e X.env := by rfl) (hline : (apos.endLine == cpos.line) = true := by rfl) :
    PI X (.Tuple elts kk tpos) (.Call (.Attribute e "items" apos) [] [] cpos) (iPairs td) := by
  constructor
  intro pins s σ H R J h
  refine wpAny_Call_method (T := "dict") (id := "dict.items") hbase rfl hline F.plainAttrs_dict F.slot_dict_items F.type_dict_items (thn (he.run pins s σ H _ J h) fun u sa ⟨x, Ha, Ja, rx, d, o, kvs, ex, hd, q⟩ => ?_)
  subst ex
  cases (show u = Value.ref d from rx)
  obtain ⟨ns, es, ep, e1, raw, sz, _⟩ := entries Ja hd
  refine ⟨raw.typeIs, fun a ea => ?nd, ?_⟩
  case nd =>
    cases ea
    obtain ⟨o', w1, w2, w3⟩ := raw
    exact ⟨o', w1, w2.2.1⟩
  have Jb : Inv X pins σ Ha { sa with heap := sa.heap.push { cls := .type "dict_items", data := .fields #[.ref d] } } := Ja.kept (t' := sa.toks) fun b ob z => Heap.get?_push_of_some _ z
  have fin : wpAny (model X.prog X.w) X.A (pyIter (.ref sa.heap.objs.size)) (PIE X pins σ (.Tuple elts kk tpos) R) X.xe { sa with heap := sa.heap.push { cls := .type "dict_items", data := .fields #[.ref d] } } :=
    DT.iterI (d := d) ⟨_, Heap.get?_push_size _ rfl, rfl, rfl⟩ (raw.push _) (pi_one (tk := sa.toks) Jb _ (turns _ e1 sz) ⟨.none, .none, Heap.get?_push_size _ rfl⟩ q)
  show wpAny _ _ (callWith cpos (.builtin "dict.items") [.ref d] [] []) _ X.xe sa
  exact method_meetsIn F.slot_dict_items F.entry_dict_items rfl (PySem.evalArgs_none ⟨rfl, raw.typeIs, F.args_dict_items_1 _, _, DT.meetsItems (es := es) (ep := ep) ns, raw, fin⟩)
end ItT

set_option Elab.async false
set_option linter.all false
set_option maxRecDepth 100000
set_option maxHeartbeats 4000000
/-! Fd40: dict comprehensions with tuple keys: what is told is locked for ever, a datum; walks of such dicts. -/
namespace Fd
open PySem PySem.Spec PyProof.Rows L2
/-- e's value is a thing that is locked from here on -/
def tFrzV (t : TE) : TE := fun σ H Q => t σ H fun v H1 => ∃ d u, v = .ref d ∧ H1 d = some u ∧ Mut (some u) ∧ ∀ ob, Q v (upd H1 d (.frz ob u))
theorem pe_frzV {X : Cx} {e : Expr} {t : TE} (h : PE X e t) : PE X e (tFrzV t) := ⟨fun pins s σ H Q J q => by
  refine thn (h.run pins s σ H _ J q) fun v s1 ⟨x, H1, J1, r, d, u, ex, hd, mu, k⟩ => ?_
  obtain ⟨ob, J2⟩ := J1.lock hd mu
  exact ⟨x, _, J2, r, k ob⟩⟩
section
variable {T : List (Addr × Str)} {K : PySem.W.Frag} {B : Hp × Hp} {F H F1 H1 : Hp} {σ : L2.St} {ss : SS}
theorem Nx.frz {D : Addr} {ob : Obj} {kvs : List (List Key × V)} (n : Nx T F H F1 H1) (h1 : F1 D = none) (h2 : Fr H D) (h3 : H1 D = some (.dT kvs)) : Nx T F H (upd F1 D (.frz ob (.dT kvs))) (upd H1 D (.frz ob (.dT kvs))) where
  f := n.f.trans (Ext.upd h1)
  h := ⟨fun p o e no => by
    have q : p ≠ D := fun z => by subst z; exact h2.no e no
    rw [upd_ne q]; exact n.h.k p o e no, fun t => tabs_upd (n.h.t t) fun o' e z => by
      rw [h3] at e; cases e
      rcases z with ⟨_, z⟩ | ⟨_, _, z⟩ <;> cases z⟩
  s := fun p u e => by
    by_cases q : p = D
    · subst q; rw [upd_same] at e ⊢; exact e
    · rw [upd_ne q] at e ⊢; exact n.s p u e
  nt := fun p ps e => by
    by_cases q : p = D
    · subst q; rw [upd_same] at e; cases e
    · rw [upd_ne q] at e; exact n.nt p ps e
  n := fun p u e => by
    by_cases q : p = D
    · subst q; exact .inr (.inl h2)
    · rw [upd_ne q] at e; exact n.n p u e
/-- what the turns have laid: the new dict and what it holds -/
structure Laid (T : List (Addr × Str)) (K : PySem.W.Frag) (F H F1 H1 : Hp) (a : Addr) (ks : List (List Key)) (ds : List D) : Prop where
  n : Nx T F H F1 H1
  no : F1 a = none
  is : ∃ kvs, H1 a = some (.dT kvs) ∧ kvs.map (·.1) = ks ∧ IsL K F1 ds (kvs.map (·.2))
theorem Nx.noF {a : Addr} {o : HO} {Fa Ha Fb Hb : Hp} (n : Nx T Fa Ha Fb Hb) (e1 : Fa a = none) (e2 : Ha a = some o) (h1 : ∀ ps, o ≠ .tbl ps) (h2 : ∀ xs, o ≠ .tup xs) : Fb a = none := by
  cases e : Fb a with
  | none => rfl
  | some u =>
    rcases n.n a u e with z | z
    · exact absurd e1 z
    · exact z.no e2 h1 h2
theorem Laid.grow {F2 H2 : Hp} {a : Addr} {ks : List (List Key)} {ds : List D} (l : Laid T K F H F1 H1 a ks ds) (m : Nx T F1 H1 F2 H2) : Laid T K F H F2 H2 a ks ds := by
  obtain ⟨kvs, e, e2, e3⟩ := l.is
  exact ⟨l.n.trans m, m.noF l.no e (fun _ z => nomatch z) (fun _ z => nomatch z), kvs, m.h.k _ _ e (fun _ z => nomatch z), e2, IsL.mono m.f _ e3⟩
theorem Laid.put {a : Addr} {ks : List (List Key)} {ds : List D} {k : List Key} {d : D} {v : V} (l : Laid T K F H F1 H1 a ks ds) (hD : Fr H a) (hi : Is K F1 d v) (nw : k ∉ ks) : ∃ kvs, H1 a = some (.dT kvs) ∧ kvs.map (·.1) = ks ∧ Laid T K F H F1 (upd H1 a (.dT (putK kvs k v))) a (ks ++ [k]) (ds ++ [d]) := by
  obtain ⟨kvs, e, e2, e3⟩ := l.is
  have ep : putK kvs k v = kvs ++ [(k, v)] := by
    unfold putK
    rw [if_neg]
    intro z
    obtain ⟨x, hx, ex⟩ := List.any_eq_true.mp z
    exact nw (by rw [← e2, ← of_decide_eq_true ex]; exact List.mem_map.mpr ⟨x, hx, rfl⟩)
  refine ⟨kvs, e, e2, ⟨⟨l.n.f, ⟨fun p o e' no => ?_, fun t => tabs_upd (l.n.h.t t) fun o' e' z => ?_⟩, fun p o e' => ?_, l.n.nt, l.n.n⟩, l.no, _, upd_same, by rw [ep]; simp [e2], by rw [ep, List.map_append]; exact e3.snoc hi⟩⟩
  · have q : p ≠ a := fun z => by subst z; exact hD.no e' no
    rw [upd_ne q]; exact l.n.h.k p o e' no
  · rw [e] at e'; cases e'
    rcases z with ⟨_, z⟩ | ⟨_, _, z⟩ <;> cases z
  · rw [upd_ne (ne_of_none e' l.no)]; exact l.n.s p o e'
end
section
variable {T : List (Addr × Str)} {X : Cx} {ss : SS} {tg e kx vx : Expr} {ifs : List Expr} {xs : List D} {pos : Pos}
def keysC (keep : D → Bool) (kf : D → List Key) (xs : List D) : List (List Key) := (xs.filter keep).map kf
theorem keysC_take {keep : D → Bool} {kf : D → List Key} {xs : List D} {i : Nat} {x : D} (h : xs[i]? = some x) : keysC keep kf (xs.take (i + 1)) = if keep x = true then keysC keep kf (xs.take i) ++ [kf x] else keysC keep kf (xs.take i) := by
  have e : xs.take (i + 1) = xs.take i ++ [x] := by rw [List.take_succ, h]; rfl
  unfold keysC
  rw [e, List.filter_append, List.map_append]
  by_cases hk : keep x = true
  · rw [if_pos hk, List.filter_cons, if_pos hk]; rfl
  · rw [if_neg hk, List.filter_cons, if_neg hk]; simp
theorem keysC_new {keep : D → Bool} {kf : D → List Key} {xs : List D} (nd : (keysC keep kf xs).Nodup) {i : Nat} {x : D} (h : xs[i]? = some x) (hk : keep x = true) : kf x ∉ keysC keep kf (xs.take i) := by
  have e := keysC_take (keep := keep) (kf := kf) h
  rw [if_pos hk] at e
  have sub : (keysC keep kf (xs.take (i + 1))).Nodup := by
    refine nd.sublist ?_
    exact ((List.take_sublist _ _).filter _).map _
  rw [e] at sub
  exact fun z => (List.nodup_append.mp sub).2.2 _ z _ (List.mem_singleton.mpr rfl) rfl
theorem keysC_len (keep : D → Bool) (kf : D → List Key) (xs : List D) : (keysC keep kf xs).length ≤ xs.length := by
  unfold keysC
  rw [List.length_map]
  exact List.length_filter_le _ _
theorem dc_go {K : PySem.W.Frag} {B : Hp × Hp} {F H : Hp} {σ : L2.St} {vs : List Nat} {t : Tg} {keep : D → Bool} {kf : D → List Key} {f : D → D} {Q : VK} (hv : vs ≠ []) (ht : ∀ j ∈ t.slots, j ∈ vs) (hfit : ∀ x ∈ xs, t.fits x = true) (hlen : xs.length ≤ 100000) (nd : (keysC keep kf xs).Nodup) (R : StR T K B F H σ ss)
    (q : ∀ D F1 H1, Fr H D → Laid T K F H F1 H1 D (keysC keep kf xs) (outs keep f xs) → Q (.ref D) H1) :
    DcT.tDcT (tIv T K ss xs) (gOf K t) (tTv T K fun ss' b => ∃ x ∈ xs, ss' = t.put x (wipeS ss vs) ∧ b = keep x) (tEv T K fun ss' d => ∃ x ∈ xs, keep x = true ∧ ss' = t.put x (wipeS ss vs) ∧ d = .tk (kf x)) (tEv T K fun ss' d => ∃ x ∈ xs, keep x = true ∧ ss' = t.put x (wipeS ss vs) ∧ d = f x) vs σ H Q := by
  refine ⟨B, F, R, fun J F1 H1 n1 R1 Y D hD => ?_⟩
  have HD : Fr H D := n1.h.ff hD
  have HD1 : Fr H1 D := .of hD
  refine ⟨fun i m H' => m = xs.length - i ∧ i ≤ xs.length ∧ ∃ F', Laid T K F1 H1 F' H' D (keysC keep kf (xs.take i)) (outs keep f (xs.take i)), ⟨xs.length, by simp, Nat.zero_le _, F1, Nx.allocH R1.sub hD, R1.free hD, [], upd_same, rfl, by simp [outs]; exact rfl⟩, ?_⟩
  rintro i m H' ⟨rfl, hi', F', l⟩
  by_cases hlt : i < xs.length
  · obtain ⟨go, yl⟩ := Y.item i F' H' l.n.f l.n.s hlt
    refine .inr ⟨go, fun H2 => ∃ F2, Laid T K F1 H1 F2 H2 D (keysC keep kf (xs.take (i + 1))) (outs keep f (xs.take (i + 1))), fun H2 ⟨F2, h⟩ => ⟨xs.length - (i + 1), by omega, rfl, hlt, F2, h⟩, fun v H2 y => ?_⟩
    obtain ⟨F2, x, n3, hx, ix⟩ := yl v H2 y
    have hmem : x ∈ xs := List.mem_of_getElem? hx
    have l2 := l.grow n3
    have R2 : StR T K B F2 H2 (L2.wipe σ vs) (wipeS ss vs) := (R1.wipe vs).grow l2.n
    refine tg_go (ws := vs) R2 ix (hfit x hmem) (fun j hj => .inl (ht j hj)) fun σ3 R3 hw => ⟨by rw [hw hv, wipe_wipe], ?_⟩
    refine ⟨B, F2, _, keep x, ⟨x, hmem, rfl, rfl⟩, R3, fun F3 H3 n4 R4 => ?_⟩
    have l3 := l2.grow n4
    cases hk : keep x with
    | true =>
      refine iteT ⟨B, F3, _, .tk (kf x), ⟨x, hmem, hk, rfl, rfl⟩, R4, fun w F4 H4 n5 R5 i5 => ?_⟩
      have l4 := l3.grow n5
      refine ⟨B, F4, _, f x, ⟨x, hmem, hk, rfl, rfl⟩, R5, fun z F5 H5 n6 R6 i6 => ?_⟩
      have l5 := l4.grow n6
      obtain ⟨b, rfl, eb⟩ := i5
      obtain ⟨kvs, e, ek, l6⟩ := l5.put (k := kf x) HD1 i6 (keysC_new nd hx hk)
      refine ⟨kvs, kf x, b, rfl, R6.sub _ _ (n6.f _ _ eb), e, ?_, F5, ?_⟩
      · have h1 := congrArg List.length ek
        rw [List.length_map] at h1
        have h2 := keysC_len keep kf (xs.take i)
        rw [List.length_take] at h2
        rw [sizeLine_eq]; omega
      · rw [keysC_take hx, outs_take hx, if_pos hk, if_pos hk]
        exact l6
    | false =>
      refine iteF ⟨F3, ?_⟩
      rw [keysC_take hx, outs_take hx, if_neg (by rw [hk]; decide), if_neg (by rw [hk]; decide)]
      exact l3
  · have e : i = xs.length := by omega
    subst e
    rw [List.take_length] at l
    obtain ⟨kvs, e1, e2, e3⟩ := l.is
    exact .inl ⟨Y.stop F' H' l.n.f l.n.s, q D F' H' HD ⟨n1.trans l.n, l.no, kvs, e1, e2, e3⟩⟩
/-- {kx: vx for target in iter if ..}, the keys tuples, no two of them the same -/
theorem ev_dcT {scope : Scope} {n : Nat} (own : List (Str × Nat)) (t : Tg) (keep : D → Bool) (kf : D → List Key) (f : D → D) (hr : Room n X.A) (hi : IV T X tg e ss xs) (ok : BlkOk X.N X.env.scope scope own)
    (hg : ∀ s H C cl fp, PG (DcT.Blk X scope s H C cl fp) tg (gOf X.K t))
    (ht : ∀ s H C cl fp x, x ∈ xs → TsV T (DcT.Blk X scope s H C cl fp) ifs (t.put x (wipeS ss (own.map (·.2)))) (keep x))
    (hk : ∀ s H C cl fp x, x ∈ xs → keep x = true → EV T (DcT.Blk X scope s H C cl fp) kx (t.put x (wipeS ss (own.map (·.2)))) (.tk (kf x)))
    (he : ∀ s H C cl fp x, x ∈ xs → keep x = true → EV T (DcT.Blk X scope s H C cl fp) vx (t.put x (wipeS ss (own.map (·.2)))) (f x))
    (nd : (keysC keep kf xs).Nodup) (hN : X.N.Nodup) (hfit : ∀ x ∈ xs, t.fits x = true) (hlen : xs.length ≤ 100000) (hv : own.map (·.2) ≠ [] := by decide) (hsl : ∀ j ∈ t.slots, j ∈ own.map (·.2) := by decide) (hc : X.calm = true := by rfl) (hs : ∀ x, foldedSetIterable e X.env x = pure x := by intro _; rfl) :
    EV T X (.DictComp kx vx [⟨tg, e, ifs, 0⟩] scope pos) ss (.dcT (keysC keep kf xs) (outs keep f xs)) := by
  refine EV.of (pe_frzV (DcT.pe_dcT (tt := tTv T X.K fun ss' b => ∃ x ∈ xs, ss' = t.put x (wipeS ss (own.map (·.2))) ∧ b = keep x) (tk := tEv T X.K fun ss' d => ∃ x ∈ xs, keep x = true ∧ ss' = t.put x (wipeS ss (own.map (·.2))) ∧ d = .tk (kf x))
    (tv := tEv T X.K fun ss' d => ∃ x ∈ xs, keep x = true ∧ ss' = t.put x (wipeS ss (own.map (·.2))) ∧ d = f x) hr.units0 hc hN hi ok hg (fun s H C cl fp => pts_fam (X := DcT.Blk X scope s H C cl fp) (Rl := fun ss' b => ∃ x ∈ xs, ss' = t.put x (wipeS ss (own.map (·.2))) ∧ b = keep x) fun ss' b ⟨x, hx, e1, e2⟩ => by rw [e1, e2]; exact ht s H C cl fp x hx)
    (fun s H C cl fp => pe_fam (X := DcT.Blk X scope s H C cl fp) (Rl := fun ss' d => ∃ x ∈ xs, keep x = true ∧ ss' = t.put x (wipeS ss (own.map (·.2))) ∧ d = .tk (kf x)) fun ss' d ⟨x, hx, hk', e1, e2⟩ => by rw [e1, e2]; exact hk s H C cl fp x hx hk')
    (fun s H C cl fp => pe_fam (X := DcT.Blk X scope s H C cl fp) (Rl := fun ss' d => ∃ x ∈ xs, keep x = true ∧ ss' = t.put x (wipeS ss (own.map (·.2))) ∧ d = f x) fun ss' d ⟨x, hx, hk', e1, e2⟩ => by rw [e1, e2]; exact he s H C cl fp x hx hk') hs)) fun B F H σ Q R q => ?_
  refine dc_go hv hsl hfit hlen nd R fun D F1 H1 hD l => ?_
  obtain ⟨kvs, e1, e2, e3⟩ := l.is
  refine ⟨D, .dT kvs, rfl, e1, trivial, fun ob => ?_⟩
  have n2 := l.n.frz (ob := ob) l.no hD e1
  exact q _ _ _ n2 (R.grow n2) ⟨D, ob, kvs, rfl, upd_same, e2, IsL.mono (Ext.upd l.no) _ e3⟩
end
end Fd

set_option Elab.async false
set_option linter.all false
set_option maxRecDepth 100000
set_option maxHeartbeats 4000000
/-! SoT: sorted of tuples of whole numbers, any number of them: a list's, a dict's keys; reverse=True. -/
namespace SoT
open PySem PySem.Spec PyProof.Rows L2
def adr : Value → Addr
  | .ref a => a
  | _ => 0
theorem adr_refs (bs : List Addr) : (bs.map Value.ref).map adr = bs := by
  rw [List.map_map]
  exact (List.map_congr_left fun _ _ => rfl).trans (List.map_id bs)
/-- a tuple of whole numbers stands at c -/
def Tup (h : Heap) (c : Addr) (ns : List Int) : Prop := ∃ o xs n, h.get? c = some o ∧ o.cls = .type "tuple" ∧ o.data = .seq xs n ∧ IntsAre xs.toList ns
theorem Tup.keep {h h' : Heap} {c : Addr} {ns : List Int} (t : Tup h c ns) (k : ∀ o, h.get? c = some o → h'.get? c = some o) : Tup h' c ns := by
  obtain ⟨o, xs, n, e, r⟩ := t
  exact ⟨o, xs, n, k o e, r⟩
theorem items_of {vs : List Value} {ns : List Int} (h : IntsAre vs ns) : ∀ i, tupItems (fun _ => false) i vs = some (ns.map Sum.inl) := by
  induction h with
  | nil => intro i; rfl
  | cons z t r ih => intro i; simp [tupItems, ih]
theorem Tup.key {h : Heap} {c : Addr} {ns : List Int} (t : Tup h c ns) : tupKey h (fun _ => false) (.ref c) = some (ns.map Sum.inl) := by
  obtain ⟨o, xs, n, e, _, d, i⟩ := t
  simp only [tupKey, e, d]
  exact items_of i 0
theorem lex_eq : ∀ xs ys : List Int, PyProof.Rows.lexLt itemOrd (xs.map Sum.inl) (ys.map Sum.inl) = HT.lexLt xs ys
  | [], [] => rfl
  | [], _ :: _ => rfl
  | _ :: _, [] => rfl
  | x :: xs, y :: ys => by
    rw [List.map_cons, List.map_cons, lex_cons, lex_eq xs ys, HT.lexLt_cons]
    show (decide (x < y) || (!decide (y < x) && HT.lexLt xs ys)) = _
    by_cases e : x = y
    · subst e; simp
    · rw [if_neg e]
      by_cases l : x < y
      · simp [l]
      · have : y < x := by omega
        simp [l, this]
theorem tups_of {h : Heap} : ∀ {bs : List Addr} {k : Addr → List Int}, (∀ c ∈ bs, Tup h c (k c) ∧ 1 ≤ (k c).length) → ∃ fs, fs.length = bs.length ∧ TupsOf h (fun _ => false) (bs.map Value.ref) fs
  | [], _, _ => ⟨[], rfl, .nil⟩
  | c :: bs, k, t => by
    obtain ⟨fs, e, r⟩ := tups_of fun c' m => t c' (List.mem_cons_of_mem _ m)
    obtain ⟨⟨o, xs, n, g, cl, d, i⟩, l⟩ := t c List.mem_cons_self
    obtain ⟨f, hf, z, tk, ef⟩ : ∃ f, xs[0]? = some f ∧ ∃ z tk, f = Value.int z tk := by
      cases hk : k c with
      | nil => rw [hk] at l; exact absurd l (by simp)
      | cons y ys =>
        rw [hk] at i
        generalize hl : xs.toList = ls at i
        cases i with
        | cons _ t r => exact ⟨_, by rw [← Array.getElem?_toList, hl]; rfl, _, _, rfl⟩
    exact ⟨f :: fs, by simp [e], .cons ⟨c, o, xs, n, rfl, g, cl, d, hf, fun _ => ⟨z, tk, ef⟩, fun z => nomatch z⟩ r⟩
section
variable {prog : Program} {w : World} {A : Around} {s : Shared} {E : Value → Shared → Prop}
theorem sortable {a : Addr} {bs : List Addr} {k : Addr → List Int} (h2 : 2 ≤ bs.length) (t : ∀ c ∈ bs, Tup s.heap c (k c) ∧ 1 ≤ (k c).length) (ne : ∀ c ∈ bs, c ≠ a) :
    SrtO.SortableO prog w A s a (bs.map Value.ref) fun v u => HT.lexLt (k (adr v)) (k (adr u)) := by
  intro h' keep
  have t' : ∀ c ∈ bs, Tup h' c (k c) ∧ 1 ≤ (k c).length := fun c m => ⟨(t c m).1.keep fun o e => keep c o (ne c m) e, (t c m).2⟩
  refine ⟨tuples' true, fun Q E q => ?_, fun p q hp hq => ?_⟩
  · obtain ⟨fs, l, r⟩ := tups_of t'
    exact tup_kind (s := { s with heap := h' }) (by omega) r q
  · obtain ⟨c, mc, ec⟩ := List.mem_map.mp hp
    obtain ⟨d, md, ed⟩ := List.mem_map.mp hq
    rw [← ec, ← ed]
    refine tup_ltAt (s := { s with heap := h' }) true A _ _ _ _ _ (t' c mc).1.key (t' d md).1.key ⟨rfl, ?_⟩
    have e := lex_eq (k c) (k d)
    show PyProof.Rows.lexLt itemOrd _ _ = HT.lexLt (k (adr p.1)) (k (adr q.1))
    rw [e, ← ec, ← ed]
    rfl
/-- in order, or backwards -/
def Ord (b : Bool) (k : Addr → List Int) (bs : List Addr) : Prop := bs.Pairwise fun p q => if b = true then HT.lexLt (k p) (k q) = false else HT.lexLt (k q) (k p) = false
/-- the words behind the first argument -/
def Words (b : Bool) (kw : List (Str × Value)) : Prop := (kw = [] ∧ b = false) ∨ kw = [(Str.ofString "reverse", .bool b)]
theorem in_place {a : Addr} {bs : List Addr} {k : Addr → List Int} {n : Nat} {b : Bool} {kw : List (Str × Value)} {R : PySem.Fin → Shared → Prop} (hw : Words b kw) (ho : s.heap.get? a = some (seqObj "list" (bs.map Value.ref).toArray n)) (hz : bs.length ≤ sizeLine)
    (t : bs.length < 2 ∨ ∀ c ∈ bs, Tup s.heap c (k c) ∧ 1 ≤ (k c).length)
    (h : ∀ bs' : List Addr, bs'.Perm bs → Ord b k bs' → R (.done (.ret .none)) { s with heap := sortedHeap s.heap a (bs.map Value.ref) (bs'.map Value.ref).toArray }) :
    wpAny (model prog w) A (Builtin.«list.sort» ⟨[.ref a], kw⟩) R E s := by
  have sw := NtL.swo_lexL (α := Value) fun u => k (adr u)
  have lz : (bs.map Value.ref).length ≤ sizeLine := by rw [List.length_map]; exact hz
  have hS : 2 ≤ (bs.map Value.ref).length → SrtO.SortableO prog w A s a (bs.map Value.ref) fun v u => HT.lexLt (k (adr v)) (k (adr u)) := fun h2 => by
    rw [List.length_map] at h2
    rcases t with t | t
    · omega
    · refine sortable h2 t fun c m e => ?_
      obtain ⟨⟨o, xs, n, g, cl, _⟩, _⟩ := t c m
      rw [e, ho] at g
      cases g
      injection cl with z
      exact absurd z (by decide)
  have back : ∀ out : List Value, out.Perm (bs.map Value.ref) → out = (out.map adr).map Value.ref := fun out p => by
    have all : ∀ v ∈ out, ∃ c, v = Value.ref c := fun v m => by
      obtain ⟨c, _, e⟩ := List.mem_map.mp (p.mem_iff.mp m)
      exact ⟨c, e.symm⟩
    rw [List.map_map]
    refine (List.map_id out).symm.trans (List.map_congr_left fun v m => ?_)
    obtain ⟨c, e⟩ := all v m
    rw [e]; rfl
  have perm : ∀ out : List Value, out.Perm (bs.map Value.ref) → (out.map adr).Perm bs := fun out p => by
    have q := p.map adr
    rwa [adr_refs] at q
  rcases hw with ⟨rfl, rfl⟩ | rfl
  · refine SrtO.list_sort_ord sw ho lz hS fun out hs hb => ?_
    have z := h (out.map adr) (perm out hb.perm) (List.pairwise_map.mpr (hs.imp fun {x y} q => by rw [if_neg (by decide)]; exact q))
    rwa [← back out hb.perm] at z
  · cases b with
    | false =>
      refine SrtR.list_sort_ordR (b := false) sw ho lz hS fun out hs hb => ?_
      have p : out.Perm (bs.map Value.ref) := hb.perm
      have z := h (out.map adr) (perm out p) (List.pairwise_map.mpr (hs.imp fun {x y} q => by rw [if_neg (by decide)]; exact q))
      rwa [← back out p] at z
    | true =>
      refine SrtR.list_sort_ordR (b := true) sw ho lz hS fun out hs hb => ?_
      have p : out.Perm (bs.map Value.ref) := hb.perm.trans (List.reverse_perm _)
      have z := h (out.map adr).reverse ((List.reverse_perm _).trans (perm out p)) (List.pairwise_reverse.mpr (List.pairwise_map.mpr (hs.imp fun {x y} q => by rw [if_pos rfl]; exact q)))
      rw [List.map_reverse, ← back out p] at z
      have e : out.toArray.reverse = out.reverse.toArray := by
        apply Array.ext'
        rw [Array.toList_reverse]
      show R _ { s with heap := sortedHeap s.heap a _ (if true = true then out.toArray.reverse else out.toArray) }
      rw [if_pos rfl, e]
      exact z
end
end SoT

set_option Elab.async false
set_option linter.all false
set_option maxRecDepth 100000
set_option maxHeartbeats 4000000
/-! SoU: sorted(x), sorted(x, reverse=b), x a list of tuples of whole numbers, or a dict with such keys. -/
namespace SoT
open PySem PySem.Spec PyProof.Rows L2
section
variable {prog : Program} {w : World} {A : Around} {s : Shared} {E : Value → Shared → Prop}
theorem core {x : Value} {bs : List Addr} {k : Addr → List Int} {b : Bool} {kw : List (Str × Value)} {Q : Value → Shared → Prop} (hw : Words b kw) (ha1 : argsOk "sorted" ⟨[x], kw⟩) (ha2 : ∀ a, argsOk "list.sort" ⟨[a], kw⟩) (hz : bs.length ≤ sizeLine)
    (t : bs.length < 2 ∨ ∀ c ∈ bs, Tup s.heap c (k c) ∧ 1 ≤ (k c).length)
    (coll : ∀ (R : List Value → Shared → Prop) (E : Value → Shared → Prop), (∀ h' tk, (∀ c o, s.heap.get? c = some o → h'.get? c = some o) → R (bs.map Value.ref) { s with heap := h', toks := tk }) → wpAny (model prog w) A.in1 (collect x) R E s)
    (h : ∀ (bs' : List Addr) (h1 h' : Heap) (tk : Nat) (p : Addr) (ep : Nat), (∀ c o, s.heap.get? c = some o → h1.get? c = some o) → h1.objs.size ≤ p → (∀ c o, h1.get? c = some o → h'.get? c = some o) → h'.get? p = some (seqObj "list" (bs'.map Value.ref).toArray ep) → bs'.Perm bs → Ord b k bs' → Q (.ref p) { s with heap := h', toks := tk }) :
    wpAny (model prog w) A (call (.builtin "sorted") [x] kw) Q E s := by
  refine call_function_entry_kw PyProof.Rows.kind_sorted PyProof.Rows.plain_sorted PyProof.Rows.entry_sorted ha1 ?_
  unfold Builtin.«sorted»
  refine wpAny_bind (m := checkCount "sorted" 1 1 _) (wpAny_pure (wpAny_bind (coll _ _ fun h1 tk kp => wpAny_bind (wpAny_newList ?_ (by rw [List.length_map]; exact hz)))))
  have at1 : (h1.push (seqObj "list" (bs.map Value.ref).toArray 0)).get? h1.objs.size = some (seqObj "list" (bs.map Value.ref).toArray 0) := Heap.get?_push_size _ rfl
  have t1 : bs.length < 2 ∨ ∀ c ∈ bs, Tup (h1.push (seqObj "list" (bs.map Value.ref).toArray 0)) c (k c) ∧ 1 ≤ (k c).length :=
    t.imp id fun t c m => ⟨(t c m).1.keep fun o e => Heap.get?_push_of_some _ (kp c o e), (t c m).2⟩
  refine wpAny_bind (wpAny_holding (wpAny_call_entry_kw slot_list_sort ⟨_, at1, rfl⟩ entry_list_sort (in_place (s := { s with heap := h1.push (seqObj "list" (bs.map Value.ref).toArray 0), toks := tk }) hw at1 hz t1 fun bs' pm od => ⟨_, rfl, ?_⟩) (ha2 _)))
  obtain ⟨ep, at2⟩ := sortedHeap_at (vs := bs.map Value.ref) (out := (bs'.map Value.ref).toArray) at1
  refine wpAny_pure ⟨_, rfl, h bs' h1 _ tk _ ep kp (Nat.le_refl _) (fun c o e => ?_) at2 pm od⟩
  have lt : c < h1.objs.size := Heap.lt_size e
  show (sortedHeap (h1.push _) h1.objs.size _ _).get? c = some o
  rw [sortedHeap_old (Nat.ne_of_lt lt) (by rw [size_push']; exact Nat.lt_succ_of_lt lt)]
  exact Heap.get?_push_of_some _ e
end
section
variable {X : Cx}
theorem vals_of {bs : List Addr} : Vals (bs.map V.ref) (bs.map Value.ref) := by
  induction bs with
  | nil => exact .nil
  | cons b bs ih => exact .cons rfl ih
theorem of_vals : ∀ {bs : List Addr} {us : List Value}, Vals (bs.map V.ref) us → us = bs.map Value.ref
  | [], _, .nil => rfl
  | b :: bs, _, .cons r t => by
    cases r
    exact congrArg (List.cons _) (of_vals t)
theorem tup_at {pins : List (Addr × Obj)} {σ : L2.St} {H : Hp} {s : Shared} {c : Addr} {ns : List Int} (J : Inv X pins σ H s) (h : H c = some (.tup (ns.map V.int))) : Tup s.heap c ns := by
  obtain ⟨_, its, r, o, h1, h2, n, h3⟩ := J.hok c _ h
  refine ⟨o, its.toArray, n, h1, h2, h3, ?_⟩
  have all : ∀ {ns : List Int} {us : List Value}, Vals (ns.map V.int) us → IntsAre us ns := by
    intro ns
    induction ns with
    | nil => intro us r; cases r; exact .nil
    | cons z ns ih =>
      intro us r
      cases r with
      | cons q t =>
        obtain ⟨tk, rfl⟩ := q
        exact .cons z tk (ih t)
  simpa using all r
/-- what is told: a new list of the same tuples, in order -/
def Told (H : Hp) (b : Bool) (bs : List Addr) (Q : VK) : Prop := ∃ k : Addr → List Int, bs.length ≤ sizeLine ∧ (∀ c ∈ bs, H c = some (.tup ((k c).map V.int))) ∧ (bs.length < 2 ∨ ∀ c ∈ bs, 1 ≤ (k c).length) ∧
  ∀ (bs' : List Addr) (p : Addr), bs'.Perm bs → Ord b k bs' → H p = none → Q (.ref p) (upd H p (.lst (bs'.map V.ref)))
/-- the list at a, or the keys of the dict at a -/
def Src (K : PySem.W.Frag) (H : Hp) (a : Addr) (bs : List Addr) : Prop := SqL K H a (bs.map V.ref) ∨ ∃ kvs, Rd H a (.dT kvs) ∧ bs.length = kvs.length ∧ Paired (fun (p : List Key × V) b => H b = some (.tup (p.1.map kV))) kvs bs
theorem collects {pins : List (Addr × Obj)} {σ : L2.St} {H : Hp} {s : Shared} {a : Addr} {bs : List Addr} {A : Around} (hh : A.in1.handled = none) (J : Inv X pins σ H s) (h : SqL X.K H a (bs.map V.ref)) (hz : bs.length ≤ sizeLine) (R : List Value → Shared → Prop) (E : Value → Shared → Prop)
    (q : ∀ h' tk, (∀ c o, s.heap.get? c = some o → h'.get? c = some o) → R (bs.map Value.ref) { s with heap := h', toks := tk }) : wpAny (model X.prog X.w) A.in1 (collect (.ref a)) R E s := by
  obtain ⟨its, rv, hl, _⟩ := J.list h
  cases of_vals rv
  refine collect_list hl.isList (q _ _ fun c o e => ?_) (by rw [List.length_map]; exact hz)
  have lt : c < s.heap.objs.size := Heap.lt_size e
  rw [Heap.get?_update_ne _ _ _ _ (Nat.ne_of_lt lt)]
  exact Heap.get?_push_of_some _ e
theorem finish {pins : List (Addr × Obj)} {σ : L2.St} {H : Hp} {s : Shared} {x : Value} {bs : List Addr} {b : Bool} {kw : List (Str × Value)} {Q : VK} (J : Inv X pins σ H s) (hw : Words b kw) (ha1 : argsOk "sorted" ⟨[x], kw⟩) (ha2 : ∀ a, argsOk "list.sort" ⟨[a], kw⟩) (t : Told H b bs Q)
    (coll : ∀ (R : List Value → Shared → Prop) (E : Value → Shared → Prop), (∀ h' tk, (∀ c o, s.heap.get? c = some o → h'.get? c = some o) → R (bs.map Value.ref) { s with heap := h', toks := tk }) → wpAny (model X.prog X.w) X.A.in1 (collect x) R E s) :
    wpAny (model X.prog X.w) X.A (call (.builtin "sorted") [x] kw) (EP X pins σ Q) X.xe s := by
  obtain ⟨k, hz, tups, ne, q⟩ := t
  refine core (k := k) hw ha1 ha2 hz (ne.imp id fun n c m => ⟨tup_at J (tups c m), n c m⟩) coll fun bs' h1 h' tk p ep k1 le k2 e pm od => ?_
  have J1 : Inv X pins σ H { s with heap := h1, toks := tk } := J.kept k1
  have hl : (bs'.map V.ref).length ≤ sizeLine := by rw [List.length_map, pm.length_eq]; exact hz
  exact ⟨.ref p, upd H p (.lst (bs'.map V.ref)), J1.laid (t' := tk) k2 le ⟨hl, _, ep, vals_of, e⟩, rfl, q bs' p pm od (J1.hok.fresh le)⟩
end
end SoT

set_option Elab.async false
set_option linter.all false
set_option maxRecDepth 100000
set_option maxHeartbeats 4000000
/-! SoV: the calls. -/
namespace SoT
open PySem PySem.Spec PyProof.Rows L2
variable {X : Cx}
theorem keysD {pins : List (Addr × Obj)} {σ : L2.St} {H : Hp} {s : Shared} {d : Addr} {kvs : List (List Key × V)} {A : Around} (J : Inv X pins σ H s) (hd : Rd H d (.dT kvs)) : ∃ bs, IsKeys H kvs bs ∧ bs.length = kvs.length ∧ bs.length ≤ sizeLine ∧
    (A.in1.handled = none → ∀ (R : List Value → Shared → Prop) (E : Value → Shared → Prop), (∀ h' tk, (∀ c o, s.heap.get? c = some o → h'.get? c = some o) → R (bs.map Value.ref) { s with heap := h', toks := tk }) → wpAny (model X.prog X.w) A.in1 (collect (.ref d)) R E s) := by
  obtain ⟨z, ns, ks, pr, o, es, ep, ho, hx, hdt, he, _⟩ := (show ObjOk X.prog X.w H s.heap d (.dT kvs) from hd.ok J.hok)
  have n1 : es.size = ks.length := size_of_entries he
  have n2 : kvs.length = ks.length := Paired.length pr
  refine ⟨ks.map fun x => x.2.1, isKeys_of pr, by rw [List.length_map, n2], by rw [List.length_map]; omega, fun hh R E q => ?_⟩
  refine PySem.W.kdu_collect (A := A.in1) (kdl_raw ns hx hdt) hh ho (by omega) fun h' tk acc keep it => ?_
  have e : acc.toList = (ks.map fun x => x.2.1).map Value.ref := by
    have l : acc.toList.length = ks.length := by rw [Array.length_toList, it.1, n1]
    refine List.ext_getElem (by rw [l, List.length_map, List.length_map]) fun j h1 h2 => ?_
    have hj : j < ks.length := by omega
    obtain ⟨en, hen, hv⟩ := it.2 j acc.toList[j] (by rw [← Array.getElem?_toList]; exact List.getElem?_eq_getElem h1)
    have w := entry_at he j
    rw [hen, List.getElem?_eq_getElem hj] at w
    rw [hv, Option.some.inj w, List.getElem_map, List.getElem_map]
    rfl
  rw [e]
  exact q h' tk keep
theorem cr_sortL (hc : X.calm = true) : CallR X (.builtin "sorted") (fun vs H Q => ∃ a bs, vs = [.ref a] ∧ SqL X.K H a (bs.map V.ref) ∧ Told H false bs Q) := by
  intro pins s σ H vs us Q J r ⟨a, bs, e, hs, t⟩
  subst e
  rw [Vals.ref1 r]
  exact finish J (.inl ⟨rfl, rfl⟩) (args_sorted1 _) (fun _ => args_list_sort _) t fun R E q => collects (J.ok.hd hc) J hs t.choose_spec.1 R E q
theorem ck_sortL {b : Bool} (hc : X.calm = true) : CallRK X (.builtin "sorted") [Str.ofString "reverse"] (fun vs zs H Q => zs = [.bl b] ∧ ∃ a bs, vs = [.ref a] ∧ SqL X.K H a (bs.map V.ref) ∧ Told H b bs Q) := by
  intro pins s σ H vs zs us ws Q J r rz ⟨ez, a, bs, e, hs, t⟩
  subst e ez
  rw [Vals.ref1 r]
  obtain ⟨w1, rfl, e1⟩ := vals1 rz
  cases (show w1 = Value.bool b from e1)
  exact finish J (.inr rfl) (args_sorted_rev _ _) (fun _ => args_list_sort_rev _ _) t fun R E q => collects (J.ok.hd hc) J hs t.choose_spec.1 R E q
theorem cr_sortD (hc : X.calm = true) : CallR X (.builtin "sorted") (fun vs H Q => ∃ d kvs, vs = [.ref d] ∧ Rd H d (.dT kvs) ∧ ∀ bs, IsKeys H kvs bs → bs.length = kvs.length → bs.length ≤ sizeLine → Told H false bs Q) := by
  intro pins s σ H vs us Q J r ⟨d, kvs, e, hd, t⟩
  subst e
  rw [Vals.ref1 r]
  obtain ⟨bs, b1, b2, b3, b4⟩ := keysD (A := X.A) J hd
  exact finish J (.inl ⟨rfl, rfl⟩) (args_sorted1 _) (fun _ => args_list_sort _) (t bs b1 b2 b3) (b4 (J.ok.hd hc))
theorem ck_sortD {b : Bool} (hc : X.calm = true) : CallRK X (.builtin "sorted") [Str.ofString "reverse"] (fun vs zs H Q => zs = [.bl b] ∧ ∃ d kvs, vs = [.ref d] ∧ Rd H d (.dT kvs) ∧ ∀ bs, IsKeys H kvs bs → bs.length = kvs.length → bs.length ≤ sizeLine → Told H b bs Q) := by
  intro pins s σ H vs zs us ws Q J r rz ⟨ez, d, kvs, e, hd, t⟩
  subst e ez
  rw [Vals.ref1 r]
  obtain ⟨w1, rfl, e1⟩ := vals1 rz
  cases (show w1 = Value.bool b from e1)
  obtain ⟨bs, b1, b2, b3, b4⟩ := keysD (A := X.A) J hd
  exact finish J (.inr rfl) (args_sorted_rev _ _) (fun _ => args_list_sort_rev _ _) (t bs b1 b2 b3) (b4 (J.ok.hd hc))
end SoT

set_option Elab.async false
set_option linter.all false
set_option maxRecDepth 100000
set_option maxHeartbeats 4000000
/-! Fd41: walks of locked dicts with tuple keys; sorted of tuples of whole numbers. -/
namespace Fd
open PySem PySem.Spec PyProof.Rows L2
section
variable {T : List (Addr × Str)} {X : Cx} {ss : SS} {tg e : Expr} {ks : List (List Key)} {xs : List D} {apos cpos tpos : Pos} {elts : List Expr} {kk : Nat}
theorem nx_add1 {F H : Hp} {q : Addr} {k : List Key} (x : Ext F H) (hb : H q = some (.tup (k.map kV))) : Nx T F H (addT F H [q]) H ∧ addT F H [q] q = some (.tup (k.map kV)) :=
  ⟨nx_addT x fun b hb' => ⟨k.map kV, by cases List.mem_singleton.mp hb'; exact hb⟩, by show (if q ∈ [q] then H q else F q) = _; rw [if_pos (List.mem_singleton.mpr rfl)]; exact hb⟩
/-- for k in e -/
theorem iv_keysT (he : EV T X e ss (.dcT ks xs)) : IV T X tg e ss (ks.map D.tk) := IV.of (pi_keys he) fun B F H σ R R0 q => ev_go R0 fun v F1 H1 n1 R1 i1 => by
  obtain ⟨a, od, kvs, rfl, e2, ek, e4⟩ := i1
  have hl : (ks.map D.tk).length = kvs.length := by rw [List.length_map, ← ek, List.length_map]
  refine ⟨a, od, rfl, .inr ⟨kvs, R1.sub _ _ e2, q _ F1 H1 n1 R1 ⟨fun i F H x1 x2 hi => ?_, fun F H x1 x2 => ⟨x2 _ _ (x1 _ _ e2), by omega⟩⟩⟩⟩
  refine ⟨⟨x2 _ _ (x1 _ _ e2), by omega⟩, fun x H' y => ?_⟩
  obtain ⟨rfl, k, v, q, hq, rfl, hb⟩ := y
  obtain ⟨n, eq⟩ := nx_add1 (T := T) x2 hb
  exact ⟨_, .tk k, n, by rw [← ek, List.getElem?_map, List.getElem?_map, hq]; rfl, q, rfl, eq⟩
def pairsT (ks : List (List Key)) (xs : List D) : List D := (ks.zip xs).map fun p => .tup [.tk p.1, p.2]
/-- for k, v in e.items() -/
theorem iv_itemsT (he : EV T X e ss (.dcT ks xs)) (hbase : attributeBase e "items" X.env (eval e X.env) = eval e X.env := by rfl) (hline : (apos.endLine == cpos.line) = true := by rfl) :
    IV T X (.Tuple elts kk tpos) (.Call (.Attribute e "items" apos) [] [] cpos) ss (pairsT ks xs) := IV.of (ItT.pi_pairs he hbase hline) fun B F H σ R R0 q => ev_go R0 fun v F1 H1 n1 R1 i1 => by
  obtain ⟨a, od, kvs, rfl, e2, ek, e4⟩ := i1
  have h1 : ks.length = kvs.length := by rw [← ek, List.length_map]
  have h2 : xs.length = kvs.length := by rw [← e4.length, List.length_map]
  have hl : (pairsT ks xs).length = kvs.length := by unfold pairsT; rw [List.length_map, List.length_zip]; omega
  refine ⟨a, od, kvs, rfl, R1.sub _ _ e2, q _ F1 H1 n1 R1 ⟨fun i F H x1 x2 hi => ?_, fun F H x1 x2 => ⟨by omega, x2 _ _ (x1 _ _ e2)⟩⟩⟩
  refine ⟨⟨by omega, x2 _ _ (x1 _ _ e2)⟩, fun x H' y => ?_⟩
  obtain ⟨t, q, k, v, rfl, hq, hb, ht, rfl⟩ := y
  obtain ⟨n, eq⟩ := nx_add1 (T := T) x2 hb
  obtain ⟨d, hd, id⟩ := IsL.get e4 (i := i) (v := v) (by rw [List.getElem?_map, hq]; rfl)
  have n2 : Nx T (addT F H [q]) H (upd (addT F H [q]) t (.tup [.ref q, v])) (upd H t (.tup [.ref q, v])) := Nx.alloc n.s ht
  refine ⟨_, .tup [.tk k, d], n.trans n2, ?_, t, _, rfl, SqT.of upd_same, .cons ⟨q, rfl, n2.f _ _ eq⟩ (.cons (Is.mono (x1.trans (n.trans n2).f) _ id) .nil)⟩
  have e1 : ks[i]? = some k := by rw [← ek, List.getElem?_map, hq]; rfl
  unfold pairsT
  rw [List.getElem?_map, List.getElem?_zip_eq_some (z := (k, d)) |>.mpr ⟨e1, hd⟩]
  rfl
end
/-! ### sorted -/
def leB (b : Bool) (p q : List Int) : Bool := if b = true then !HT.lexLt p q else !HT.lexLt q p
def srtI (b : Bool) (ks : List (List Int)) : List (List Int) := ks.mergeSort (leB b)
theorem lex_anti : ∀ xs ys : List Int, HT.lexLt xs ys = false → HT.lexLt ys xs = false → xs = ys
  | [], [], _, _ => rfl
  | [], y :: ys, h, _ => by rw [HT.lexLt_nil_cons] at h; cases h
  | x :: xs, [], _, h => by rw [HT.lexLt_nil_cons] at h; cases h
  | x :: xs, y :: ys, h1, h2 => by
    rw [HT.lexLt_cons] at h1 h2
    by_cases e : x = y
    · subst e
      rw [if_pos rfl] at h1 h2
      rw [lex_anti xs ys h1 h2]
    · rw [if_neg e] at h1
      rw [if_neg (fun z => e z.symm)] at h2
      have a1 := of_decide_eq_false h1
      have a2 := of_decide_eq_false h2
      omega
theorem leB_anti {b : Bool} {p q : List Int} (h1 : leB b p q = true) (h2 : leB b q p = true) : p = q := by
  unfold leB at h1 h2
  cases b with
  | true =>
    rw [if_pos rfl] at h1 h2
    exact lex_anti _ _ (by simpa using h1) (by simpa using h2)
  | false =>
    rw [if_neg (by decide)] at h1 h2
    exact lex_anti _ _ (by simpa using h2) (by simpa using h1)
theorem leB_trans {b : Bool} (p q r : List Int) (h1 : leB b p q = true) (h2 : leB b q r = true) : leB b p r = true := by
  unfold leB at h1 h2 ⊢
  cases b with
  | true =>
    rw [if_pos rfl] at h1 h2 ⊢
    simp only [Bool.not_eq_true'] at h1 h2 ⊢
    exact NtL.lex_tr _ _ _ h2 h1
  | false =>
    rw [if_neg (by decide)] at h1 h2 ⊢
    simp only [Bool.not_eq_true'] at h1 h2 ⊢
    exact NtL.lex_tr _ _ _ h1 h2
theorem leB_total {b : Bool} (p q : List Int) : (leB b p q || leB b q p) = true := by
  unfold leB
  cases h : HT.lexLt p q with
  | false => cases b <;> simp [h]
  | true => have := NtL.lex_asym _ _ h; cases b <;> simp [h, this]
theorem srt_perm (b : Bool) (ks : List (List Int)) : (srtI b ks).Perm ks := List.mergeSort_perm _ _
theorem srt_pair (b : Bool) (ks : List (List Int)) : (srtI b ks).Pairwise fun p q => leB b p q = true := List.pairwise_mergeSort leB_trans leB_total ks
theorem srt_uniq {b : Bool} {ks ls : List (List Int)} (p : ls.Perm ks) (o : ls.Pairwise fun p q => leB b p q = true) : ls = srtI b ks :=
  List.Perm.eq_of_pairwise (fun x y _ _ h1 h2 => leB_anti h1 h2) o (srt_pair b ks) (p.trans (srt_perm b ks).symm)
theorem ord_srt {b : Bool} {k : Addr → List Int} {bs bs' : List Addr} (p : bs'.Perm bs) (o : SoT.Ord b k bs') : bs'.map k = srtI b (bs.map k) := by
  refine srt_uniq (p.map k) (List.pairwise_map.mpr (List.Pairwise.imp (fun {x y} h => ?_) o))
  unfold leB
  cases b with
  | true => rw [if_pos rfl]; rw [if_pos rfl] at h; simp [h]
  | false => rw [if_neg (by decide)]; rw [if_neg (by decide)] at h; simp [h]
abbrev iK (k : List Int) : List Key := k.map Sum.inl
abbrev tkI (k : List Int) : D := .tk (iK k)
def intsV : V → Int
  | .int i => i | _ => 0
/-- the whole numbers of the tuple at a -/
def kAt (H : Hp) (a : Addr) : List Int := match H a with
  | some (.tup xs) => xs.map intsV
  | _ => []
theorem kV_iK (k : List Int) : (iK k).map kV = k.map V.int := by rw [List.map_map]; rfl
theorem kAt_of {H : Hp} {a : Addr} {k : List Int} (h : H a = some (.tup ((iK k).map kV))) : kAt H a = k := by
  unfold kAt
  rw [h, kV_iK]
  show (k.map V.int).map intsV = k
  rw [List.map_map]
  exact List.map_id _
theorem tks_at {K : PySem.W.Frag} {F H : Hp} (x : Ext F H) : ∀ {ks : List (List Int)} {vs : List V}, IsL K F (ks.map tkI) vs → ∃ bs : List Addr, vs = bs.map V.ref ∧ bs.map (kAt H) = ks ∧ ∀ c ∈ bs, H c = some (.tup ((kAt H c).map V.int))
  | [], _, h => by cases (show _ = _ from h); exact ⟨[], rfl, rfl, fun _ z => nomatch z⟩
  | k :: ks, _, h => by
    obtain ⟨v, r, rfl, ⟨a, rfl, ea⟩, h2⟩ := h
    obtain ⟨bs, rfl, e1, e2⟩ := tks_at x h2
    have ea' := x _ _ ea
    have ek := kAt_of ea'
    refine ⟨a :: bs, rfl, by rw [List.map_cons, ek, e1], fun c hc => ?_⟩
    rcases List.mem_cons.mp hc with z | z
    · rw [z, ek, ea', kV_iK]
    · exact e2 c z
theorem tks_is {K : PySem.W.Frag} {F : Hp} {g : Addr → List Int} : ∀ {bs : List Addr}, (∀ c ∈ bs, F c = some (.tup ((g c).map V.int))) → IsL K F ((bs.map g).map tkI) (bs.map V.ref)
  | [], _ => rfl
  | b :: bs, h => .cons ⟨b, rfl, by rw [kV_iK]; exact h b List.mem_cons_self⟩ (tks_is fun c hc => h c (List.mem_cons_of_mem _ hc))
section
variable {T : List (Addr × Str)} {X : Cx} {ss : SS} {e : Expr} {xs : List D} {p pos cp tp kp : Pos} {ks : List (List Int)} {j : Nat}
theorem boot_sorted : bootBuiltins "sorted" = some (.builtin "sorted") := by decide +kernel
/-- what is told is a datum: a new list of the same tuples -/
theorem told_go {B : Hp × Hp} {F H : Hp} {σ : L2.St} {b : Bool} {bs : List Addr} {Q : VK} (R : StR T X.K B F H σ ss) (hk : bs.map (kAt H) = ks) (ht : ∀ c ∈ bs, H c = some (.tup ((kAt H c).map V.int))) (hl : ks.length ≤ 100000) (h1 : ks.length < 2 ∨ ∀ k ∈ ks, 1 ≤ k.length)
    (q : ∀ v F1 H1, Nx T F H F1 H1 → StR T X.K B F1 H1 σ ss → Is X.K F1 (.lst ((srtI b ks).map tkI)) v → Q v H1) : SoT.Told H b bs Q := by
  have hn : bs.length = ks.length := by rw [← hk, List.length_map]
  refine ⟨kAt H, by rw [hn]; exact small_len hl, ht, h1.imp (by omega) (fun z c hc => z _ (by rw [← hk]; exact List.mem_map.mpr ⟨c, hc, rfl⟩)), fun bs' p pm od hp => ?_⟩
  have n : Nx T F H (addT F H bs') H := nx_addT R.sub fun c hc => ⟨_, ht c (pm.subset hc)⟩
  have R1 := R.grow n
  have n2 := Nx.alloc (T := T) (o := .lst (bs'.map V.ref)) R1.sub hp
  refine q _ _ _ (n.trans n2) (R1.alloc hp) ⟨p, _, rfl, upd_same, IsL.mono n2.f _ ?_⟩
  rw [← hk, ← ord_srt pm od]
  exact tks_is fun c hc => by
    show (if c ∈ bs' then H c else F c) = _
    rw [if_pos hc]; exact ht c (pm.subset hc)
/-- sorted(e, reverse=True), e a list of tuples of whole numbers -/
theorem ev_sortRL (ha : EV T X e ss (.lst (ks.map tkI))) (hl : ks.length ≤ 100000) (h1 : ks.length < 2 ∨ ∀ k ∈ ks, 1 ≤ k.length) (hm : X.mg "sorted" = none) (hc : X.calm = true := by rfl) (hg : Gl X "sorted" := by rfl) (hs : starEach [e] X.env = [(false, eval e X.env)] := by rfl)
    (he : backTo pos (starEach [e] X.env) = (false, eval e X.env) :: backTo pos (starEach [] X.env) := by rfl) (hpl : (backTo pos (starEach [e] X.env)).any (·.1) = false := by rfl)
    (hall : (backToKw pos (keywordEach [⟨some "reverse", .Constant (.bool true) j tp, kp⟩] X.env)).all (·.1.isSome) = true := by rfl) (hnone : (backToKw pos (keywordEach [⟨some "reverse", .Constant (.bool true) j tp, kp⟩] X.env)).any (·.1.isNone) = false := by rfl) (hks : (backToKw pos (keywordEach [⟨some "reverse", .Constant (.bool true) j tp, kp⟩] X.env)).filterMap (·.1) = [Str.ofString "reverse"] := by rfl) :
    EV T X (.Call (.Name "sorted" p) [e] [⟨some "reverse", .Constant (.bool true) j tp, kp⟩] pos) ss (.lst ((srtI true ks).map tkI)) :=
  EV.of (pe_callBK (SoT.ck_sortL (b := true) hc) hg hm boot_sorted (evs_cons ha evs_nil hs) (pk_cons pe_bl pk_nil) (by decide) (by decide) he hpl hall hnone hks) fun B F H σ Q R q => evs_go R fun vs F1 H1 n1 R1 i1 => by
    obtain ⟨v, rfl, a, ws, rfl, e2, e3⟩ := isL1 i1
    obtain ⟨bs, rfl, e4, e5⟩ := tks_at R1.sub e3
    exact ⟨rfl, a, bs, rfl, SqL.of (R1.sub _ _ e2), told_go R1 e4 e5 hl h1 fun v F2 H2 n2 R2 i2 => q v F2 H2 (n1.trans n2) R2 i2⟩
theorem keys_at {H : Hp} : ∀ {kvs : List (List Key × V)} {ks : List (List Int)} {bs : List Addr}, kvs.map (·.1) = ks.map iK → IsKeys H kvs bs → bs.map (kAt H) = ks ∧ ∀ c ∈ bs, H c = some (.tup ((kAt H c).map V.int))
  | [], [], [], _, _ => ⟨rfl, fun _ z => nomatch z⟩
  | kv :: kvs, k :: ks, b :: bs, e, h => by
    obtain ⟨e0, e'⟩ := List.cons.inj e
    rcases h with _ | ⟨h, t⟩
    obtain ⟨r1, r2⟩ := keys_at e' t
    have eb : H b = some (.tup ((iK k).map kV)) := by rw [← e0]; exact h
    have ek := kAt_of eb
    refine ⟨by rw [List.map_cons, ek, r1], fun c hc => ?_⟩
    rcases List.mem_cons.mp hc with z | z
    · rw [z, ek, eb, kV_iK]
    · exact r2 c z
  | [], _ :: _, _, e, _ => nomatch e
  | _ :: _, [], _, e, _ => nomatch e
  | [], [], _ :: _, _, h => nomatch h
  | _ :: _, _ :: _, [], _, h => nomatch h
/-- sorted(e, reverse=True), e a dict that is a datum -/
theorem ev_sortRD (ha : EV T X e ss (.dcT (ks.map iK) xs)) (hl : ks.length ≤ 100000) (h1 : ks.length < 2 ∨ ∀ k ∈ ks, 1 ≤ k.length) (hm : X.mg "sorted" = none) (hc : X.calm = true := by rfl) (hg : Gl X "sorted" := by rfl) (hs : starEach [e] X.env = [(false, eval e X.env)] := by rfl)
    (he : backTo pos (starEach [e] X.env) = (false, eval e X.env) :: backTo pos (starEach [] X.env) := by rfl) (hpl : (backTo pos (starEach [e] X.env)).any (·.1) = false := by rfl)
    (hall : (backToKw pos (keywordEach [⟨some "reverse", .Constant (.bool true) j tp, kp⟩] X.env)).all (·.1.isSome) = true := by rfl) (hnone : (backToKw pos (keywordEach [⟨some "reverse", .Constant (.bool true) j tp, kp⟩] X.env)).any (·.1.isNone) = false := by rfl) (hks : (backToKw pos (keywordEach [⟨some "reverse", .Constant (.bool true) j tp, kp⟩] X.env)).filterMap (·.1) = [Str.ofString "reverse"] := by rfl) :
    EV T X (.Call (.Name "sorted" p) [e] [⟨some "reverse", .Constant (.bool true) j tp, kp⟩] pos) ss (.lst ((srtI true ks).map tkI)) :=
  EV.of (pe_callBK (SoT.ck_sortD (b := true) hc) hg hm boot_sorted (evs_cons ha evs_nil hs) (pk_cons pe_bl pk_nil) (by decide) (by decide) he hpl hall hnone hks) fun B F H σ Q R q => evs_go R fun vs F1 H1 n1 R1 i1 => by
    obtain ⟨v, rfl, a, od, kvs, rfl, e2, ek, e4⟩ := isL1 i1
    exact ⟨rfl, a, kvs, rfl, .inr ⟨od, R1.sub _ _ e2⟩, fun bs hb _ _ => by
      obtain ⟨r1, r2⟩ := keys_at ek hb
      exact told_go R1 r1 r2 hl h1 fun v F2 H2 n2 R2 i2 => q v F2 H2 (n1.trans n2) R2 i2⟩
/-- sorted(x), x a dict of one's own -/
theorem ev_sortO (i : Nat) {x : Str} {px : Pos} (hx : ss[i]? = some (.dicT (ks.map iK) xs)) (hl : ks.length ≤ 100000) (h1 : ks.length < 2 ∨ ∀ k ∈ ks, 1 ≤ k.length) (hm : X.mg "sorted" = none) (hc : X.calm = true := by rfl) (hg : Gl X "sorted" := by rfl) (hp : PE X (.Name x px) (tVar i) := by exact pv _)
    (hs : starEach [.Name x px] X.env = [(false, eval (.Name x px) X.env)] := by rfl) : EV T X (.Call (.Name "sorted" p) [.Name x px] [] pos) ss (.lst ((srtI false ks).map tkI)) :=
  EV.of (pe_callB (SoT.cr_sortD hc) hg hm boot_sorted (pa_cons hp pa_nil hs) (by decide) (by decide) hs (by rfl)) fun B F H σ Q R q => by
    have hi : i < ss.length := (List.getElem?_eq_some_iff.mp hx).1
    have hsl : i < σ.length := by rw [R.len]; exact hi
    obtain ⟨a, kvs, q1, q2, q3, qk, q4⟩ := R.slots i _ _ hx (List.getElem?_eq_getElem hsl)
    refine ⟨.ref a, by rw [List.getElem?_eq_getElem hsl, q1], a, kvs, rfl, .inl q3, fun bs hb _ _ => ?_⟩
    obtain ⟨r1, r2⟩ := keys_at qk hb
    exact told_go R r1 r2 hl h1 q
end
end Fd

set_option Elab.async false
set_option linter.all false
set_option maxRecDepth 100000
set_option maxHeartbeats 4000000
/-! DiP: dict(list of pairs), the keys tuples of whole numbers and texts. -/
namespace DiP
open PySem PySem.Spec PyProof.Rows L2
variable {X : Cx}
def mergeT (kvs more : List (List Key × V)) : List (List Key × V) := more.foldl (fun acc kv => putK acc kv.1 kv.2) kvs
theorem mergeT_len : ∀ (more kvs : List (List Key × V)), (mergeT kvs more).length ≤ kvs.length + more.length
  | [], kvs => Nat.le_refl _
  | p :: r, kvs => by
    have h1 := mergeT_len r (putK kvs p.1 p.2)
    have h2 := length_putK kvs p.1 p.2
    have h3 : mergeT kvs (p :: r) = mergeT (putK kvs p.1 p.2) r := rfl
    rw [h3, List.length_cons]
    omega
/-- a pair in the list: its own tuple, the key's tuple, the key, the value -/
structure Pr where
  t : Addr
  b : Addr
  k : List Key
  v : V
def Pr.ok (K : PySem.W.Frag) (H : Hp) (q : Pr) : Prop := SqT K H q.t [.ref q.b, q.v] ∧ H q.b = some (.tup (q.k.map kV))
theorem laid {pins : List (Addr × Obj)} {σ : L2.St} {H : Hp} {s : Shared} (J : Inv X pins σ H s) : ∀ {qs : List Pr}, (∀ q ∈ qs, q.ok X.K H) → ∃ us : List Value, us.length = qs.length ∧
    ∀ (j : Nat) (h : j < qs.length) (h' : j < us.length), s.heap.IsTuple qs[j].t #[.ref qs[j].b, us[j]] ∧ RelV qs[j].v us[j]
  | [], _ => ⟨[], rfl, fun j h => absurd h (Nat.not_lt_zero _)⟩
  | q :: qs, h => by
    obtain ⟨us, l, r⟩ := laid J fun y m => h y (List.mem_cons_of_mem _ m)
    obtain ⟨h1, _⟩ := h q List.mem_cons_self
    obtain ⟨its, rv, tp, _⟩ := J.tuple h1
    obtain ⟨u, y, rfl, ru, ry⟩ := vals2 rv
    cases (show u = Value.ref q.b from ru)
    refine ⟨y :: us, by simp [l], fun j h1 h2 => ?_⟩
    cases j with
    | zero => exact ⟨tp, ry⟩
    | succ j => exact r j (by simpa using h1) (by simpa using h2)
theorem kts {H : Hp} : ∀ {qs : List Pr} {us : List Value} {kvs : List (List Key × V)} {xs : List (List Key × Addr × Value)}, us.length = qs.length → (∀ q ∈ qs, H q.b = some (.tup (q.k.map kV))) → (∀ (j : Nat) (h : j < qs.length) (h' : j < us.length), RelV qs[j].v us[j]) → KT H kvs xs →
    KT H (mergeT kvs (qs.map fun q => (q.k, q.v))) (storedAllH xs ((qs.zip us).map fun p => (p.1.k, p.1.b, p.2)))
  | [], us, kvs, xs, _, _, _, r => by cases us <;> exact r
  | q :: qs, [], _, _, l, _, _, _ => nomatch l
  | q :: qs, u :: us, kvs, xs, l, hb, hv, r => by
    have r1 := r.put q.k (hb q List.mem_cons_self) (hv 0 (by simp) (by simp))
    exact kts (qs := qs) (us := us) (by simpa using l) (fun y m => hb y (List.mem_cons_of_mem _ m)) (fun j h h' => hv (j + 1) (by simpa using h) (by simpa using h')) r1
theorem cr_dictT (hc : X.calm = true) (hu : X.A.units + 2 < cLine) : CallR X (.type "dict") (fun xs H Q => ∃ (a : Addr) (qs : List Pr), xs = [.ref a] ∧ SqL X.K H a (qs.map fun q => V.ref q.t) ∧ (∀ q ∈ qs, q.ok X.K H) ∧
    ∀ p, H p = none → Q (.ref p) (upd H p (.dT (mergeT [] (qs.map fun q => (q.k, q.v)))))) := by
  intro pins s σ H xs us Q J r ⟨a, qs, e, hs, ok, q⟩
  subst e
  rw [Vals.ref1 r]
  obtain ⟨its, rv, pl, hz⟩ := J.list hs
  have ei : its = qs.map fun q => Value.ref q.t := by
    have all : ∀ {qs : List Pr} {us : List Value}, Vals (qs.map fun q => V.ref q.t) us → us = qs.map fun q => Value.ref q.t := by
      intro qs
      induction qs with
      | nil => intro us r; cases r; rfl
      | cons q qs ih =>
        intro us r
        cases r with
        | cons h t =>
          cases h
          exact congrArg (List.cons _) (ih t)
    exact all rv
  subst ei
  rw [List.length_map] at hz
  obtain ⟨vs, lv, hv⟩ := laid J ok
  obtain ⟨o, n, ho, hcl, hd, hdat⟩ := pl
  have lz : (qs.zip vs).length = qs.length := by rw [List.length_zip, lv]; exact Nat.min_self _
  let ps : List (Value × Value) := (qs.zip vs).map fun p => (Value.ref p.1.b, p.2)
  have lp : ps.length = qs.length := by rw [List.length_map]; exact lz
  have items : PairItems s.heap (qs.map fun q => Value.ref q.t).toArray (fun j => (qs.map (·.t)).getD j 0) ps := by
    refine ⟨by rw [lp]; simp, fun j k v e => ?_⟩
    obtain ⟨hj, e⟩ := List.getElem?_eq_some_iff.mp e
    have h1 : j < qs.length := by omega
    have h2 : j < vs.length := by omega
    have e' : ((qs.zip vs).map fun p => (Value.ref p.1.b, p.2))[j]'hj = (k, v) := e
    rw [List.getElem_map, List.getElem_zip] at e'
    cases e'
    refine ⟨by simp [h1], .inl ?_⟩
    have g : (qs.map (·.t)).getD j 0 = qs[j].t := by simp [h1]
    show s.heap.IsTuple ((qs.map (·.t)).getD j 0) _
    rw [g]
    exact (hv j h1 h2).1
  have keys : ∀ h' : Heap, (∀ b o, s.heap.get? b = some o → h'.get? b = some o) → ∀ x ∈ (qs.zip vs).map fun p => (p.1.k, p.1.b, p.2), (tupleKind (mixKind X.prog X.w)).is h' x.1 x.2.1 := fun h' kp x m => by
    obtain ⟨p, hp, rfl⟩ := List.mem_map.mp m
    have mq : p.1 ∈ qs := (List.of_mem_zip hp).1
    obtain ⟨o, its, n, w1, w2, w3, w4⟩ := key_of J.hok (ok p.1 mq).2
    exact ⟨o, its, n, kp _ _ w1, w2, w3, w4⟩
  refine call_dict_pairsH (knd := tupleKind (mixKind X.prog X.w)) (ps := (qs.zip vs).map fun p => (p.1.k, p.1.b, p.2)) (PairArg.list a _ _ ps) (J.ok.hd hc) (show X.A.in1.in1.units < cLine from hu) ⟨⟨o, n, ho, hcl, hd, hdat⟩, items⟩
    ⟨by rw [List.length_map, lp]; exact lz, fun i key v e => ?_⟩ (fun h' kp x m => keys h' (fun b o e => kp b o (Nat.ne_of_lt (Heap.lt_size e)) (by simp) e) x m) (by omega) fun h' tk dd kp => ?_
  · obtain ⟨hi, e⟩ := List.getElem?_eq_some_iff.mp e
    have h1 : i < (qs.zip vs).length := by omega
    have e' : ((qs.zip vs).map fun p => (Value.ref p.1.b, p.2))[i]'hi = (key, v) := e
    rw [List.getElem_map] at e'
    cases e'
    exact ⟨_, _, by rw [List.getElem?_map, List.getElem?_eq_getElem h1]; rfl, rfl⟩
  · have hm : (s.heap.objs.size == sysModules) = false := beq_eq_false_iff_ne.mpr (Nat.ne_of_gt J.big)
    have hn : H s.heap.objs.size = none := J.hok.fresh (Nat.le_refl _)
    have len : (mergeT [] (qs.map fun q => (q.k, q.v))).length ≤ sizeLine := by
      have := mergeT_len (qs.map fun q => (q.k, q.v)) []
      rw [List.length_map] at this
      simp only [List.length_nil] at this
      omega
    have rel := kts (kvs := []) (xs := []) lv (fun y m => (ok y m).2) (fun j h h' => (hv j h h').2) .nil
    obtain ⟨o', es, ep, d1, d2, d3, d4, _, d5⟩ := dd
    refine ⟨.ref s.heap.objs.size, _, J.laid (t' := tk) (fun b o e => kp b o (by simp) e) (Nat.le_refl _) (show ObjOk X.prog X.w _ _ _ (.dT _) from ⟨len, hm, _, rel.keeps fun c ys e => ?_, o', es, ep, d1, d2, d3, d4, d5⟩), rfl, q _ hn⟩
    rw [upd_ne (ne_of_none e hn)]
    exact e
end DiP

set_option Elab.async false
set_option linter.all false
set_option maxRecDepth 100000
set_option maxHeartbeats 4000000
/-! DiC: dict(d), the keys of d tuples no two of which hash alike. -/
namespace DiC
open PySem PySem.Spec PyProof.Rows L2
section
variable {prog : Program} {w : World} {A : Around} {E : Value → Shared → Prop} {s : Shared} {K : Type} [DecidableEq K] {knd : HeapKind prog w K}
theorem call_new {o : Addr} {more : List (K × Addr × Value)} {Q : Value → Shared → Prop} (hu : knd.room A.in1.in1) (ns : (o == sysModules) = false) (ho : s.heap.DictOfH knd o more) (hst : ∀ h', (∀ b u, s.heap.get? b = some u → h'.get? b = some u) → ∀ x ∈ more, knd.is h' x.1 x.2.1)
    (ty : ∀ x ∈ more, s.TypeIs (.ref x.2.1) "tuple") (apart : (more.map fun x => knd.hash x.1).Nodup) (hz : more.length ≤ sizeLine)
    (q : ∀ h', h'.DictOfH knd s.heap.objs.size more → (∀ b u, s.heap.get? b = some u → h'.get? b = some u) → Q (.ref s.heap.objs.size) { s with heap := h' }) : wpAny (model prog w) A (call (.type "dict") [.ref o]) Q E s := by
  let e0 : Obj := { cls := .type "dict", data := .dict #[] }
  refine callType_codes (Q₁ := fun v s1 => v = .ref s.heap.objs.size ∧ s1 = { s with heap := s.heap.push e0 }) F.kt_called_dict (F.kt_typeCall_dict_1 _) F.entry_dict_init (kt_code_dict_new _ ⟨rfl, rfl⟩) fun v s1 ⟨ev, es⟩ => ?_
  subst ev es
  have up : ∀ b u, s.heap.get? b = some u → (s.heap.push e0).get? b = some u := fun b u e => Heap.get?_push_of_some _ e
  have new : (s.heap.push e0).DictOfH knd s.heap.objs.size [] := Heap.DictOfH.new s.heap
  obtain ⟨oo, os, op, g, gc, gd, ge, gi, gn⟩ := id ho
  have old : (s.heap.push e0).DictOfH knd o more := ⟨oo, os, op, up _ _ g, gc, gd, ge, hst _ up, gn⟩
  have ne : s.heap.objs.size ≠ o := fun e => absurd (Heap.lt_size g) (e ▸ Nat.lt_irrefl _)
  refine ⟨new.typeIs, F.args_dict_init_2 _ _, ?_⟩
  unfold Builtin.«dict.__init__» Builtin.Dict.selfAndRest
  refine wpAny_bind (wpAny_bind (wpAny_notOrdered_dict new.typeIs (wpAny_pure ?_)))
  show wpAny _ _ (Builtin.Dict.updateFrom "dict.__init__" s.heap.objs.size (.ref o) [] .none) _ _ { s with heap := s.heap.push e0 }
  refine updateFrom_dictH (A := A.in1) .none hu ne ns new old (.inr ⟨fun x m => ?_, apart⟩) (by simpa using hz) fun h' d1 d2 sb => ?_
  · obtain ⟨b, hb, c⟩ := ty x m
    exact ⟨b, up _ _ hb, c⟩
  · rw [storedAllH_nil_of_nodup more gn] at d1
    exact ⟨rfl, q h' d1 fun b u e => (sb.2 b (Nat.ne_of_lt (Heap.lt_size e))).trans (up b u e)⟩
end
theorem keyed {P : Program} {w : World} {h : Heap} {H : Hp} (ok : HOk P w H h) : ∀ {kvs : List (List Key × V)} {xs : List (List Key × Addr × Value)}, KT H kvs xs → (∀ x ∈ xs, (H x.2.1 = some (.tup (x.1.map kV)))) ∧ xs.map (·.1) = kvs.map (·.1) := fun {kvs xs} r => by
  induction r with
  | nil => exact ⟨fun x m => (nomatch m), rfl⟩
  | @cons p q ps qs hq t ih =>
    refine ⟨fun x m => ?_, by rw [List.map_cons, List.map_cons, ih.2, hq.1]⟩
    rcases List.mem_cons.mp m with e | m
    · subst e; rw [← hq.1]; exact hq.2.1
    · exact ih.1 x m
theorem cr_copyT {X : Cx} (hu : X.A.units + 2 < cLine) : CallR X (.type "dict") (fun xs H Q => ∃ (a : Addr) (kvs : List (List Key × V)), xs = [.ref a] ∧ Rd H a (.dT kvs) ∧ (kvs.map fun p => (tupleKind (mixKind X.prog X.w)).hash p.1).Nodup ∧
    ∀ p, H p = none → Q (.ref p) (upd H p (.dT kvs))) := by
  intro pins s σ H xs us Q J r ⟨a, kvs, e, hd, ap, q⟩
  subst e
  rw [Vals.ref1 r]
  obtain ⟨z, ns, vs, rel, dd⟩ := dt_rd J.hok hd
  obtain ⟨k1, k2⟩ := keyed J.hok rel
  have lz : vs.length ≤ sizeLine := by have := Paired.length rel; omega
  have hn : H s.heap.objs.size = none := J.hok.fresh (Nat.le_refl _)
  have is : ∀ x ∈ vs, (tupleKind (mixKind X.prog X.w)).is s.heap x.1 x.2.1 := fun x m => key_of J.hok (k1 x m)
  have apart : (vs.map fun x => (tupleKind (mixKind X.prog X.w)).hash x.1).Nodup := by
    have e : (vs.map fun x => (tupleKind (mixKind X.prog X.w)).hash x.1) = kvs.map fun p => (tupleKind (mixKind X.prog X.w)).hash p.1 := by
      have := congrArg (List.map (tupleKind (mixKind X.prog X.w)).hash) k2
      rw [List.map_map, List.map_map] at this
      exact this
    rw [e]; exact ap
  refine call_new (knd := tupleKind (mixKind X.prog X.w)) (show X.A.in1.in1.units < cLine from hu) ns dd (fun h' kp x m => ?_) (fun x m => ?_) apart lz fun h' dd' kp => ?_
  · obtain ⟨o, its, n, w1, w2⟩ := is x m
    exact ⟨o, its, n, kp _ _ w1, w2⟩
  · obtain ⟨o, its, n, w1, w2, _⟩ := is x m
    exact ⟨o, w1, w2⟩
  · have hm : (s.heap.objs.size == sysModules) = false := beq_eq_false_iff_ne.mpr (Nat.ne_of_gt J.big)
    obtain ⟨o', es, ep, d1, d2, d3, d4, _, d5⟩ := dd'
    refine ⟨.ref s.heap.objs.size, _, J.laid (t' := s.toks) kp (Nat.le_refl _) (show ObjOk X.prog X.w _ _ _ (.dT kvs) from ⟨z, hm, _, rel.keeps fun c ys e => ?_, o', es, ep, d1, d2, d3, d4, d5⟩), rfl, q _ hn⟩
    rw [upd_ne (ne_of_none e hn)]
    exact e
end DiC

set_option Elab.async false
set_option linter.all false
set_option maxRecDepth 100000
set_option maxHeartbeats 4000000
/-! Fd42: dicts with tuple keys: out.get(k, x), x = dict(e), dict(pairs), {k: v}; a def that tells a new one. -/
namespace Fd
open PySem PySem.Spec PyProof.Rows L2
section
variable {T : List (Addr × Str)} {X : Cx} {ss : SS} {P : Post} {a b e : Expr} {es : List Expr} {d d0 : D} {ds : List D} {ks : List (List Key)} {xs : List D} {kk : List Key} {pos cpos apos p : Pos} {n k : Nat} {x : Str}
/-- x.get(a, b), x a dict of one's own -/
theorem ev_getOD (i : Nat) {px : Pos} (hx : ss[i]? = some (.dicT ks xs)) (hr : Room n X.A) (ha : EV T X a ss (.tk kk)) (hd : EV T X b ss d0) (hl : (look ks xs kk).getD d0 = d) (hp : PE X (.Name x px) (tVar i) := by exact pv _)
    (m : M2 X (.Name x px) "get" apos a b cpos := by exact ⟨rfl, rfl, rfl, rfl⟩) : EV T X (.Call (.Attribute (.Name x px) "get" apos) [a, b] [] cpos) ss d := by
  refine EV.of (pe_dget2 (by have := hr.units; omega) hp ha hd m) fun B F H σ Q R q => ?_
  have hi : i < ss.length := (List.getElem?_eq_some_iff.mp hx).1
  have hsl : i < σ.length := by rw [R.len]; exact hi
  obtain ⟨p, kvs, e1, e2, e3, ek, e4⟩ := R.slots i _ _ hx (List.getElem?_eq_getElem hsl)
  refine ⟨.ref p, by rw [List.getElem?_eq_getElem hsl, e1], p, rfl, .inr ⟨kvs, .inl e3⟩, ev_go R fun u F2 H2 n2 R2 i2 => ev_go R2 fun z F3 H3 n3 R3 i3 => ?_⟩
  obtain ⟨p', kvs', q1, q2, q3, qk, q4⟩ := R3.slots i _ _ hx (List.getElem?_eq_getElem hsl)
  rw [q1] at e1
  cases e1
  obtain ⟨b2, rfl, k2⟩ := i2
  have eb := R3.sub _ _ (n3.f _ _ k2)
  rcases look_ok kk qk q4 with ⟨w1, w2, _⟩ | ⟨d', v, w1, w2, w3, _⟩
  · rw [w1] at hl
    cases hl
    exact ⟨none, by rw [← w2]; exact DGet.t q3 eb, q _ _ _ (n2.trans n3) R3 i3⟩
  · rw [w1] at hl
    cases hl
    exact ⟨some v, by rw [← w2]; exact DGet.t q3 eb, q _ _ _ (n2.trans n3) R3 w3⟩
/-- x = dict(e): a dict of one's own -/
theorem sv_copyT (i : Nat) {px p2 : Pos} (ha : EV T X e ss (.dcT ks xs)) (hr : Room (n + 1) X.A) (nd : (ks.map fun k => (tupleKind (mixKind X.prog X.w)).hash k).Nodup) (k : P.nx (ss.set i (.dicT ks xs))) (hm : X.mg "dict" = none) (hN : X.N.Nodup) (hi : X.N[i]? = some x := by rfl)
    (hx : Loc X.env.scope x := by first | exact Or.inl rfl | exact Or.inr rfl) (hg : Gl X "dict" := by rfl) (he : starEach [e] X.env = [(false, eval e X.env)] := by rfl)
    (hs : swapsWith (.Call (.Name "dict" p) [e] [] p2) (some (.Name x px)) pos.line X.env = pure false := by rfl) (hf : X.fn x = true ∨ X.env.scope.names.lookup x = some .local := by first | exact .inl rfl | exact .inr rfl | assumption) :
    SV T X (.Assign [.Name x px] (.Call (.Name "dict" p) [e] [] p2) pos) ss P := by
  refine SV.of (ps_set hN hi hx (pe_callTy (DiC.cr_copyT (by have := hr.units; omega)) hg hm boot_dict (evs_cons ha evs_nil he) (by decide) (by decide) he rfl) hs hf) fun B F H σ Dn R g => evs_go R fun vs F1 H1 n1 R1 i1 => ?_
  obtain ⟨v, rfl, q, od, kvs, rfl, e2, ek, e4⟩ := isL1 i1
  refine ⟨q, kvs, rfl, .inr ⟨od, R1.sub _ _ e2⟩, ?_, fun p hp => g.nx _ _ _ _ k (R1.newOwn hp rfl ⟨p, kvs, rfl, R1.free hp, upd_same, ek, e4⟩)⟩
  rw [← ek, List.map_map] at nd
  exact nd
theorem mergeT_new : ∀ (kvs acc : List (List Key × V)), (∀ kv ∈ kvs, kv.1 ∉ acc.map (·.1)) → (kvs.map (·.1)).Nodup → DiP.mergeT acc kvs = acc ++ kvs
  | [], acc, _, _ => by show acc = _; rw [List.append_nil]
  | kv :: kvs, acc, h, nd => by
    have e : putK acc kv.1 kv.2 = acc ++ [(kv.1, kv.2)] := by
      unfold putK
      rw [if_neg]
      intro z
      obtain ⟨y, hy, ey⟩ := List.any_eq_true.mp z
      exact h kv List.mem_cons_self (by rw [← of_decide_eq_true ey]; exact List.mem_map.mpr ⟨y, hy, rfl⟩)
    have nd' := List.nodup_cons.mp nd
    show DiP.mergeT (putK acc kv.1 kv.2) kvs = _
    rw [e, mergeT_new kvs _ (fun y hy z => ?_) nd'.2, List.append_assoc]
    · rfl
    · rw [List.map_append, List.mem_append] at z
      rcases z with z | z
      · exact h y (List.mem_cons_of_mem _ hy) z
      · have : y.1 = kv.1 := by simpa using z
        exact nd'.1 (List.mem_map.mpr ⟨y, hy, this⟩)
def pairsD (l : List (List Key × D)) : List D := l.map fun y => .tup [.tk y.1, y.2]
theorem pairsT_at {K : PySem.W.Frag} {F H : Hp} (x : Ext F H) : ∀ {l : List (List Key × D)} {us : List V}, IsL K F (pairsD l) us → ∃ qs : List DiP.Pr, us = qs.map (fun q => V.ref q.t) ∧ (∀ q ∈ qs, q.ok K H) ∧ qs.map (·.k) = l.map (·.1) ∧ IsL K F (l.map (·.2)) (qs.map (·.v))
  | [], _, h => by cases (show _ = _ from h); exact ⟨[], rfl, (fun _ z => nomatch z), rfl, rfl⟩
  | y :: l, _, h => by
    obtain ⟨v, r, rfl, ⟨t, vs, rfl, e1, e2⟩, h2⟩ := h
    obtain ⟨v1, v2, rfl, ⟨b, rfl, eb⟩, iv⟩ := isL2 e2
    obtain ⟨qs, rfl, w1, w2, w3⟩ := pairsT_at x h2
    refine ⟨⟨t, b, y.1, v2⟩ :: qs, rfl, fun q hq => ?_, by rw [List.map_cons, w2, List.map_cons], .cons iv w3⟩
    rcases List.mem_cons.mp hq with z | z
    · subst z; exact ⟨ext_seqT x e1, x _ _ eb⟩
    · exact w1 q z
/-- dict(e), e a list of pairs with different keys -/
theorem ev_dictPT {l : List (List Key × D)} (hr : Room (n + 1) X.A) (nd : (l.map (·.1)).Nodup) (ha : EV T X e ss (.lst (pairsD l))) (hm : X.mg "dict" = none) (hc : X.calm = true := by rfl) (hg : Gl X "dict" := by rfl) (he : starEach [e] X.env = [(false, eval e X.env)] := by rfl) :
    EV T X (.Call (.Name "dict" p) [e] [] pos) ss (.dcT (l.map (·.1)) (l.map (·.2))) :=
  EV.of (pe_frzV (pe_callTy (DiP.cr_dictT hc (by have := hr.units; omega)) hg hm boot_dict (evs_cons ha evs_nil he) (by decide) (by decide) he rfl)) fun B F H σ Q R q => evs_go R fun vs F1 H1 n1 R1 i1 => by
    obtain ⟨v, rfl, a, us, rfl, e2, e3⟩ := isL1 i1
    obtain ⟨qs, rfl, w1, w2, w3⟩ := pairsT_at R1.sub e3
    refine ⟨a, qs, rfl, SqL.of (R1.sub _ _ e2), w1, fun p hp => ⟨p, _, rfl, upd_same, trivial, fun ob => ?_⟩⟩
    have ek : (qs.map fun q => (q.k, q.v)).map (·.1) = l.map (·.1) := by rw [List.map_map]; exact w2
    have ev : (qs.map fun q => (q.k, q.v)).map (·.2) = qs.map (·.v) := by rw [List.map_map]; rfl
    rw [mergeT_new _ [] (fun _ _ z => nomatch z) (by rw [ek]; exact nd), List.nil_append]
    have l0 : Laid T X.K F1 H1 F1 (upd H1 p (.dT (qs.map fun q => (q.k, q.v)))) p (l.map (·.1)) (l.map (·.2)) := ⟨Nx.allocH R1.sub hp, R1.free hp, _, upd_same, ek, by rw [ev]; exact w3⟩
    have n2 := l0.n.frz (ob := ob) l0.no (Fr.of hp) upd_same
    exact q _ _ _ (n1.trans n2) (R1.grow n2) ⟨p, ob, _, rfl, upd_same, ek, by rw [ev]; exact IsL.mono n2.f _ w3⟩
/-! ### {k: v} -/
def tD1 (tk tv : TE) : TE := fun σ H Q => ∀ p, H p = none → tk σ (upd H p (.dT [])) fun y H1 => tv σ H1 fun z H2 => ∃ kvs k b, y = .ref b ∧ H2 b = some (.tup (k.map kV)) ∧ H2 p = some (.dT kvs) ∧ kvs.length < sizeLine ∧ Q (.ref p) (upd H2 p (.dT (putK kvs k z)))
theorem pe_d1T {tk tv : TE} (hu : X.A.units < cLine) (hk : PE X a tk) (hv : PE X b tv) : PE X (.Dict [some a] [b] pos) (tD1 tk tv) := by
  refine ⟨fun pins s σ H Q I q => ?_⟩
  have hn := I.hok.fresh (Nat.le_refl s.heap.objs.size)
  have I1 := I.laid (a := s.heap.objs.size) (o := .dT []) (h' := s.heap.push { cls := .type "dict", data := .dict #[] }) (t' := s.toks) (fun _ _ q => Heap.get?_push_of_some _ q) (Nat.le_refl _) (dt_empty s.heap I.big)
  refine wpAny_Dict_any rfl rfl (by simp) (by simp) (pairTrees_cons_walk (thn (hk.run pins _ σ _ _ I1 (q _ hn)) fun u s2 ⟨y, H2, I2, ry, q2⟩ => thn (hv.run pins s2 σ H2 _ I2 q2) fun r s3 ⟨z, H3, I3, rz, kvs, k, c, ey, eb, ed, lz, q3⟩ => pairTrees_nil_walk ?_))
  subst ey
  cases (show u = Value.ref c from ry)
  unfold storeAll
  rw [List.forIn_cons]
  refine wpAny_bind (wpAny_bind (DcT.lay hu I3 ed eb lz rz fun s4 I4 => wpAny_pure ?_))
  show wpAny _ _ (forIn [] PUnit.unit _) _ _ s4
  rw [List.forIn_nil]
  exact wpAny_pure ⟨.ref s.heap.objs.size, _, I4, rfl, q3⟩
/-- {k: v}, k a tuple: a datum -/
theorem ev_d1T (hr : Room n X.A) (ha : EV T X a ss (.tk kk)) (hb : EV T X b ss d) : EV T X (.Dict [some a] [b] pos) ss (.dcT [kk] [d]) :=
  EV.of (pe_frzV (pe_d1T hr.units0 ha hb)) fun B F H σ Q R q => fun p hp => by
    have l0 : Laid T X.K F H F (upd H p (.dT [])) p [] [] := ⟨Nx.allocH R.sub hp, R.free hp, [], upd_same, rfl, rfl⟩
    refine ev_go (R.grow l0.n) fun u F1 H1 n1 R1 i1 => ev_go R1 fun v F2 H2 n2 R2 i2 => ?_
    obtain ⟨c, rfl, eb⟩ := i1
    obtain ⟨kvs, e1, e2, l2⟩ := (l0.grow (n1.trans n2)).put (k := kk) (Fr.of hp) i2 (fun z => nomatch z)
    have hl : kvs.length = 0 := by rw [← List.length_map (f := (·.1)), e2]; rfl
    refine ⟨kvs, kk, c, rfl, R2.sub _ _ (n2.f _ _ eb), e1, by rw [hl, sizeLine_eq]; decide, p, _, rfl, upd_same, trivial, fun ob => ?_⟩
    obtain ⟨kvs', w1, w2, w3⟩ := l2.is
    rw [upd_same] at w1
    cases w1
    have n3 := l2.n.frz (ob := ob) l2.no (Fr.of hp) upd_same
    exact q _ _ _ n3 (R.grow n3) ⟨p, ob, _, rfl, upd_same, w2, IsL.mono (Ext.upd l2.no) _ w3⟩
/-! ### a def that tells a new dict -/
structure NewT (K : PySem.W.Frag) (F H F1 H1 : Hp) (ks : List (List Key)) (xs : List D) (p : Addr) (kvs : List (List Key × V)) : Prop where
  f0 : F p = none
  fr : Fr H p
  no : F1 p = none
  is : H1 p = some (.dT kvs)
  ks : kvs.map (·.1) = ks
  dt : IsL K F1 xs (kvs.map (·.2))
def EVT (T : List (Addr × Str)) (X : Cx) (e : Expr) (ss : SS) (ks : List (List Key)) (xs : List D) : Prop := ∃ te, PE X e te ∧ ∀ B F H σ Q, StR T X.K B F H σ ss → (∀ p kvs F1 H1, Nx T F H F1 H1 → StR T X.K B F1 H1 σ ss → NewT X.K F H F1 H1 ks xs p kvs → Q (.ref p) H1) → te σ H Q
def RT (T : List (Addr × Str)) (X : Cx) (sts : List Stmt) (ss : SS) (ks : List (List Key)) (xs : List D) : Prop := PSs X sts fun Dn σ H => ∃ B F, StR T X.K B F H σ ss ∧ B.1 = B.1 ∧ (∀ p o, B.1 p = some o → B.2 p = some o) ∧ ∀ p kvs F1 H1, Nx T B.1 B.2 F1 H1 → NewT X.K B.1 B.2 F1 H1 ks xs p kvs → Dn.rt (.ref p) H1
abbrev AllRT (T : List (Addr × Str)) (X : Cx) (sts : List Stmt) (ks : List (List Key)) (xs : List D) : TS := fun Dn σ H => ∃ B F ss, RT T X sts ss ks xs ∧ StR T X.K B F H σ ss ∧ (∀ p o, B.1 p = some o → B.2 p = some o) ∧ ∀ p kvs F1 H1, Nx T B.1 B.2 F1 H1 → NewT X.K B.1 B.2 F1 H1 ks xs p kvs → Dn.rt (.ref p) H1
theorem pss_rt {sts : List Stmt} : PSs X sts (AllRT T X sts ks xs) := ⟨fun pins s σ H D I ⟨B, F, ss, h, R, x, q⟩ => h.run pins s σ H D I ⟨B, F, R, rfl, x, q⟩⟩
theorem rt_cons {st : Stmt} {sts : List Stmt} (h : SV T X st ss ⟨fun ss' => RT T X sts ss' ks xs, fun _ => False, fun _ => False, fun _ => False⟩) : RT T X (st :: sts) ss ks xs :=
  PSs.imp (pss_cons h (pss_rt (T := T) (ks := ks) (xs := xs))) fun D σ H ⟨B, F, R, _, x, q⟩ => ⟨B, F, ss, _, ⟨rfl, rfl⟩, R, fun ss' σ' F1 H1 hn R1 => ⟨B, F1, ss', hn, R1, x, q⟩, fun _ _ _ _ _ _ z => z.elim, fun _ _ _ _ z => z.elim, fun _ _ _ _ z => z.elim⟩
theorem rt_ret (i : Nat) {px : Pos} (hx : ss[i]? = some (.dicT ks xs)) (hp : PE X (.Name x px) (tVar i) := by exact pv _) : RT T X [.Return (some (.Name x px)) pos] ss ks xs :=
  PSs.imp (pss_one (ps_ret hp)) fun Dn σ H ⟨B, F, R, _, x, q⟩ => by
    have hi : i < ss.length := (List.getElem?_eq_some_iff.mp hx).1
    have hsl : i < σ.length := by rw [R.len]; exact hi
    obtain ⟨p, kvs, e1, e2, e3, ek, e4⟩ := R.slots i _ _ hx (List.getElem?_eq_getElem hsl)
    have hσ : σ[i]? = some (some (.ref p)) := by rw [List.getElem?_eq_getElem hsl, e1]
    refine ⟨.ref p, hσ, q p kvs F H R.back ⟨?_, R.own i _ p hx rfl hσ, e2, e3, ek, e4⟩⟩
    cases z : B.1 p with
    | none => rfl
    | some u => rw [R.bF _ _ z] at e2; cases e2
def spT (T : List (Addr × Str)) (K : PySem.W.Frag) (n : Nat) (pre : List D → List (List Key) → List D → Prop) : Sp := fun vs H Q _ => ∃ F ds ks xs, Ext F H ∧ (∀ p ps, F p ≠ some (.tbl ps)) ∧ LamX.Tabs T H ∧ IsL K F ds vs ∧ ds.length = n ∧ pre ds ks xs ∧ ∀ p kvs F1 H1, Nx T F H F1 H1 → NewT K F H F1 H1 ks xs p kvs → Q (.ref p) H1
def FDT (T : List (Addr × Str)) (P : Program) (w : World) (K : PySem.W.Frag) (mg : Str → Option Value) (base : Heap) (x : Str) (n k : Nat) (pre : List D → List (List Key) → List D → Prop) : Prop :=
  ∃ f fd ps, mg x = some (.ref f) ∧ PySem.W.keepIn K (.ref f) = true ∧ Binds K fd ps [] ∧ ps.length = n ∧ FnOk P w K mg base CX0 k f fd ps (spT T K n pre)
theorem fdt_ok {P : Program} {w : World} {K : PySem.W.Frag} {mg : Str → Option Value} {base : Heap} {x qual : Str} {st : Stmt} {f : Addr} {fd : FuncData} {N ps : List Str} {k n : Nat} {pre : List D → List (List Key) → List D → Prop} (F : Fun K x qual st f fd) (S : FnScope N ps (defScope st)) (hn : ps.length = n)
    (h : ∀ (cdv : Value) (A : Around) (outer : List Env) (s : Shared) (H : Hp) (E : XK) (ds : List D) (ks : List (List Key)) (xs : List D), Room k (A.deeper (envOfC qual (defScope st) s.heap.objs.size f cdv)) → ds.length = n → pre ds ks xs →
      RT T (bodyX CX0 P w K mg base N qual st f cdv A outer s H E) (defBody st) (startS N ds) ks xs) : FnOk P w K mg base CX0 (k + 1) f fd ps (spT T K n pre) := by
  refine F.ok S (fun vs H Q E ⟨F, ds, _, _, _, _, _, i, l, _⟩ => by rw [i.length, l, hn]) (fun cdv A outer s H vs Q E hr hsp => ?_)
  obtain ⟨F0, ds, ks, xs, x, nt, tb, i, l, p, q⟩ := hsp
  exact ⟨_, h cdv A outer s H E ds ks xs hr l p, (F0, H), F0, start_str x nt tb i, rfl, x, fun p us F1 H1 n1 nd => q p us F1 H1 n1 nd⟩
theorem evt_call {pre : List D → List (List Key) → List D → Prop} (G : FDT T X.prog X.w X.K X.mg X.base x n k pre) (hr : Room k X.A) (ha : EVs T X (e :: es) ss ds) (hp : pre ds ks xs) (hn : ds.length = n := by rfl) (hg : Gl X x := by rfl) (hdb : (x == ("__debug__" : Str)) = false := by decide)
    (hst : starEach (e :: es) X.env = (false, eval e X.env) :: starEach es X.env := by rfl) (hpl : (backTo pos (starEach es X.env)).any (·.1) = false := by rfl) : EVT T X (.Call (.Name x p) (e :: es) [] pos) ss ks xs := by
  obtain ⟨f, fd, ps, h1, h2, h3, h4, h5⟩ := G
  refine ⟨_, pe_call h5 hr hg h1 h2 h3 .nil (pass0 (X := X)) ha hdb hst hpl, fun B F H σ Q R q => evs_go R fun vs F1 H1 n1 R1 i1 => ?_⟩
  rw [List.append_nil]
  refine ⟨F1, ds, ks, xs, R1.sub, R1.nt, R1.tb, i1, hn, hp, fun p kvs F2 H2 n2 nd => q p kvs F2 H2 (n1.trans n2) (R1.grow n2) ⟨?_, n1.h.fr nd.fr, nd.no, nd.is, nd.ks, nd.dt⟩⟩
  cases z : F p with
  | none => rfl
  | some u => have := nd.f0; rw [n1.f _ _ z] at this; cases this
/-- x = f(..): one's own -/
theorem sv_setT (i : Nat) {px : Pos} (he : EVT T X e ss ks xs) (kk : P.nx (ss.set i (.dicT ks xs))) (hN : X.N.Nodup) (hi : X.N[i]? = some x := by rfl) (hx : Loc X.env.scope x := by first | exact Or.inl rfl | exact Or.inr rfl)
    (hs : swapsWith e (some (.Name x px)) pos.line X.env = pure false := by rfl) (hf : X.fn x = true ∨ X.env.scope.names.lookup x = some .local := by first | exact .inl rfl | exact .inr rfl | assumption) : SV T X (.Assign [.Name x px] e pos) ss P := by
  obtain ⟨te, hp, hk⟩ := he
  refine SV.of (ps_set hN hi hx hp hs hf) fun B F H σ Dn R g => hk B F H σ _ R fun p kvs F1 H1 n1 R1 nd => ?_
  refine g.nx _ _ F1 H1 kk (R1.putOwn rfl ⟨p, kvs, rfl, nd.no, nd.is, nd.ks, nd.dt⟩ (R.base_fr nd.fr) fun l t' _ e1 e2 z => ?_)
  obtain ⟨p', w1, w2, w3⟩ := R.mine_at e1 e2
  rw [z] at w1
  cases w1
  cases hH : H p with
  | none => exact w3 hH
  | some o' =>
    obtain ⟨ps, rfl⟩ := nd.fr o' hH
    exact R.plain e1 e2 z _ hH (.inl ⟨ps, rfl⟩)
end
end Fd

set_option Elab.async false
set_option linter.all false
set_option maxRecDepth 100000
set_option maxHeartbeats 4000000
/-! DiE: d == e, two locked dicts whose keys are tuples, the same keys, the values equal by their own ==. -/
namespace DiE
open PySem PySem.Spec PyProof.Rows L2
section
variable {prog : Program} {w : World} {A : Around} {E : Value → Shared → Prop} {s : Shared}
theorem pairs_true {nm : String} {a b : Addr} {oa ob : Obj} {es fs : Array DictEntry} {ep fp : Nat} {Q : Bool → Shared → Prop} (na : (a == sysModules) = false) (nb : (b == sysModules) = false) (da : oa.data = .dict es ep) (db : ob.data = .dict fs fp) (sz : es.size = fs.size)
    (I : Nat → Shared → Prop) (there : ∀ i s, I i s → s.heap.get? a = some oa ∧ s.heap.get? b = some ob) (h0 : I 0 s)
    (turn : ∀ i (hi : i < es.size) s, I i s → ∃ j, ∃ hj : j < fs.size, (∀ (Q : Option Nat → Shared → Prop) (E : Value → Shared → Prop), Q (some j) s → wpAny (model prog w) A (dictFind b es[i].key es[i].hash) Q E s) ∧ wpAny (model prog w) A (eqBool es[i].val fs[j].val) (fun r s' => r = true ∧ I (i + 1) s') E s)
    (fin : ∀ s, I es.size s → Q true s) : wpAny (model prog w) A (Builtin.Dict.samePairs nm a b) Q E s := by
  obtain ⟨ga, gb⟩ := there 0 s h0
  unfold Builtin.Dict.samePairs Builtin.Dict.showsAll
  simp only [na, nb, Bool.false_eq_true, if_false]
  refine wpAny_bind (wpAny_pure (wpAny_bind (wpAny_pure (wpAny_bind (wpAny_dictEntries ga da ?_)))))
  refine wpAny_bind (wpAny_dictEntries gb db ?_)
  rw [if_neg (by simp [sz])]
  refine wpAny_bind (wpAny_dictEpoch ga da (wpAny_bind ?_))
  rw [Std.Legacy.Range.forIn_eq_forIn_range']
  simp only [Std.Legacy.Range.size, Nat.sub_zero, Nat.add_sub_cancel, Nat.div_one]
  refine wpAny_forIn_list _ (fun rest q s' => q = (none, ()) ∧ ∃ i, rest = List.range' i (es.size - i) ∧ i ≤ es.size ∧ I i s') _ (fun x rest q s' ⟨eq, i, er, le, hI⟩ => ?_) (fun q s' ⟨eq, i, er, le, hI⟩ => ?_) _ _ ⟨rfl, 0, by simp, Nat.zero_le _, h0⟩
  · subst eq
    have lt : i < es.size := by
      rcases Nat.lt_or_ge i es.size with z | z
      · exact z
      · rw [Nat.sub_eq_zero_of_le z] at er; simp at er
    have e1 : es.size - i = (es.size - (i + 1)) + 1 := by omega
    rw [e1, List.range'_succ] at er
    obtain ⟨ex, er⟩ := List.cons.inj er
    subst ex
    obtain ⟨g1, g2⟩ := there x s' hI
    obtain ⟨j, hj, look, eqs⟩ := turn x lt s' hI
    refine wpAny_bind (wpAny_dictEntries g1 da ?_)
    rw [Array.getElem?_eq_getElem lt]
    refine wpAny_bind (wpAny_holding (wpAny_bind (look _ _ ?_)))
    refine wpAny_bind (wpAny_dictEntries g2 db ?_)
    rw [Array.getElem?_eq_getElem hj]
    refine wpAny_holding (wpAny_mono eqs (fun r s2 ⟨er, hI2⟩ => ?_) fun _ _ z => z)
    subst er
    obtain ⟨g3, _⟩ := there _ s2 hI2
    show wpAny _ _ (if (!true) = true then _ else _) _ _ s2
    rw [if_neg (by decide)]
    refine wpAny_bind (wpAny_dictEpoch g3 da ?_)
    rw [if_neg (by simp)]
    exact wpAny_pure ⟨rfl, x + 1, er, lt, hI2⟩
  · subst eq
    have e1 : i = es.size := by
      rcases Nat.lt_or_ge i es.size with z | z
      · have e1 : es.size - i = (es.size - (i + 1)) + 1 := by omega
        rw [e1, List.range'_succ] at er; exact nomatch er
      · omega
    subst e1
    exact wpAny_pure (fin s' hI)
theorem rc_true {a b : Addr} {oa ob : Obj} {es fs : Array DictEntry} {ep fp : Nat} {Q : Value → Shared → Prop} (hu : A.units < cLine) (na : (a == sysModules) = false) (nb : (b == sysModules) = false) (xa : oa.ExactDict) (xb : ob.ExactDict) (da : oa.data = .dict es ep) (db : ob.data = .dict fs fp) (sz : es.size = fs.size)
    (I : Nat → Shared → Prop) (there : ∀ i s, I i s → s.heap.get? a = some oa ∧ s.heap.get? b = some ob) (h0 : I 0 s)
    (turn : ∀ i (hi : i < es.size) s, I i s → ∃ j, ∃ hj : j < fs.size, (∀ (Q : Option Nat → Shared → Prop) (E : Value → Shared → Prop), Q (some j) s → wpAny (model prog w) A.in1 (dictFind b es[i].key es[i].hash) Q E s) ∧ wpAny (model prog w) A.in1 (eqBool es[i].val fs[j].val) (fun r s' => r = true ∧ I (i + 1) s') E s)
    (fin : ∀ s, I es.size s → Q (.bool true) s) : wpAny (model prog w) A (richCompare .Eq (.ref a) (.ref b)) Q E s := by
  obtain ⟨ga, gb⟩ := there 0 s h0
  have ta : s.TypeIs (.ref a) "dict" := ⟨oa, ga, xa.1⟩
  have tb : s.TypeIs (.ref b) "dict" := ⟨ob, gb, xb.1⟩
  refine wpAny_richCompare_same_room (op := .Eq) ta tb PySem.F.slot_dict_eq (wpAny_call_entry PySem.F.slot_dict_eq ta PySem.F.entry_dict_eq ?_ (PySem.F.args_dict_eq_2 _ _)) hu
  show wpAny _ _ (Builtin.Dict.dictSlotArgs "__eq__" ⟨[.ref a, .ref b], []⟩ >>= _) _ _ s
  unfold Builtin.Dict.dictSlotArgs
  refine wpAny_bind (wpAny_bind (wpAny_notOrdered_dict ta (wpAny_pure ?_)))
  refine wpAny_bind (wpAny_isInstance (T := "dict") tb PySem.F.sub_dict_dict ?_)
  simp only [Bool.not_true, Bool.false_eq_true, if_false]
  refine wpAny_bind (wpAny_pure (wpAny_bind (wpAny_pure (wpAny_bind (pairs_true na nb da db sz I there h0 turn fun s' hI => ?_)))))
  exact wpAny_pure ⟨_, rfl, fun z => (nomatch z), fin s' hI⟩
end
end DiE

set_option Elab.async false
set_option linter.all false
set_option maxRecDepth 100000
set_option maxHeartbeats 4000000
/-! Fd43: d == e of two locked dicts with tuple keys that hold the same data, whole numbers and things with their own ==. -/
namespace Fd
open PySem PySem.Spec PyProof.Rows L2
section
variable {T : List (Addr × Str)} {X : Cx} {pins : List (Addr × Obj)} {σ : L2.St} {H : Hp} {s : Shared}
/-- a locked dict in the heap: its entries, by its keys and values -/
theorem lockT {d : Addr} {o : Obj} {kvs : List (List Key × V)} {es : Array DictEntry} {ep : Nat} (J : Inv X pins σ H s) (h : H d = some (.frz o (.dT kvs))) (hod : o.data = .dict es ep) :
    ∃ xs : List (List Key × Addr × Value), s.heap.get? d = some o ∧ es.toList = xs.map (entryOfKey (tupleKind (mixKind X.prog X.w))) ∧ (∀ x ∈ xs, (tupleKind (mixKind X.prog X.w)).is s.heap x.1 x.2.1) ∧ (xs.map (·.1)).Nodup ∧ xs.length = kvs.length ∧
      ∀ (i : Nat) (k : List Key) (v : V), kvs[i]? = some (k, v) → ∃ x, xs[i]? = some x ∧ x.1 = k ∧ RelV v x.2.2 := by
  obtain ⟨hd, _, ns, xs, pr, o', es', ep', ho, hx, hdt, he, his⟩ := J.hok d _ h
  cases hd.symm.trans ho
  rw [hod] at hdt
  cases hdt
  refine ⟨xs, hd, he, fun x m => key_of J.hok ((DiC.keyed J.hok pr).1 x m), his, (Paired.length pr).symm, fun i k v hk => ?_⟩
  obtain ⟨b, hb, e1, e2, e3⟩ := paired_get pr hk
  exact ⟨b, hb, e1.symm, e3⟩
/-- z is a whole number, or a thing whose own == finds it equal to its like -/
def EqSelf (K : PySem.W.Frag) (C : Addr) (pre : List D → D → Prop) (z : D) : Prop := (∃ j, z = .int j) ∨ ∃ ns zs, z = .ins C ns zs ∧ pre [z, z] (.bl true)
theorem opD_eqT {C f : Addr} {k n : Nat} {pre : List D → D → Prop} (M : EqM T X.prog X.w X.K X.mg X.base C k pre f) (hn : PySem.W.notFirst X.K C (.ref C) = true) (hr : Room (k + 1) X.A) :
    OpD T X (compareOp .Eq) (fun x y d => ∃ ks xs, x = .dcT ks xs ∧ y = .dcT ks xs ∧ d = .bl true ∧ ∀ z ∈ xs, EqSelf X.K C pre z) := by
  intro pins s σ H x y v u Q I rx ry ⟨F, dx, dy, d, e, nt, tb, i1, i2, ⟨ks, xs, h1, h2, h3, hz⟩, q⟩
  subst h1; subst h2; subst h3
  obtain ⟨a, oa, kvs, rfl, a1, a2, a3⟩ := i1
  obtain ⟨b, ob, kvt, rfl, b1, b2, b3⟩ := i2
  cases (show v = Value.ref a from rx)
  cases (show u = Value.ref b from ry)
  obtain ⟨nsa, ga, xa, es, ep, da, sa, _⟩ := I.frzT (e _ _ a1)
  obtain ⟨nsb, gb, xb, fs, fp, db, sb, _⟩ := I.frzT (e _ _ b1)
  have la : kvs.length = ks.length := by rw [← a2, List.length_map]
  have lb : kvt.length = ks.length := by rw [← b2, List.length_map]
  show wpAny _ _ (richCompare .Eq (.ref a) (.ref b)) _ _ s
  refine DiE.rc_true hr.units0 nsa nsb xa xb da db (by omega) (fun _ s' => ∃ F' H', Inv X pins σ H' s' ∧ Nx T F H F' H') (fun i s' ⟨F', H', J, m⟩ => ?_) ⟨F, H, I, Nx.refl e⟩ (fun i hi s' ⟨F', H', J, m⟩ => ?_) (fun s' ⟨F', H', J, m⟩ => ⟨.bl true, H', J, rfl, q _ F' H' m rfl⟩)
  · exact ⟨(J.frzT (m.h.k _ _ (e _ _ a1) fun _ z => nomatch z)).2.1, (J.frzT (m.h.k _ _ (e _ _ b1) fun _ z => nomatch z)).2.1⟩
  · obtain ⟨xsA, _, eA, iA, nA, lA, hA⟩ := lockT J (m.h.k _ _ (e _ _ a1) fun _ z => nomatch z) da
    obtain ⟨xsB, gB, eB, iB, nB, lB, hB⟩ := lockT J (m.h.k _ _ (e _ _ b1) fun _ z => nomatch z) db
    have hik : i < ks.length := by omega
    obtain ⟨yA, ka⟩ : ∃ y, kvs[i]? = some y := ⟨_, List.getElem?_eq_getElem (by omega)⟩
    obtain ⟨yB, kb⟩ : ∃ y, kvt[i]? = some y := ⟨_, List.getElem?_eq_getElem (by omega)⟩
    have same : yA.1 = yB.1 := by
      have w1 : (kvs.map (·.1))[i]? = some yA.1 := by rw [List.getElem?_map, ka]; rfl
      have w2 : (kvt.map (·.1))[i]? = some yB.1 := by rw [List.getElem?_map, kb]; rfl
      rw [a2] at w1; rw [b2] at w2
      exact Option.some.inj (w1.symm.trans w2)
    obtain ⟨p, hp, p1, p2⟩ := hA i _ _ ka
    obtain ⟨r, hr', r1, r2⟩ := hB i _ _ kb
    have hif : i < fs.size := by omega
    have ea : es[i] = entryOfKey (tupleKind (mixKind X.prog X.w)) p := by
      have := entry_at eA i
      rw [hp, Array.getElem?_eq_getElem hi] at this
      exact Option.some.inj this
    have eb : fs[i] = entryOfKey (tupleKind (mixKind X.prog X.w)) r := by
      have := entry_at eB i
      rw [hr', Array.getElem?_eq_getElem hif] at this
      exact Option.some.inj this
    have kk : r.1 = p.1 := by rw [r1, p1, same]
    refine ⟨i, hif, fun Q' E' q' => ?_, ?_⟩
    · rw [ea]
      refine wpAny_dictFind_heap (k := p.1) (show X.A.in1.units < cLine from hr.in1.units0) (iA p (List.mem_of_getElem? hp)) gB db eB iB nB (fun z => absurd ?_ (z i r.2)) (fun j pr hj => ?_)
      · rw [hr', ← kk]
      · have w1 : (xsB.map (·.1))[j]? = some p.1 := by rw [List.getElem?_map, hj]; rfl
        have w2 : (xsB.map (·.1))[i]? = some p.1 := by rw [List.getElem?_map, hr', ← kk]; rfl
        have hj' : j < (xsB.map (·.1)).length := (List.getElem?_eq_some_iff.mp w1).1
        have : j = i := (List.getElem?_inj hj' nB).mp (w1.trans w2.symm)
        rw [this]; exact q'
    · obtain ⟨z, hz1, iz⟩ := IsL.get a3 (i := i) (v := yA.2) (by rw [List.getElem?_map, ka]; rfl)
      obtain ⟨z', hz2, iz'⟩ := IsL.get b3 (i := i) (v := yB.2) (by rw [List.getElem?_map, kb]; rfl)
      rw [hz1] at hz2
      cases hz2
      rw [ea, eb]
      show wpAny _ _ (eqBool p.2.2 r.2.2) _ _ s'
      rcases hz z (List.mem_of_getElem? hz1) with ⟨j, rfl⟩ | ⟨nm, zs, rfl, pz⟩
      · rw [show yA.2 = V.int j from iz] at p2
        rw [show yB.2 = V.int j from iz'] at r2
        exact eqAt_same (x := .int j) rfl p2 r2 X.prog X.w _ _ ⟨rfl, F', H', J, m⟩
      · have iz1 := Is.mono m.f _ iz
        have iz2 := Is.mono m.f _ iz'
        obtain ⟨c1, w1, w2, ev1, _⟩ := id iz1
        obtain ⟨c2, w3, w4, ev2, _⟩ := id iz2
        rw [ev1] at p2 iz1
        rw [ev2] at r2 iz2
        rw [show p.2.2 = Value.ref c1 from p2, show r.2.2 = Value.ref c2 from r2]
        by_cases hc : c1 = c2
        · subst hc
          exact SeqAt.EqAt.same _ X.prog X.w _ _ ⟨rfl, F', H', J, m⟩
        · refine GQ.eqBool_refG hc ?_
          have hop := eq_own (X := Cx.in1 X) (T := T) M hr.in1
          refine wpAny_mono (hop pins s' σ H' (.ref c1) (.ref c2) (.ref c1) (.ref c2) (fun v H2 => v = .bl true ∧ ∃ F2, Nx T F H F2 H2) (Inv.in1 J) rfl rfl ⟨F', _, _, .bl true, m.s, fun p ps z => nt p ps (m.nt p ps z), m.h.t tb, iz1, iz2, ⟨nm, zs, .ref C, true, rfl, rfl, hn, rfl, pz⟩, fun v F2 H2 n2 iv => ⟨iv, F2, m.trans n2⟩⟩) (fun v s2 h => ?_) fun _ _ z => z
          obtain ⟨v', H2, J2, rv, ⟨rfl, F2, n2⟩⟩ := h
          cases rv
          exact ⟨true, rfl, rfl, F2, H2, Inv.out1 J2, n2⟩
end
end Fd

set_option Elab.async false
set_option linter.all false
set_option maxRecDepth 100000
set_option maxHeartbeats 4000000
/-! TuM: (x,) * 0 and (x,) * 1. -/
namespace TuM
open PySem PySem.Spec PyProof.Rows L2
theorem mul1 (l : Addr) (us : Array Value) (n : Nat) (dd : Option Addr) (sl : Array (Option Value)) (t : Tok) : Meets (Builtin.«tuple.__mul__» ⟨[.ref l, .int 1 t], []⟩) (fun _ R s => s.heap.get? l = some { cls := .type "tuple", dict := dd, data := .seq us n, slots := sl } ∧ R (.ok (.ret (.ref l))) s) :=
  .of_wp fun prog w A R s h => by
    obtain ⟨hp, g, d, tk, os⟩ := s; obtain ⟨hl, h⟩ := h; have f1 := AutoSeq1.idx_int
    wp_walk using wpAny_loadPart' hl
    exact ⟨_, rfl, h⟩
theorem mul0 (l : Addr) (v : Value) (n : Nat) (dd : Option Addr) (sl : Array (Option Value)) (t : Tok) : Meets (Builtin.«tuple.__mul__» ⟨[.ref l, .int 0 t], []⟩) (fun _ R s => s.heap.get? l = some { cls := .type "tuple", dict := dd, data := .seq #[v] n, slots := sl } ∧
      R (.ok (.ret (Value.ref s.heap.objs.size))) { s with heap := s.heap.push { cls := Value.type "tuple", data := Data.seq #[] }, toks := s.toks }) :=
  .of_wp fun prog w A R s h => by
    obtain ⟨hp, g, d, tk, os⟩ := s; obtain ⟨hl, h⟩ := h; have f1 := AutoSeq1.idx_int
    wp_walk using wpAny_loadPart' hl
    exact ⟨_, rfl, h⟩
theorem op_few {X : Cx} : OpR X (binaryOp .Mult) (fun x y H Q => ∃ a v k, x = .ref a ∧ y = .int k ∧ SqT X.K H a [v] ∧ ((k = 1 ∧ Q (.ref a) H) ∨ (k = 0 ∧ ∀ p, H p = none → Q (.ref p) (upd H p (.tup []))))) := by
  intro pins s σ H x y u1 u2 Q I rx ry ⟨a, v, k, ex, ey, hT, h⟩
  subst ex ey
  cases (show u1 = Value.ref a from rx)
  obtain ⟨t, rfl⟩ := ry
  obtain ⟨its, r, ⟨⟨cls, dd, data, sl⟩, ho, hc, n, hd⟩, hs⟩ := I.tuple hT
  simp only at hc hd
  subst hc hd
  obtain ⟨u, rfl⟩ : ∃ u, its = [u] := by
    have := r.length
    match its, this with
    | [u], _ => exact ⟨u, rfl⟩
  rcases h with ⟨rfl, q⟩ | ⟨rfl, q⟩
  · exact wpAny_binaryOp_repeat_ref (T := "tuple") (U := "int") (by decide) ⟨_, ho, rfl⟩ (fun s' => typeIs_int s' 1 t) noFill_tuple_mul F.fills_int_mul F.slot_int_rmul repeat_tuple F.slot_int_index.lookup
      (call_meets F.slot_int_rmul (typeIs_int s 1 t) F.entry_int_rmul (F.args_int_rmul_2 _ _) (int_rmul_tuple 1 t a _ n dd sl) ⟨ho, rfl, ⟨_, ho, rfl⟩, call_meets F.slot_tuple_mul ⟨_, ho, rfl⟩ F.entry_tuple_mul (F.args_tuple_mul_2 _ _) (mul1 a _ n dd sl t) ⟨ho, .ref a, H, I, rfl, q⟩⟩)
  · refine wpAny_binaryOp_repeat_ref (T := "tuple") (U := "int") (by decide) ⟨_, ho, rfl⟩ (fun s' => typeIs_int s' 0 t) noFill_tuple_mul F.fills_int_mul F.slot_int_rmul repeat_tuple F.slot_int_index.lookup
      (call_meets F.slot_int_rmul (typeIs_int s 0 t) F.entry_int_rmul (F.args_int_rmul_2 _ _) (int_rmul_tuple 0 t a _ n dd sl) ⟨ho, rfl, ⟨_, ho, rfl⟩, call_meets F.slot_tuple_mul ⟨_, ho, rfl⟩ F.entry_tuple_mul (F.args_tuple_mul_2 _ _) (mul0 a u n dd sl t) ⟨ho, ?_⟩⟩)
    exact ⟨.ref s.heap.objs.size, _, I.laid (t' := s.toks) (o := .tup []) (fun b ob q => Heap.get?_push_of_some _ q) (Nat.le_refl _) ⟨by show 0 ≤ sizeLine; exact Nat.zero_le _, [], .nil, IsTup.new _ _⟩, rfl, q _ (I.hok.fresh (Nat.le_refl _))⟩
end TuM

set_option Elab.async false
set_option linter.all false
set_option maxRecDepth 100000
set_option maxHeartbeats 4000000
/-! ZiM: zip of a list and a tuple. -/
namespace ZiM
open PySem PySem.Spec PyProof.Rows L2 RZ
theorem drawTup {P : Program} {w : World} {A : Around} (hh : A.handled = none) {it l : Addr} (ne : l ≠ it) {us : Array Value} : Draws P w A it [it, l] us.size (fun k v => us[k]? = some v) (fun k h => h.IsTupleIter it l k ∧ h.IsTuple l us) where
  live := fun _ _ s => ⟨_, s.1.choose_spec.1⟩
  frame := fun _ _ _ s k => ⟨s.1.at fun o e => k it (List.mem_cons_self) o e, let ⟨o, e, r⟩ := s.2; ⟨o, k l (by simp) o e, r⟩⟩
  item := fun k s Q E lt st q => nextOf_tuple_item st.1 st.2 (Array.getElem?_eq_getElem lt) fun h' i' sb => q _ h' s.toks (Array.getElem?_eq_getElem lt) ⟨i', st.2.extBut sb.extBut ne⟩ sb
  done := fun s Q E st q => nextOf_tuple_end hh st.1 st.2 (by simp) q
/-- the list at a, the tuple at b -/
def Itm (K : PySem.W.Frag) (a b : Addr) : It where
  go := fun i H => ∃ xs ys x y, SqL K H a xs ∧ SqT K H b ys ∧ xs[i]? = some x ∧ ys[i]? = some y
  yld := fun i H v H' => ∃ T x y, v = .ref T ∧ H T = none ∧ H' = upd H T (.tup [x, y]) ∧ (∀ xs, SqL K H a xs → xs[i]? = some x) ∧ ∀ ys, SqT K H b ys → ys[i]? = some y
  stop := fun i H => ∃ xs ys : List V, SqL K H a xs ∧ SqT K H b ys ∧ i ≤ xs.length ∧ i ≤ ys.length ∧ (i = xs.length ∨ i = ys.length)
def StM (z t u i j a b : Addr) (k : Nat) (h : Heap) : Prop := IsZip h z t u .none ∧ IsPair h t (.ref i) (.ref j) ∧ (∃ x y, IsPair h u x y) ∧ h.IsListIter i a k ∧ h.IsTupleIter j b k
theorem sep {z t u i j a b : Addr} (D : ZipApart z t u i j a b) : ZipSep2 z t u i j [i, a] [j, b] :=
  ⟨D.TIz, D.TOz, D.TITO, D.TIi1, by simp, by simp [D.i1z.symm, D.l1z.symm], by simp [D.TOi1, D.l1TO.symm], D.TIi2, by simp, by simp [D.i2z.symm, D.l2z.symm], by simp [D.TOi2, D.l2TO.symm], by simp [D.i12, D.l2i1.symm], by simp [D.i12.symm, D.l1i2.symm]⟩
theorem five {c z t u i j : Addr} {p : Addr → Prop} (m : c ∈ [z, t, u, i, j]) (h1 : p z) (h2 : p t) (h3 : p u) (h4 : p i) (h5 : p j) : p c := by
  simp only [List.mem_cons, List.not_mem_nil, or_false] at m
  rcases m with e | e | e | e | e <;> subst e <;> assumption
theorem turnM {P : Program} {w : World} {K : PySem.W.Frag} {elts : List Expr} {kk : Nat} {tpos : Pos} {a b z t u i j : Addr} (D : ZipApart z t u i j a b) : Turn P w K (.Tuple elts kk tpos) (Itm K a b) [z, t, u, i, j] z (StM z t u i j a b) where
  mem := List.mem_cons_self
  obj := fun k h ⟨hz, ht, ⟨x, y, hu⟩, ⟨o1, e1, _, d1⟩, ⟨o2, e2, _, d2⟩⟩ c m => five (p := fun c => ∃ o, h.get? c = some o ∧ ∀ v, o.data ≠ .cell v) m ⟨_, hz, fun _ q => nomatch q⟩ ⟨_, ht, fun _ q => nomatch q⟩ ⟨_, hu, fun _ q => nomatch q⟩ ⟨o1, e1, fun v q => by rw [d1] at q; exact nomatch q⟩ ⟨o2, e2, fun v q => by rw [d2] at q; exact nomatch q⟩
  keep := fun k h h' ⟨hz, ht, ⟨x, y, hu⟩, h1, h2⟩ kp => ⟨kp z (by simp) _ hz, kp t (by simp) _ ht, ⟨x, y, kp u (by simp) _ hu⟩, h1.at fun o q => kp i (by simp) o q, h2.at fun o q => kp j (by simp) o q⟩
  item := by
    intro X eP ew eK hc k pins s σ H E I hf st hg
    subst eP ew eK
    obtain ⟨hz, ht, ⟨x0, y0, hu⟩, h1, h2⟩ := st
    obtain ⟨xs, ys, x, y, qx, qy, hx, hy⟩ := hg
    obtain ⟨its, rv, p, _⟩ := I.list qx
    obtain ⟨its2, rv2, p2, _⟩ := I.tuple qy
    obtain ⟨v1, g1, r1⟩ := rv.get hx
    obtain ⟨v2, g2, r2⟩ := rv2.get hy
    have zl : z < s.heap.objs.size := Heap.lt_size hz
    have l1 : k < its.toArray.size := by rw [List.size_toArray]; exact (List.getElem?_eq_some_iff.mp g1).1
    have l2 : k < its2.toArray.size := by rw [List.size_toArray]; exact (List.getElem?_eq_some_iff.mp g2).1
    have hd : X.A.in1.handled = none := I.ok.hd hc
    refine wpAny_pyNext_zipD2_item (sep D) (Draws.list hd i a D.l1i1 its.toArray) (drawTup hd D.l2i2 (us := its2.toArray)) hz ht hu ⟨h1, p.isList⟩ ⟨h2, p2⟩ l1 l2 fun w1 w2 h' tk y1 y2 z' u' s1 s2 hT _ hk => ?_
    have ew1 : w1 = v1 := by have := y1; simp [g1] at this; exact this.symm
    have ew2 : w2 = v2 := by have := y2; simp [g2] at this; exact this.symm
    subst ew1 ew2
    refine ⟨_, rfl, wpAny_letOwnedTupleGo_zip (s := { s with heap := h', toks := tk }) z' fun h'' z'' sb => ?_⟩
    have hT2 := (sb.2 _ (Nat.ne_of_gt zl)).trans hT
    have new : ObjOk X.prog X.w (upd H s.heap.objs.size (.tup [x, y])) h'' s.heap.objs.size (.tup [x, y]) := ⟨by show 2 ≤ sizeLine; decide, [w1, w2], .cons r1 (.cons r2 .nil), ⟨_, hT2, rfl, _, rfl⟩⟩
    have I1 := I.turnedNew (t' := tk) (ch := [z, t, u, i, j]) (fun c o hb q => (sb.2 c (fun e => hb (by simp [e]))).trans (hk c o (fun e => hb (by simp [e])) (fun e => hb (by simp [e])) (fun e => hb (by simp [e])) (fun e => hb (by simp [e])) q)) hf (Nat.le_refl _) new
    have fr := I.hok.fresh (Nat.le_refl s.heap.objs.size)
    refine ⟨.ref s.heap.objs.size, _, I1, rfl, ⟨_, x, y, rfl, fr, rfl, fun l hl => by rw [I.list_inj hl qx]; exact hx, fun l hl => by rw [I.tuple_inj hl qy]; exact hy⟩, ⟨z'', ?_, ⟨w1, w2, ?_⟩, s1.1.at fun o q => (sb.2 _ D.i1z).trans q, s2.1.at fun o q => (sb.2 _ D.i2z).trans q⟩, fun c m => ?_⟩
    · exact (sb.2 _ D.TIz).trans (hk _ _ D.TIz D.TITO D.TIi1 D.TIi2 ht)
    · exact (sb.2 _ D.TOz).trans u'
    · have lt : c < s.heap.objs.size := five (p := fun c => c < s.heap.objs.size) m zl (Heap.lt_size ht) (Heap.lt_size hu) (Heap.lt_size h1.choose_spec.1) (Heap.lt_size h2.choose_spec.1)
      rw [upd_ne (Nat.ne_of_lt lt)]
      exact (hf c m).1
  done := by
    intro X eP ew eK hc k pins s σ H E I hf st hg
    subst eP ew eK
    obtain ⟨hz, ht, ⟨x0, y0, hu⟩, h1, h2⟩ := st
    obtain ⟨xs, ys, qx, qy, le1, le2, hend⟩ := hg
    obtain ⟨its, rv, p, _⟩ := I.list qx
    obtain ⟨its2, rv2, p2, _⟩ := I.tuple qy
    have l1 : its.toArray.size = xs.length := by rw [List.size_toArray]; exact rv.length.symm
    have l2 : its2.toArray.size = ys.length := by rw [List.size_toArray]; exact rv2.length.symm
    have hd : X.A.in1.handled = none := I.ok.hd hc
    exact wpAny_pyNext_zipD2_end (sep D) (Draws.list hd i a D.l1i1 its.toArray) (drawTup hd D.l2i2 (us := its2.toArray)) hz ht hu ⟨h1, p.isList⟩ ⟨h2, p2⟩ (by omega) (by omega) (by omega) fun h' tk hk => ⟨rfl, I.turnedL (t' := tk) (ch := [z, t, u, i, j])
      (fun c o hb q => hk c o (fun e => hb (by simp [e])) (fun e => hb (by simp [e])) (fun e => hb (by simp [e])) (fun e => hb (by simp [e])) q) hf⟩
  self := fun A k s Q E st q => wpAny_pyIter_zip st.1 q
/-! the call -/
def g1 (h : Heap) (l : Addr) : Heap := h.push { cls := .type "list_iterator", data := .fields #[.ref l, .int 0 0] }
def g2 (h : Heap) (l m : Addr) : Heap := (g1 h l).push { cls := .type "tuple_iterator", data := .fields #[.ref m, .int 0 0] }
def g3 (h : Heap) (l m : Addr) : Heap := (g2 h l m).push { cls := .type "tuple", data := .seq #[.ref h.objs.size, .ref (g1 h l).objs.size] }
def g4 (h : Heap) (l m : Addr) : Heap := (g3 h l m).push { cls := .type "tuple", data := .seq #[.none, .none] }
def g5 (h : Heap) (l m : Addr) : Heap := (g4 h l m).push { cls := .type "zip", data := .fields #[.none, .bool false, .bool false, .ref (g2 h l m).objs.size, .ref (g3 h l m).objs.size] }
theorem meets_new (l m : Addr) (xs ys : Array Value) : Meets (Builtin.«zip.__new__» ⟨[.type "zip", .ref l, .ref m], []⟩) (fun _ R s => s.heap.IsList l xs ∧ s.heap.IsTuple m ys ∧ R (.ok (.ret (.ref (g4 s.heap l m).objs.size))) { s with heap := g5 s.heap l m }) :=
  .of_wp fun prog w A R s h => by
    obtain ⟨hp, g, d, tk, os⟩ := s
    obtain ⟨a1, a2, h⟩ := h
    have hsub := sub_zip
    have b1 : Heap.IsList (Shared.heap ⟨hp, g, d, tk, os⟩) l xs := a1
    have b2 : Heap.IsTuple (Shared.heap ⟨hp.push { cls := .type "list_iterator", data := .fields #[.ref l, .int 0 0] }, g, d, tk, os⟩) m ys := Heap.IsTuple.push a2 _
    wp_walk using wpAny_pyIter_list b1, wpAny_pyIter_tuple b2
    exact ⟨_, rfl, h⟩
theorem callM {P : Program} {w : World} {A : Around} {E : Value → Shared → Prop} {s : Shared} {l m : Addr} {xs ys : Array Value} {Q : Value → Shared → Prop} (h1 : s.heap.IsList l xs) (h2 : s.heap.IsTuple m ys)
    (q : ∀ h', StM (s.heap.objs.size + 4) (s.heap.objs.size + 2) (s.heap.objs.size + 3) s.heap.objs.size (s.heap.objs.size + 1) l m 0 h' → (∀ c o, s.heap.get? c = some o → h'.get? c = some o) → Q (.ref (s.heap.objs.size + 4)) { s with heap := h' }) : wpAny (model P w) A (call (.type "zip") [.ref l, .ref m]) Q E s := by
  refine callType_new F.called_zip (by decide) (F.typeCall_zip_2 _ _) (F.newCall_zip_2 _ _) (fun obj => F.args_object_init_3 obj _ _) F.entry_zip_new (meets_new l m xs ys) ⟨h1, h2, ?_⟩
  have up : ∀ (h : Heap) (o : Obj) c u, h.get? c = some u → (h.push o).get? c = some u := fun h o c u e => Heap.get?_push_of_some _ e
  have e1 : (g1 s.heap l).objs.size = s.heap.objs.size + 1 := Heap.size_push ..
  have e2 : (g2 s.heap l m).objs.size = s.heap.objs.size + 2 := by unfold g2; rw [Heap.size_push, e1]
  have e3 : (g3 s.heap l m).objs.size = s.heap.objs.size + 3 := by unfold g3; rw [Heap.size_push, e2]
  have e4 : (g4 s.heap l m).objs.size = s.heap.objs.size + 4 := by unfold g4; rw [Heap.size_push, e3]
  have k5 : (g5 s.heap l m).get? (g4 s.heap l m).objs.size = some { cls := .type "zip", data := .fields #[.none, .bool false, .bool false, .ref (g2 s.heap l m).objs.size, .ref (g3 s.heap l m).objs.size] } := Heap.get?_push_size _ rfl
  have k4 : (g5 s.heap l m).get? (g3 s.heap l m).objs.size = some { cls := .type "tuple", data := .seq #[.none, .none] } := up _ _ _ _ (Heap.get?_push_size _ rfl)
  have k3 : (g5 s.heap l m).get? (g2 s.heap l m).objs.size = some { cls := .type "tuple", data := .seq #[.ref s.heap.objs.size, .ref (g1 s.heap l).objs.size] } := up _ _ _ _ (up _ _ _ _ (Heap.get?_push_size _ rfl))
  have k2 : (g5 s.heap l m).get? (g1 s.heap l).objs.size = some { cls := .type "tuple_iterator", data := .fields #[.ref m, .int 0 0] } := up _ _ _ _ (up _ _ _ _ (up _ _ _ _ (Heap.get?_push_size _ rfl)))
  have k1 : (g5 s.heap l m).get? s.heap.objs.size = some { cls := .type "list_iterator", data := .fields #[.ref l, .int 0 0] } := up _ _ _ _ (up _ _ _ _ (up _ _ _ _ (up _ _ _ _ (Heap.get?_push_size _ rfl))))
  rw [e2, e3, e4] at k5
  rw [e1, e2] at k3
  rw [e3] at k4
  rw [e1] at k2
  rw [e4]
  exact ⟨⟨_, k5, rfl⟩, q _ ⟨k5, k3, ⟨_, _, k4⟩, ⟨_, k1, rfl, rfl⟩, ⟨_, k2, rfl, rfl⟩⟩ fun c o e => up _ _ _ _ (up _ _ _ _ (up _ _ _ _ (up _ _ _ _ (up _ _ _ _ e))))⟩
def iZipM (K : PySem.W.Frag) (ta : TA) : TI := fun σ H R => ta σ H fun vs H1 => ∃ a b xs ys, vs = [.ref a, .ref b] ∧ SqL K H1 a xs ∧ SqT K H1 b ys ∧ R (Itm K a b) H1
theorem pi_zipM {X : Cx} {e f : Expr} {ta : TA} {p pos tpos : Pos} {elts : List Expr} {kk : Nat} (hg : Gl X "zip") (hm : X.mg "zip" = none) (ha : PA X [e, f] ta) (hs : starEach [e, f] X.env = (false, eval e X.env) :: starEach [f] X.env := by rfl) (hpl : (backTo pos (starEach [f] X.env)).any (·.1) = false := by rfl) : PI X (.Tuple elts kk tpos) (.Call (.Name "zip" p) [e, f] [] pos) (iZipM X.K ta) := by
  constructor
  intro pins s σ H R I h
  refine Call_ (ld_blt I hg hm PyProof.Rows.boot_zip (PyProof.Rows.callWith_type1 (thn (ha.run pos pins s σ H _ I h) fun us s1 ⟨vs, H1, J, r1, a, b, xs, ys, ex, qx, qy, q⟩ => ?_) hs hpl))
  subst ex
  rcases r1 with _ | ⟨r, rr⟩
  rcases rr with _ | ⟨r', rr⟩
  cases rr; cases r; cases r'
  obtain ⟨its, rv, p1, _⟩ := J.list qx
  obtain ⟨its2, rv2, p2, _⟩ := J.tuple qy
  refine callM p1.isList p2 fun h' st hk => wpAny_pyIter_zip st.1 ?_
  have lt2 : b < s1.heap.objs.size := Heap.lt_size p2.choose_spec.1
  have fr : ∀ n, FpOk X pins H1 (s1.heap.objs.size + n) := fun n => J.fpOk (Nat.le_add_right _ _) (J.hok.fresh (Nat.le_add_right _ _))
  exact ⟨s1.heap.objs.size + 4, _, _, _, H1, rfl, J.kept (t' := s1.toks) hk, turnM (PySem.W.ktu_apart s1.heap.objs.size a b p1.lt lt2), st, fun c m => five m (fr 4) (fr 2) (fr 3) (fr 0) (fr 1), q⟩
end ZiM

set_option Elab.async false
set_option linter.all false
set_option maxRecDepth 100000
set_option maxHeartbeats 4000000
/-! Nm: texts of numbers, as lists of signs: one reading by writing again, one by looking at the signs; they agree. -/
namespace Nm
open PySem.NumText
def Can (l : List Nat) : Prop := l = [48] ∨ ∃ c r, l = c :: r ∧ 49 ≤ c
abbrev val (l : List Nat) : Nat := digitsVal l
def nT (m : Nat) : List Nat := (Nat.toDigits 10 m).map Char.toNat
def iT (i : Int) : List Nat := if i < 0 then 45 :: nT i.natAbs else nT i.natAbs
theorem digC {c : Char} (h : c.isDigit = true) : 48 ≤ c.toNat ∧ c.toNat ≤ 57 := by
  simp only [Char.isDigit, Bool.and_eq_true, decide_eq_true_eq] at h
  exact ⟨h.1, h.2⟩
theorem ad_nT (m : Nat) : AllDigits (nT m) := fun c hc => by
  obtain ⟨ch, h1, h2⟩ := List.mem_map.mp hc
  have := digC (Nat.isDigit_of_mem_toDigits (by decide) (by decide) h1)
  rw [← h2]; exact this
theorem dv (m : Nat) : ∀ d : Nat, d < 10 → (Nat.digitChar d).toNat - 48 = d := by decide
theorem val_nT (m : Nat) : val (nT m) = m := by
  induction m using Nat.strongRecOn with
  | _ m ih =>
    by_cases h : m < 10
    · unfold nT
      rw [Nat.toDigits_of_lt_base h]
      have e := dv m m h
      show 0 * 10 + ((Nat.digitChar m).toNat - 48) = m
      omega
    · have hm : m % 10 < 10 := Nat.mod_lt m (by decide)
      have t := Nat.toDigits_append_toDigits (b := 10) (n := m / 10) (d := m % 10) (by decide) (by omega) hm
      rw [Nat.div_add_mod] at t
      unfold nT
      rw [← t, List.map_append, Nat.toDigits_of_lt_base hm]
      show digitsVal ((Nat.toDigits 10 (m / 10)).map Char.toNat ++ [(Nat.digitChar (m % 10)).toNat]) = m
      rw [digitsVal_snoc, dv m (m % 10) hm]
      have := ih (m / 10) (by omega)
      unfold nT val at this
      rw [this]; omega
theorem map_back : ∀ {l : List Nat}, AllDigits l → (l.map Char.ofNat).map Char.toNat = l
  | [], _ => rfl
  | c :: r, h => by
    have hc := h.head
    have e : (Char.ofNat c).toNat = c := by
      have : ∀ c : Nat, c < 58 → (Char.ofNat c).toNat = c := by decide
      exact this c (by omega)
    rw [List.map_cons, List.map_cons, e, map_back h.tail]
theorem nT_val {l : List Nat} (h : AllDigits l) (c : Can l) : nT (val l) = l := by
  have e : Nat.toDigits 10 (val l) = l.map Char.ofNat := by
    rcases c with rfl | ⟨c, r, rfl, hc⟩
    · decide
    · exact toDigits_digitsVal r.length (c :: r) rfl h (.inr ⟨c, r, rfl, hc⟩)
  unfold nT
  rw [e, map_back h]
theorem can_nT (m : Nat) : Can (nT m) := by
  have h := ad_nT m
  have e := toDigits_all (nT m) h
  have v : digitsVal (nT m) = m := val_nT m
  rw [v] at e
  have e2 : nT m = (match (nT m).dropWhile (· == 48) with
    | [] => ['0']
    | c :: r => (c :: r).map Char.ofNat).map Char.toNat := by
    conv => lhs; unfold nT
    rw [e]
    rfl
  cases q : (nT m).dropWhile (· == 48) with
  | nil =>
    rw [q] at e2
    exact .inl e2
  | cons c r =>
    rw [q] at e2
    have sub : ∀ d ∈ c :: r, 48 ≤ d ∧ d ≤ 57 := fun d hd => h d ((List.dropWhile_suffix _).mem (by rw [q]; exact hd))
    have eb := map_back (l := c :: r) sub
    have e3 : nT m = c :: r := e2.trans eb
    have hne : c ≠ 48 := by
      intro z
      have := List.head_dropWhile_not (p := (· == 48)) (l := nT m) (by rw [q]; exact List.cons_ne_nil _ _)
      simp only [q, List.head_cons, z] at this
      exact absurd this (by decide)
    exact .inr ⟨c, r, e3, by have := (sub c List.mem_cons_self).1; omega⟩
theorem nT_ne (m : Nat) : nT m ≠ [] := by
  rcases can_nT m with e | ⟨c, r, e, _⟩ <;> rw [e] <;> exact List.cons_ne_nil _ _
theorem no47 {l : List Nat} (h : AllDigits l) : 47 ∉ l := fun z => by have := h 47 z; omega
theorem no45 {l : List Nat} (h : AllDigits l) : 45 ∉ l := fun z => by have := h 45 z; omega
theorem iT47 (i : Int) : 47 ∉ iT i := by
  unfold iT
  split
  · intro z
    rcases List.mem_cons.mp z with e | e
    · omega
    · exact no47 (ad_nT _) e
  · exact no47 (ad_nT _)
theorem nT_inj {a b : Nat} (h : nT a = nT b) : a = b := by rw [← val_nT a, ← val_nT b, h]
theorem split_uniq : ∀ {a b c d : List Nat}, 47 ∉ a → 47 ∉ c → a ++ 47 :: b = c ++ 47 :: d → a = c ∧ b = d
  | [], b, [], d, _, _, e => by injection e with _ e; exact ⟨rfl, e⟩
  | [], b, x :: c, d, _, h, e => by injection e with e1 _; exact absurd (by rw [e1]; exact List.mem_cons_self) h
  | x :: a, b, [], d, h, _, e => by injection e with e1 _; exact absurd (by rw [e1]; exact List.mem_cons_self) h
  | x :: a, b, y :: c, d, h1, h2, e => by
    injection e with e1 e2
    obtain ⟨f1, f2⟩ := split_uniq (fun z => h1 (List.mem_cons_of_mem _ z)) (fun z => h2 (List.mem_cons_of_mem _ z)) e2
    exact ⟨by rw [e1, f1], f2⟩
/-- the number's text: T / B in lowest terms -/
def numT (T : Int) (B : Nat) : List Nat := if B = 1 then iT T else iT T ++ 47 :: nT B
/-- with the sign -/
def sg (neg : Bool) (m : Nat) : Int := if neg then -(m : Int) else m
def sgT (neg : Bool) (l : List Nat) : List Nat := if neg then 45 :: l else l
theorem iT_sg {neg : Bool} {m : Nat} (h : neg = true → m ≠ 0) : iT (sg neg m) = sgT neg (nT m) := by
  cases neg with
  | false => unfold iT sg sgT; simp
  | true =>
    have := h rfl
    unfold iT sg sgT
    rw [if_pos rfl, if_pos (by omega), if_pos rfl]
    simp
theorem iT_0 : iT 0 = [48] := by decide
/-- one part: by writing again -/
theorem one_part {neg : Bool} {l : List Nat} (h : AllDigits l) (hne : l ≠ []) : iT (sg neg (val l)) = sgT neg l ↔ Can l ∧ ¬ (neg = true ∧ val l = 0) := by
  by_cases z : neg = true ∧ val l = 0
  · obtain ⟨rfl, z0⟩ := z
    rw [z0]
    constructor
    · intro e
      have e' : iT 0 = 45 :: l := by simpa [sg, sgT] using e
      rw [iT_0] at e'
      injection e' with e1 _
      omega
    · intro ⟨_, q⟩; exact absurd ⟨rfl, rfl⟩ q
  · rw [iT_sg (fun e q => z ⟨e, q⟩)]
    constructor
    · intro e
      refine ⟨?_, z⟩
      have : nT (val l) = l := by
        cases neg with
        | false => simpa [sgT] using e
        | true => simpa [sgT] using e
      rw [← this]; exact can_nT _
    · intro ⟨c, _⟩; rw [nT_val h c]
theorem val_pos_of {l : List Nat} (h : val l ≠ 0) : 0 < val l := Nat.pos_of_ne_zero h
/-- two parts: by writing again -/
theorem two_parts {neg : Bool} {p q : List Nat} (hp : AllDigits p) (hq : AllDigits q) (h0 : val q ≠ 0) :
    numT (sg neg (val p / Nat.gcd (val p) (val q))) (val q / Nat.gcd (val p) (val q)) = sgT neg (p ++ 47 :: q) ↔ Can p ∧ Can q ∧ val q ≠ 1 ∧ Nat.gcd (val p) (val q) = 1 ∧ val p ≠ 0 := by
  have gpos : 0 < Nat.gcd (val p) (val q) := Nat.pos_of_ne_zero fun z => h0 (Nat.eq_zero_of_gcd_eq_zero_right z)
  have sp : sgT neg (p ++ 47 :: q) = sgT neg p ++ 47 :: q := by cases neg <;> rfl
  have n47 : 47 ∉ sgT neg p := by
    cases neg with
    | false => exact no47 hp
    | true =>
      intro z
      rcases List.mem_cons.mp z with e | e
      · omega
      · exact no47 hp e
  constructor
  · intro e
    unfold numT at e
    split at e
    · exfalso
      have : 47 ∈ iT (sg neg (val p / Nat.gcd (val p) (val q))) := by rw [e, sp]; simp
      exact iT47 _ this
    · rename_i hB
      rw [sp] at e
      obtain ⟨e1, e2⟩ := split_uniq (iT47 _) n47 e
      have eq2 : val q / Nat.gcd (val p) (val q) = val q := by rw [← val_nT (val q / _), e2]
      have g1 : Nat.gcd (val p) (val q) = 1 := by
        have := Nat.div_mul_cancel (Nat.gcd_dvd_right (val p) (val q))
        rw [eq2] at this
        have h1 : val q * Nat.gcd (val p) (val q) = val q * 1 := by omega
        exact Nat.eq_of_mul_eq_mul_left (val_pos_of h0) h1
      rw [g1, Nat.div_one] at e1 e2 hB
      have hne : p ≠ [] := by
        intro z
        subst z
        have : iT (sg neg (val [])) = sgT neg [] := e1
        have v0 : val [] = 0 := rfl
        rw [v0] at this
        have s0 : sg neg 0 = 0 := by cases neg <;> rfl
        rw [s0, iT_0] at this
        cases neg <;> simp [sgT] at this
      obtain ⟨c1, c2⟩ := (one_part hp hne).mp e1
      refine ⟨c1, by rw [← e2]; exact can_nT _, hB, g1, fun z => ?_⟩
      rw [z, Nat.gcd_zero_left] at g1
      exact hB g1
  · intro ⟨c1, c2, b1, g1, n0⟩
    rw [g1, Nat.div_one, Nat.div_one]
    unfold numT
    rw [if_neg b1, sp, iT_sg (fun _ => n0), nT_val hp c1, nT_val hq c2]
end Nm

set_option Elab.async false
set_option linter.all false
set_option maxRecDepth 100000
set_option maxHeartbeats 4000000
/-! Fd44: join, texts in texts, zips with tuples, pieces and multiples of tuples, a, b = e. -/
namespace Fd
open PySem PySem.Spec PyProof.Rows L2
section
variable {T : List (Addr × Str)} {X : Cx} {ss : SS} {o e e1 e2 tg : Expr} {x : Str} {d : D} {xs ys : List D} {P : Post} {p pos apos p2 tpos : Pos} {elts : List Expr} {kk : Nat} {i : Int}
theorem ev_join {zs : List Str} (hl : (zs.map (·.length)).sum + zs.length * x.length ≤ 16777216) (ho : EV T X o ss (.str x)) (he : EV T X e ss (.lst (zs.map D.str))) (hs : starEach [e] X.env = [(false, eval e X.env)] := by rfl) (hbase : attributeBase o "join" X.env (eval o X.env) = eval o X.env := by rfl) (hline : (apos.endLine == pos.line) = true := by rfl) :
    EV T X (.Call (.Attribute o "join" apos) [e] [] pos) ss (.str (Txt.join x zs)) :=
  ev_m1 PySem.F.slot_str_join PySem.F.type_str_join mt_join ho he (fun B F H σ u Q R i1 q => by
    obtain ⟨a, vs, rfl, e1, e2⟩ := i1
    obtain rfl := is_strs e2
    exact ⟨x, a, zs, rfl, rfl, .inl (SqL.of (R.sub _ _ e1)), hl, q _ F H R.nx R rfl⟩) hs hbase hline
/-- f"{e}" -/
theorem ev_fS (hl : x.length ≤ 100000) (he : EV T X e ss (.str x)) : EV T X (.JoinedStr [.FormattedValue e (-1) none p] pos) ss (.str x) :=
  EV.of (pe_joined1 (pe_fmt he)) fun B F H σ Q R q => ev_go R fun v F1 H1 n1 R1 i1 => .inl ⟨x, i1, small_len hl, q _ F1 H1 n1 R1 rfl⟩
theorem ev_fI {j : Int} (hz : j.natAbs.log2 < 1920) (he : EV T X e ss (.int j)) : EV T X (.JoinedStr [.FormattedValue e (-1) none p] pos) ss (.str (toString j : String)) :=
  EV.of (pe_joined1 (pe_fmt he)) fun B F H σ Q R q => ev_go R fun v F1 H1 n1 R1 i1 => .inr ⟨j, i1, hz, q _ F1 H1 n1 R1 rfl⟩
def tI (i : Int) : Str := (toString i : String)
theorem tI_len {i : Int} (h : i.natAbs < 2 ^ 400) : (tI i).length ≤ 130 ∧ i.natAbs.log2 < 1920 := by
  have h2 : i.natAbs < 10 ^ 121 := Nat.lt_of_lt_of_le h (by decide +kernel)
  have e := PySem.int_text_length_le10 (k := 121) (by decide) h2
  refine ⟨?_, Nat.lt_of_lt_of_le (PySem.Flt.log2_lt_of (by decide) h) (by decide)⟩
  show (Str.ofString (toString i)).length ≤ 130
  rw [PySem.ofString_length]; omega
/-- f"{e1}c{e2}", c a short text, e2 a whole number -/
theorem ev_fSI {c : Str} {j : Int} {j0 : Nat} {p1 p3 : Pos} (hx : x.length ≤ 1000) (hc : c.length ≤ 1000) (hj : j.natAbs < 2 ^ 400) (he : EV T X e1 ss (.str x)) (hf : EV T X e2 ss (.int j)) :
    EV T X (.JoinedStr [.FormattedValue e1 (-1) none p1, .Constant (.str c) j0 p2, .FormattedValue e2 (-1) none p3] pos) ss (.str (Str.empty ++ x ++ c ++ tI j)) :=
  EV.of (pe_joined (.cons (pe_fmt he) (.cons pe_str (.cons (pe_fmt hf) .nil)))) fun B F H σ Q R q => ev_go R fun v F1 H1 n1 R1 i1 => by
    obtain ⟨l2, z2⟩ := tI_len hj
    have l4 : (Str.empty : Str).length = 0 := by decide
    have la : ∀ a b : Str, (a ++ b).length = a.length + b.length := fun a b => Str.length_append a b
    refine .inl ⟨x, i1, small_len (by omega), x, rfl, by rw [la, l4, sizeLine_eq]; omega, c, rfl, by rw [la, la, l4, sizeLine_eq]; omega, ?_⟩
    refine ev_go R1 fun u F2 H2 n2 R2 i2 => .inr ⟨j, i2, z2, tI j, rfl, by rw [la, la, la, l4, sizeLine_eq]; omega, q _ F2 H2 (n1.trans n2) R2 rfl⟩
theorem ev_fII {c : Str} {i j : Int} {j0 : Nat} {p1 p3 : Pos} (hc : c.length ≤ 1000) (hi : i.natAbs < 2 ^ 400) (hj : j.natAbs < 2 ^ 400) (he : EV T X e1 ss (.int i)) (hf : EV T X e2 ss (.int j)) :
    EV T X (.JoinedStr [.FormattedValue e1 (-1) none p1, .Constant (.str c) j0 p2, .FormattedValue e2 (-1) none p3] pos) ss (.str (Str.empty ++ tI i ++ c ++ tI j)) :=
  EV.of (pe_joined (.cons (pe_fmt he) (.cons pe_str (.cons (pe_fmt hf) .nil)))) fun B F H σ Q R q => ev_go R fun v F1 H1 n1 R1 i1 => by
    obtain ⟨l2, z2⟩ := tI_len hj
    obtain ⟨l1, z1⟩ := tI_len hi
    have l4 : (Str.empty : Str).length = 0 := by decide
    have la : ∀ a b : Str, (a ++ b).length = a.length + b.length := fun a b => Str.length_append a b
    refine .inr ⟨i, i1, z1, tI i, rfl, by rw [la, l4, sizeLine_eq]; omega, c, rfl, by rw [la, la, l4, sizeLine_eq]; omega, ?_⟩
    refine ev_go R1 fun u F2 H2 n2 R2 i2 => .inr ⟨j, i2, z2, tI j, rfl, by rw [la, la, la, l4, sizeLine_eq]; omega, q _ F2 H2 (n1.trans n2) R2 rfl⟩
/-! zips -/
theorem zips_len : (zips xs ys).length = min xs.length ys.length := by simp [zips]
theorem iv_zipTT (ha : EV T X e ss (.tup xs)) (hb : EV T X e2 ss (.tup ys)) (hm : X.mg "zip" = none) (hg : Gl X "zip" := by rfl) (hs : starEach [e, e2] X.env = (false, eval e X.env) :: starEach [e2] X.env := by rfl) (hs2 : starEach [e2] X.env = [(false, eval e2 X.env)] := by rfl)
    (hpl : (backTo pos (starEach [e2] X.env)).any (·.1) = false := by rfl) : IV T X (.Tuple elts kk tpos) (.Call (.Name "zip" p) [e, e2] [] pos) ss (zips xs ys) :=
  IV.of (RZ.pi_zipA hg hm (evs_cons ha (evs_cons hb evs_nil hs2) hs) hs hpl) fun B F H σ R R0 q => evs_go R0 fun vs F1 H1 n1 R1 i1 => by
    obtain ⟨v, w, rfl, ⟨a, us, rfl, a1, a2⟩, ⟨b, ws, rfl, b1, b2⟩⟩ := isL2 i1
    refine ⟨a, b, us, ws, rfl, .inr ⟨ext_seqT R1.sub a1, ext_seqT R1.sub b1, q _ F1 H1 n1 R1 ⟨fun i F H x1 x2 hi => ?_, fun F H x1 x2 => ?_⟩⟩⟩
    · rw [zips_len] at hi
      have sa : SqT X.K H a us := ext_seqT (x1.trans x2) a1
      have sb : SqT X.K H b ws := ext_seqT (x1.trans x2) b1
      obtain ⟨v, hv, iv⟩ := IsL.get' a2 (List.getElem?_eq_getElem (show i < xs.length by omega))
      obtain ⟨u, hu, iu⟩ := IsL.get' b2 (List.getElem?_eq_getElem (show i < ys.length by omega))
      refine ⟨⟨us, ws, v, u, sa, sb, hv, hu⟩, fun x H' y => ?_⟩
      obtain ⟨T, v', u', rfl, hT, rfl, g1, g2⟩ := y
      have e1 := g1 us sa
      have e2 := g2 ws sb
      rw [hv] at e1; rw [hu] at e2
      cases e1; cases e2
      obtain ⟨n, it⟩ := pair_new x2 hT (Is.mono x1 _ iv) (Is.mono x1 _ iu)
      exact ⟨_, _, n, zips_get (List.getElem?_eq_getElem _) (List.getElem?_eq_getElem _), it⟩
    · refine ⟨us, ws, ext_seqT (x1.trans x2) a1, ext_seqT (x1.trans x2) b1, ?_⟩
      rw [a2.length, b2.length, zips_len]
      omega
theorem iv_zipLT (ha : EV T X e ss (.lst xs)) (hb : EV T X e2 ss (.tup ys)) (hm : X.mg "zip" = none) (hg : Gl X "zip" := by rfl) (hs : starEach [e, e2] X.env = (false, eval e X.env) :: starEach [e2] X.env := by rfl) (hs2 : starEach [e2] X.env = [(false, eval e2 X.env)] := by rfl)
    (hpl : (backTo pos (starEach [e2] X.env)).any (·.1) = false := by rfl) : IV T X (.Tuple elts kk tpos) (.Call (.Name "zip" p) [e, e2] [] pos) ss (zips xs ys) :=
  IV.of (ZiM.pi_zipM hg hm (evs_cons ha (evs_cons hb evs_nil hs2) hs) hs hpl) fun B F H σ R R0 q => evs_go R0 fun vs F1 H1 n1 R1 i1 => by
    obtain ⟨v, w, rfl, ⟨a, us, rfl, a1, a2⟩, ⟨b, ws, rfl, b1, b2⟩⟩ := isL2 i1
    refine ⟨a, b, us, ws, rfl, SqL.of (R1.sub _ _ a1), ext_seqT R1.sub b1, q _ F1 H1 n1 R1 ⟨fun i F H x1 x2 hi => ?_, fun F H x1 x2 => ?_⟩⟩
    · rw [zips_len] at hi
      have sa : SqL X.K H a us := SqL.of (x2 _ _ (x1 _ _ a1))
      have sb : SqT X.K H b ws := ext_seqT (x1.trans x2) b1
      obtain ⟨v, hv, iv⟩ := IsL.get' a2 (List.getElem?_eq_getElem (show i < xs.length by omega))
      obtain ⟨u, hu, iu⟩ := IsL.get' b2 (List.getElem?_eq_getElem (show i < ys.length by omega))
      refine ⟨⟨us, ws, v, u, sa, sb, hv, hu⟩, fun x H' y => ?_⟩
      obtain ⟨T, v', u', rfl, hT, rfl, g1, g2⟩ := y
      have e1 := g1 us sa
      have e2 := g2 ws sb
      rw [hv] at e1; rw [hu] at e2
      cases e1; cases e2
      obtain ⟨n, it⟩ := pair_new x2 hT (Is.mono x1 _ iv) (Is.mono x1 _ iu)
      exact ⟨_, _, n, zips_get (List.getElem?_eq_getElem _) (List.getElem?_eq_getElem _), it⟩
    · refine ⟨us, ws, SqL.of (x2 _ _ (x1 _ _ a1)), ext_seqT (x1.trans x2) b1, ?_⟩
      rw [a2.length, b2.length, zips_len]
      omega
/-! tuples -/
theorem cut_to (vs : List V) (n : Nat) : cutV vs none (some (n : Int)) = vs.take n := by
  unfold cutV
  rw [HT.sIx_none, HT.sIx_nat, List.drop_zero, Nat.sub_zero, List.take_eq_take_iff]
  omega
/-- e[:n] of a key -/
theorem ev_cutK {k : List Key} {n : Nat} {hi : Expr} (ha : EV T X o ss (.tk k)) (hu : EV T X hi ss (.int (n : Nat))) (hn : n ≤ k.length) : EV T X (.Subscript o (.Slice none (some hi) none p2) pos) ss (.tk (k.take n)) :=
  EV.of (pe_slice sl_tupA ha (po_pv pv_none) (po_pv (pv_some hu))) fun B F H σ Q R q => ev_go R fun v F1 H1 n1 R1 i1 => by
    obtain ⟨a, rfl, e1⟩ := i1
    refine ⟨B, F1, R1, fun F2 H2 n2 R2 => ⟨B, F2, R2, fun F3 H3 n3 R3 => ⟨a, _, rfl, SqT.of (R3.sub _ _ ((n2.trans n3).f _ _ e1)), fun hw => ?_, fun hw q' hq => ?_⟩⟩⟩
    · have : n = k.length := by
        have := hw.2
        rw [HT.sIx_nat, List.length_map] at this
        omega
      subst this
      exact q _ _ _ ((n1.trans n2).trans n3) R3 ⟨a, rfl, by rw [List.take_length]; exact (n2.trans n3).f _ _ e1⟩
    · rw [cut_to, ← List.map_take] at *
      exact q _ _ _ (((n1.trans n2).trans n3).trans (Nx.alloc R3.sub hq)) (R3.alloc hq) ⟨q', rfl, upd_same⟩
/-- (e,) * n, n up to 2 -/
theorem ev_mulK {n : Nat} {x1 : Nat} {p3 : Pos} (hn : n ≤ 2) (ha : EV T X e ss (.int i)) (hb : EV T X e2 ss (.int (n : Nat))) (hs : starEach [e] X.env = [(false, eval e X.env)] := by rfl) : EV T X (.BinOp (.Tuple [e] x1 p3) .Mult e2 pos) ss (tkI (List.replicate n i)) := by
  have hk : EV T X (.Tuple [e] x1 p3) ss (tkI [i]) := ev_key (ks := [.inl i]) (evs_cons ha evs_nil hs)
  by_cases h2 : n = 2
  · subst h2
    refine ev_op op_repT hk hb fun B F H σ v u Q R i1 i2 q => ?_
    obtain ⟨a, rfl, e1⟩ := i1
    refine ⟨a, 2, _, rfl, i2, SqT.of (R.sub _ _ e1), by simp, by decide, by decide, by simp, fun p hp => ?_⟩
    exact q _ _ _ (Nx.alloc R.sub hp) (R.alloc hp) ⟨p, rfl, upd_same⟩
  · refine ev_op TuM.op_few hk hb fun B F H σ v u Q R i1 i2 q => ?_
    obtain ⟨a, rfl, e1⟩ := i1
    refine ⟨a, V.int i, (n : Int), rfl, i2, SqT.of (R.sub _ _ e1), ?_⟩
    by_cases h1 : n = 1
    · subst h1
      exact .inl ⟨rfl, q _ F H R.nx R ⟨a, rfl, e1⟩⟩
    · obtain rfl : n = 0 := by omega
      exact .inr ⟨rfl, fun p hp => q _ _ _ (Nx.alloc R.sub hp) (R.alloc hp) ⟨p, rfl, upd_same⟩⟩
/-- int(e), e a truth -/
theorem ev_intB {b : Bool} (ha : EV T X e ss (.bl b)) (hm : X.mg "int" = none) (hg : Gl X "int" := by rfl) (he : starEach [e] X.env = [(false, eval e X.env)] := by rfl) : EV T X (.Call (.Name "int" p) [e] [] pos) ss (.int (if b then 1 else 0)) :=
  ev_bty call_int1 (evs_cons ha evs_nil he) hm (by decide +kernel) (fun B F H σ vs Q R i1 q => by
    obtain ⟨v, rfl, iv⟩ := isL1 i1
    cases (show v = .bl b from iv)
    exact .inr ⟨b, rfl, q _ F H R.nx R rfl⟩) hg (he := he)
/-- a, b, .. = e -/
theorem sv_tg (t : Tg) (he : EV T X e ss d) (hg : PG X tg (gOf X.K t)) (hf : t.fits d = true) (k : P.nx (t.put d ss)) (h1 : swapsWithSole [tg] e pos.line X.env = pure false := by rfl) (h2 : swappedStores [tg] e X.env = pure none := by rfl) (h3 : (assignEach [tg] X.env).map (·.2) = [assign tg X.env] := by rfl) : SV T X (.Assign [tg] e pos) ss P :=
  SV.of (ps_asg he hg h1 h2 h3) fun B F H σ Dn R g => ev_go R fun v F1 H1 n1 R1 i1 => tg_go (ws := []) R1 i1 hf (fun _ _ => .inr rfl) fun σ' R2 _ => g.nx _ _ _ _ k R2
end
end Fd

set_option Elab.async false
set_option linter.all false
set_option maxRecDepth 100000
set_option maxHeartbeats 400000
/-! MaxD: max(xs, default=d), xs a list of whole numbers. -/
namespace MaxD
open PySem PySem.Spec PyProof.Rows L2
theorem args_one (a d : Value) : argsOk "max" ⟨[a], [(Str.ofString "default", d)]⟩ := by unfold argsOk; kernel_rfl
theorem loop_name : (toString "max" ++ toString ".loop" : String) = "max.loop" := by decide
section
variable {prog : Program} {w : World} {A : Around} {R : Result → Shared → Prop} {J : Addr} {fp wr : List Addr} {n : Nat} {P : Nat → Value → Prop} {St : Nat → Heap → Prop} {ks : List (Str × Value)}
/-- the turns behind the first item -/
theorem turns (W : Walks prog w A.in1 J fp wr n P St) (bt : Nat → Nat → Bool) (gtr : CmpOf prog w A.in1 .Gt P bt) (B : Addr) (out : B ∉ fp) :
    ∀ (m i : Nat) (s : Shared) (v0 : Value) (z : Nat), n - (i + 1) = m → i + 1 ≤ n → St (i + 1) s.heap → P (argBest bt i) v0 → s.heap.get? B = some { cls := .type "list", dict := none, data := .seq #[v0, v0] z, slots := #[] } →
    (∀ v h2 tk2, P (argBest bt (n - 1)) v → (∀ b o, b ∉ wr → b ≠ B → s.heap.get? b = some o → h2.get? b = some o) → R (.ok (.ret v)) { s with heap := h2, toks := tk2 }) → codeAny (model prog w) A (.builtin "max.loop" ⟨[.ref J, .none, .ref B], ks⟩) R s := by
  have outW : B ∉ wr := fun q => out (W.sub _ q)
  intro m
  induction m with
  | zero =>
    intro i s v0 z em hi st p0 eB q
    have ei : i + 1 = n := by omega
    refine codeAny_builtin PySem.F.entry_max_loop ?_
    rw [Around.under_plainId PySem.F.plain_max_loop _]
    show wpAny _ A.in1 (seqItems? (.ref B) >>= _) _ _ s
    refine wpAny_bind (wpAny_seqItems eB rfl ?_)
    show wpAny _ A.in1 (tryCatch (pyNext (.ref J)) _ >>= _) _ _ s
    refine wpAny_bind (wpAny_tryCatch (W.done s _ _ (ei ▸ st) fun h1 tk1 keep => ?_))
    have eB1 := keep B _ outW eB
    show wpAny _ A.in1 (updateSeq B (fun _ => #[]) >>= _) _ _ _
    refine wpAny_bind (wpAny_updateSeq eB1 rfl (wpAny_bind (wpAny_letGo (wpAny_pure ?_))))
    exact q v0 _ tk1 (by rw [← ei]; exact p0) fun b o nw nB e => (Heap.get?_update_other _ _ (Ne.symm nB)).trans (keep b o nw e)
  | succ m ih =>
    intro i s v0 z em hi st p0 eB q
    have lt : i + 1 < n := by omega
    refine codeAny_builtin PySem.F.entry_max_loop ?_
    rw [Around.under_plainId PySem.F.plain_max_loop _]
    show wpAny _ A.in1 (seqItems? (.ref B) >>= _) _ _ s
    refine wpAny_bind (wpAny_seqItems eB rfl ?_)
    show wpAny _ A.in1 (tryCatch (pyNext (.ref J)) _ >>= _) _ _ s
    refine wpAny_bind (wpAny_tryCatch (W.item (i + 1) s _ _ lt st fun v h1 tk1 pv st1 keep => ?_))
    have eB1 := keep B _ outW eB
    show wpAny _ A.in1 (tryCatch (holding [v, v] (richCompare .Gt v v0 >>= _)) _ >>= _) _ _ _
    refine wpAny_bind (wpAny_tryCatch (wpAny_holding (wpAny_bind (gtr (i + 1) (argBest bt i) v v0 _ _ _ pv p0 (wpAny_bind (wpAny_holding (wpAny_truthy_bool (wpAny_bind (wpAny_letGo (wpAny_pure ?_))))))))))
    cases eb : bt (i + 1) (argBest bt i) with
    | true =>
      simp only [if_true]
      refine wpAny_bind (wpAny_updateSeq eB1 rfl (wpAny_bind (wpAny_letGo ?_)))
      rw [loop_name]
      refine wpAny_pure ⟨plainId_quiet PySem.F.plain_max_loop _, ih (i + 1) _ v _ (by omega) lt (W.frame _ _ _ st1 fun b bf o e => ?_) (by simp only [argBest, eb, if_true]; exact pv) (Heap.get?_update_self _ eB1 rfl) fun v2 h2 tk2 p2 k2 => ?_⟩
      · exact (Heap.get?_update_other _ _ (fun x : B = b => out (by rw [x]; exact bf))).trans e
      · exact q v2 h2 tk2 p2 fun b o nw nB e => k2 b o nw nB ((Heap.get?_update_other _ _ (Ne.symm nB)).trans (keep b o nw e))
    | false =>
      simp only [Bool.false_eq_true, if_false]
      refine wpAny_bind (wpAny_letGo ?_)
      rw [loop_name]
      refine wpAny_pure ⟨plainId_quiet PySem.F.plain_max_loop _, ih (i + 1) _ v0 z (by omega) lt st1 (by simp only [argBest, eb, Bool.false_eq_true, if_false]; exact p0) eB1 fun v2 h2 tk2 p2 k2 => ?_⟩
      exact q v2 h2 tk2 p2 fun b o nw nB e => k2 b o nw nB (keep b o nw e)
theorem first_turn (W : Walks prog w A.in1 J fp wr n P St) (bt : Nat → Nat → Bool) (gtr : CmpOf prog w A.in1 .Gt P bt) (B : Addr) (out : B ∉ fp) (pos : 0 < n) {s : Shared} {z : Nat} (st : St 0 s.heap) (eB : s.heap.get? B = some { cls := .type "list", dict := none, data := .seq #[] z, slots := #[] })
    (q : ∀ v h2 tk2, P (argBest bt (n - 1)) v → (∀ b o, b ∉ wr → b ≠ B → s.heap.get? b = some o → h2.get? b = some o) → R (.ok (.ret v)) { s with heap := h2, toks := tk2 }) : codeAny (model prog w) A (.builtin "max.loop" ⟨[.ref J, .none, .ref B], ks⟩) R s := by
  have outW : B ∉ wr := fun x => out (W.sub _ x)
  refine codeAny_builtin PySem.F.entry_max_loop ?_
  rw [Around.under_plainId PySem.F.plain_max_loop _]
  show wpAny _ A.in1 (seqItems? (.ref B) >>= _) _ _ s
  refine wpAny_bind (wpAny_seqItems eB rfl ?_)
  show wpAny _ A.in1 (tryCatch (pyNext (.ref J)) _ >>= _) _ _ s
  refine wpAny_bind (wpAny_tryCatch (W.item 0 s _ _ pos st fun v h1 tk1 pv st1 keep => ?_))
  have eB1 := keep B _ outW eB
  show wpAny _ A.in1 (updateSeq B (fun _ => #[v, v]) >>= _) _ _ _
  refine wpAny_bind (wpAny_updateSeq eB1 rfl ?_)
  rw [loop_name]
  refine wpAny_pure ⟨plainId_quiet PySem.F.plain_max_loop _, turns W bt gtr B out _ 0 _ v _ rfl pos (W.frame _ _ _ st1 fun b bf o e => ?_) pv (Heap.get?_update_self _ eB1 rfl) fun v2 h2 tk2 p2 k2 => ?_⟩
  · exact (Heap.get?_update_other _ _ (fun x : B = b => out (by rw [x]; exact bf))).trans e
  · exact q v2 h2 tk2 p2 fun b o nw nB e => k2 b o nw nB ((Heap.get?_update_other _ _ (Ne.symm nB)).trans (keep b o nw e))
/-- nothing is walked: the default -/
theorem no_turn {d : Value} {nm : Str} (W : Walks prog w A.in1 J fp wr n P St) (B : Addr) (out : B ∉ fp) (zero : n = 0) {s : Shared} {z : Nat} (st : St 0 s.heap) (eB : s.heap.get? B = some { cls := .type "list", dict := none, data := .seq #[] z, slots := #[] })
    (q : ∀ h2 tk2, (∀ b o, b ∉ wr → b ≠ B → s.heap.get? b = some o → h2.get? b = some o) → R (.ok (.ret d)) { s with heap := h2, toks := tk2 }) : codeAny (model prog w) A (.builtin "max.loop" ⟨[.ref J, .none, .ref B], [(nm, d)]⟩) R s := by
  refine codeAny_builtin PySem.F.entry_max_loop ?_
  rw [Around.under_plainId PySem.F.plain_max_loop _]
  show wpAny _ A.in1 (seqItems? (.ref B) >>= _) _ _ s
  refine wpAny_bind (wpAny_seqItems eB rfl ?_)
  show wpAny _ A.in1 (tryCatch (pyNext (.ref J)) _ >>= _) _ _ s
  refine wpAny_bind (wpAny_tryCatch (W.done s _ _ (zero ▸ st) fun h1 tk1 keep => ?_))
  show wpAny _ A.in1 (rule _ >>= _) _ _ _
  refine wpAny_bind (wpAny_rule (wpAny_pure ?_))
  exact q h1 tk1 fun b o nw nB e => keep b o nw e
end
section
variable {prog : Program} {w : World} {A : Around} {E : Value → Shared → Prop} {s : Shared} {l : Addr} {its : List Value} {ns : List Int} {Q : Value → Shared → Prop} {d : Value}
/-- a built-in function that goes on with another one, called with words -/
theorem goes_on {id : String} {b : Builtin} {xs : List Value} {kw : List (Str × Value)} {Z : Value → Shared → Prop} (hk : builtinKind id = none) (hp : plainId id = true) (hb : entryFor table id = some b) (ha : argsOk id ⟨xs, kw⟩)
    (go : wpAny (model prog w) A.in1 (b ⟨xs, kw⟩) (fun fin s2 => ∃ c, fin = .again c ∧ c.quiet = true ∧ codeAny (model prog w) A c (fun r s3 => match r with | .ok (.ret v) => Z v s3 | .ok _ => False | .error e => E e s3) s2) E s) : wpAny (model prog w) A (call (.builtin id) xs kw) Z E s := by
  refine wpAny_call (codeAny_call_builtin hp hb ?_)
  have go2 := wpAny_mono go (Q' := fun fin s2 => match fin with
    | .done f => (match (Except.ok f : Result) with | .ok (.ret v) => Z v s2 | .ok _ => False | .error e => E e s2)
    | .again c => c.quiet = true ∧ codeAny (model prog w) A c (fun r s3 => match r with | .ok (.ret v) => Z v s3 | .ok _ => False | .error e => E e s3) s2)
    (fun fin s2 z => by obtain ⟨c, rfl, hz⟩ := z; exact hz) fun _ _ z => z
  simp only [checkBuiltinCall, hk]
  cases sg : Manifest.signature? id with
  | none => exact wpAny_pure go2
  | some sig =>
    have chk : Bind.checkArgs id sig ⟨xs, kw⟩ = pure () := by simpa only [argsOk, sg] using ha
    simp only [chk]
    exact wpAny_pure go2
theorem binds (d : Value) : Builtin.Builtins.bindParams "max" ["key", "default"] 0 ⟨[], [(Str.ofString "default", d)]⟩ = pure [none, some d] := by kernel_rfl
theorem raw {nm : Str} (ha : argsOk "max" ⟨[.ref l], [(nm, d)]⟩) (hb : Builtin.Builtins.bindParams "max" ["key", "default"] 0 ⟨[], [(nm, d)]⟩ = pure [none, some d]) (hn' : nm = ("default" : Str)) (hh : A.handled = none) (hl : s.heap.IsList l its.toArray) (hi : IntsAre its ns)
    (h : ∀ h2 tk2, (∀ b o, s.heap.get? b = some o → h2.get? b = some o) → (ns = [] → Q d { s with heap := h2, toks := tk2 }) ∧ ∀ M t, M ∈ ns → (∀ a, a ∈ ns → a ≤ M) → Q (.int M t) { s with heap := h2, toks := tk2 }) : wpAny (model prog w) A (call (.builtin "max") [.ref l] [(nm, d)]) Q E s := by
  obtain ⟨xs, e⟩ := hi.allInts.items
  have hn : numsOf (intItems xs).toList = ns := by rw [← e]; exact hi.numsOf
  rw [nums_intItems] at hn
  subst hn
  rw [e] at hl
  refine goes_on PySem.F.kind_max PySem.F.plain_max PySem.F.entry_max ha ?_
  show wpAny _ A.in1 (Builtin.Builtins.bindParams "max" ["key", "default"] 0 ⟨[], [(nm, d)]⟩ >>= _) _ _ s
  refine wpAny_bind (wpAny_of_eq hb ?_)
  refine wpAny_bind (wpAny_pure (wpAny_bind (iter_intList hl fun s2 es st hfp hlI => ?_)))
  subst es
  refine wpAny_bind (wpAny_newObj_type ?_)
  have W := Walks.list (prog := prog) (w := w) (A := A.in1) hh s.heap.objs.size l hlI (intItems xs)
  generalize hs2 : s.heap.push { cls := .type "list_iterator", data := .fields #[.ref l, .int 0 0] } = H2 at *
  have hSf : H2.objs.size ∉ [s.heap.objs.size, l] := fun hm => Nat.lt_irrefl _ (hfp _ hm)
  have old : ∀ {h2 : Heap}, (∀ b o, b ∉ [s.heap.objs.size] → b ≠ H2.objs.size → (H2.push { cls := .type "list", dict := none, data := .seq #[] 0, slots := #[] }).get? b = some o → h2.get? b = some o) → ∀ b o, s.heap.get? b = some o → h2.get? b = some o := fun k b o e => by
    have lt := Heap.lt_size e
    have e2 : H2.get? b = some o := by rw [← hs2]; exact Heap.get?_push_of_some _ e
    exact k b o (by rw [List.mem_singleton]; exact Nat.ne_of_lt lt) (Nat.ne_of_lt (Heap.lt_size e2)) (Heap.get?_push_of_some _ e2)
  rw [loop_name]
  rw [show (Option.toList (some d)).map (fun d => (("default" : Str), d)) = [(nm, d)] by rw [hn']; rfl]
  rcases Nat.eq_zero_or_pos xs.size with z | z
  · refine wpAny_pure ⟨_, rfl, plainId_quiet PySem.F.plain_max_loop _, no_turn W H2.objs.size hSf (by simpa [intItems] using z) (W.frame _ _ _ st fun b _ o e => Heap.get?_push_of_some _ e) (Heap.get?_push_size _ rfl) fun h2 tk2 k2 => ?_⟩
    have hx : xs.toList.map (·.1) = [] := by
      have : xs = #[] := Array.size_eq_zero_iff.mp z
      rw [this]; rfl
    exact (h h2 tk2 (old k2)).1 hx
  · refine wpAny_pure ⟨_, rfl, plainId_quiet PySem.F.plain_max_loop _, first_turn W (fun i j => decide (numAt xs i > numAt xs j)) (CmpOf.ints_gt (numAt xs) fun _ _ => intItems_at) H2.objs.size hSf (by simpa [intItems] using z) (W.frame _ _ _ st fun b _ o e => Heap.get?_push_of_some _ e) (Heap.get?_push_size _ rfl) fun v h2 tk2 p2 k2 => ?_⟩
    have p3 : (intItems xs)[argBest (fun i j => decide (numAt xs i > numAt xs j)) (xs.size - 1)]? = some v := by simpa [intItems] using p2
    obtain ⟨t, rfl⟩ := intItems_at p3
    obtain ⟨h1, h2'⟩ := argBest_gt (numAt xs) (xs.size - 1)
    refine (h h2 tk2 (old k2)).2 _ t ?_ fun a ha => ?_
    · rw [numAt_eq]; exact PySem.getD_mem (by rw [List.length_map, Array.length_toList]; omega)
    · obtain ⟨j, hj, rfl⟩ := mem_getD ha
      rw [List.length_map, Array.length_toList] at hj
      have q := h2' j (by omega)
      rw [numAt_eq] at q
      exact q
end
/-- max(xs, default=d) of a list of whole numbers -/
theorem ck_max {X : Cx} (hc : X.calm = true) : CallRK X (.builtin "max") [Str.ofString "default"] (fun vs zs H Q => ∃ d a ns, zs = [d] ∧ vs = [V.ref a] ∧ SqL X.K H a (ns.map V.int) ∧ (ns = [] → Q d H) ∧ ∀ m, m ∈ ns → (∀ y, y ∈ ns → y ≤ m) → Q (.int m) H) := by
  intro pins s σ H vs zs us ws Q I r rz ⟨d, a, ns, e1, e2, hs, q1, q2⟩
  subst e1 e2
  obtain ⟨its, rv, hl, _⟩ := I.list hs
  rw [Vals.ref1 r]
  cases rz with
  | cons rd t =>
    cases t
    exact raw (args_one _ _) (binds _) rfl (I.ok.hd hc) hl.isList rv.ints fun h2 tk2 k2 => ⟨fun z => ⟨d, H, I.kept k2, rd, q1 z⟩, fun m t h1 h2 => ⟨.int m, H, I.kept k2, ⟨_, rfl⟩, q2 m h1 h2⟩⟩
end MaxD

set_option Elab.async false
set_option linter.all false
set_option maxRecDepth 100000
set_option maxHeartbeats 4000000
/-! ZiN: zip of a tuple and a list. -/
namespace ZiN
open PySem PySem.Spec PyProof.Rows L2 RZ
theorem drawTup {P : Program} {w : World} {A : Around} (hh : A.handled = none) {it l : Addr} (ne : l ≠ it) {us : Array Value} : Draws P w A it [it, l] us.size (fun k v => us[k]? = some v) (fun k h => h.IsTupleIter it l k ∧ h.IsTuple l us) where
  live := fun _ _ s => ⟨_, s.1.choose_spec.1⟩
  frame := fun _ _ _ s k => ⟨s.1.at fun o e => k it (List.mem_cons_self) o e, let ⟨o, e, r⟩ := s.2; ⟨o, k l (by simp) o e, r⟩⟩
  item := fun k s Q E lt st q => nextOf_tuple_item st.1 st.2 (Array.getElem?_eq_getElem lt) fun h' i' sb => q _ h' s.toks (Array.getElem?_eq_getElem lt) ⟨i', st.2.extBut sb.extBut ne⟩ sb
  done := fun s Q E st q => nextOf_tuple_end hh st.1 st.2 (by simp) q
/-- the tuple at a, the list at b -/
def Itm (K : PySem.W.Frag) (a b : Addr) : It where
  go := fun i H => ∃ xs ys x y, SqT K H a xs ∧ SqL K H b ys ∧ xs[i]? = some x ∧ ys[i]? = some y
  yld := fun i H v H' => ∃ T x y, v = .ref T ∧ H T = none ∧ H' = upd H T (.tup [x, y]) ∧ (∀ xs, SqT K H a xs → xs[i]? = some x) ∧ ∀ ys, SqL K H b ys → ys[i]? = some y
  stop := fun i H => ∃ xs ys : List V, SqT K H a xs ∧ SqL K H b ys ∧ i ≤ xs.length ∧ i ≤ ys.length ∧ (i = xs.length ∨ i = ys.length)
def StM (z t u i j a b : Addr) (k : Nat) (h : Heap) : Prop := IsZip h z t u .none ∧ IsPair h t (.ref i) (.ref j) ∧ (∃ x y, IsPair h u x y) ∧ h.IsTupleIter i a k ∧ h.IsListIter j b k
theorem sep {z t u i j a b : Addr} (D : ZipApart z t u i j a b) : ZipSep2 z t u i j [i, a] [j, b] :=
  ⟨D.TIz, D.TOz, D.TITO, D.TIi1, by simp, by simp [D.i1z.symm, D.l1z.symm], by simp [D.TOi1, D.l1TO.symm], D.TIi2, by simp, by simp [D.i2z.symm, D.l2z.symm], by simp [D.TOi2, D.l2TO.symm], by simp [D.i12, D.l2i1.symm], by simp [D.i12.symm, D.l1i2.symm]⟩
theorem five {c z t u i j : Addr} {p : Addr → Prop} (m : c ∈ [z, t, u, i, j]) (h1 : p z) (h2 : p t) (h3 : p u) (h4 : p i) (h5 : p j) : p c := by
  simp only [List.mem_cons, List.not_mem_nil, or_false] at m
  rcases m with e | e | e | e | e <;> subst e <;> assumption
theorem turnM {P : Program} {w : World} {K : PySem.W.Frag} {elts : List Expr} {kk : Nat} {tpos : Pos} {a b z t u i j : Addr} (D : ZipApart z t u i j a b) : Turn P w K (.Tuple elts kk tpos) (Itm K a b) [z, t, u, i, j] z (StM z t u i j a b) where
  mem := List.mem_cons_self
  obj := fun k h ⟨hz, ht, ⟨x, y, hu⟩, ⟨o1, e1, _, d1⟩, ⟨o2, e2, _, d2⟩⟩ c m => five (p := fun c => ∃ o, h.get? c = some o ∧ ∀ v, o.data ≠ .cell v) m ⟨_, hz, fun _ q => nomatch q⟩ ⟨_, ht, fun _ q => nomatch q⟩ ⟨_, hu, fun _ q => nomatch q⟩ ⟨o1, e1, fun v q => by rw [d1] at q; exact nomatch q⟩ ⟨o2, e2, fun v q => by rw [d2] at q; exact nomatch q⟩
  keep := fun k h h' ⟨hz, ht, ⟨x, y, hu⟩, h1, h2⟩ kp => ⟨kp z (by simp) _ hz, kp t (by simp) _ ht, ⟨x, y, kp u (by simp) _ hu⟩, h1.at fun o q => kp i (by simp) o q, h2.at fun o q => kp j (by simp) o q⟩
  item := by
    intro X eP ew eK hc k pins s σ H E I hf st hg
    subst eP ew eK
    obtain ⟨hz, ht, ⟨x0, y0, hu⟩, h1, h2⟩ := st
    obtain ⟨xs, ys, x, y, qx, qy, hx, hy⟩ := hg
    obtain ⟨its, rv, p, _⟩ := I.tuple qx
    obtain ⟨its2, rv2, p2, _⟩ := I.list qy
    obtain ⟨v1, g1, r1⟩ := rv.get hx
    obtain ⟨v2, g2, r2⟩ := rv2.get hy
    have zl : z < s.heap.objs.size := Heap.lt_size hz
    have l1 : k < its.toArray.size := by rw [List.size_toArray]; exact (List.getElem?_eq_some_iff.mp g1).1
    have l2 : k < its2.toArray.size := by rw [List.size_toArray]; exact (List.getElem?_eq_some_iff.mp g2).1
    have hd : X.A.in1.handled = none := I.ok.hd hc
    refine wpAny_pyNext_zipD2_item (sep D) (drawTup hd D.l1i1 (us := its.toArray)) (Draws.list hd j b D.l2i2 its2.toArray) hz ht hu ⟨h1, p⟩ ⟨h2, p2.isList⟩ l1 l2 fun w1 w2 h' tk y1 y2 z' u' s1 s2 hT _ hk => ?_
    have ew1 : w1 = v1 := by have := y1; simp [g1] at this; exact this.symm
    have ew2 : w2 = v2 := by have := y2; simp [g2] at this; exact this.symm
    subst ew1 ew2
    refine ⟨_, rfl, wpAny_letOwnedTupleGo_zip (s := { s with heap := h', toks := tk }) z' fun h'' z'' sb => ?_⟩
    have hT2 := (sb.2 _ (Nat.ne_of_gt zl)).trans hT
    have new : ObjOk X.prog X.w (upd H s.heap.objs.size (.tup [x, y])) h'' s.heap.objs.size (.tup [x, y]) := ⟨by show 2 ≤ sizeLine; decide, [w1, w2], .cons r1 (.cons r2 .nil), ⟨_, hT2, rfl, _, rfl⟩⟩
    have I1 := I.turnedNew (t' := tk) (ch := [z, t, u, i, j]) (fun c o hb q => (sb.2 c (fun e => hb (by simp [e]))).trans (hk c o (fun e => hb (by simp [e])) (fun e => hb (by simp [e])) (fun e => hb (by simp [e])) (fun e => hb (by simp [e])) q)) hf (Nat.le_refl _) new
    have fr := I.hok.fresh (Nat.le_refl s.heap.objs.size)
    refine ⟨.ref s.heap.objs.size, _, I1, rfl, ⟨_, x, y, rfl, fr, rfl, fun l hl => by rw [I.tuple_inj hl qx]; exact hx, fun l hl => by rw [I.list_inj hl qy]; exact hy⟩, ⟨z'', ?_, ⟨w1, w2, ?_⟩, s1.1.at fun o q => (sb.2 _ D.i1z).trans q, s2.1.at fun o q => (sb.2 _ D.i2z).trans q⟩, fun c m => ?_⟩
    · exact (sb.2 _ D.TIz).trans (hk _ _ D.TIz D.TITO D.TIi1 D.TIi2 ht)
    · exact (sb.2 _ D.TOz).trans u'
    · have lt : c < s.heap.objs.size := five (p := fun c => c < s.heap.objs.size) m zl (Heap.lt_size ht) (Heap.lt_size hu) (Heap.lt_size h1.choose_spec.1) (Heap.lt_size h2.choose_spec.1)
      rw [upd_ne (Nat.ne_of_lt lt)]
      exact (hf c m).1
  done := by
    intro X eP ew eK hc k pins s σ H E I hf st hg
    subst eP ew eK
    obtain ⟨hz, ht, ⟨x0, y0, hu⟩, h1, h2⟩ := st
    obtain ⟨xs, ys, qx, qy, le1, le2, hend⟩ := hg
    obtain ⟨its, rv, p, _⟩ := I.tuple qx
    obtain ⟨its2, rv2, p2, _⟩ := I.list qy
    have l1 : its.toArray.size = xs.length := by rw [List.size_toArray]; exact rv.length.symm
    have l2 : its2.toArray.size = ys.length := by rw [List.size_toArray]; exact rv2.length.symm
    have hd : X.A.in1.handled = none := I.ok.hd hc
    exact wpAny_pyNext_zipD2_end (sep D) (drawTup hd D.l1i1 (us := its.toArray)) (Draws.list hd j b D.l2i2 its2.toArray) hz ht hu ⟨h1, p⟩ ⟨h2, p2.isList⟩ (by omega) (by omega) (by omega) fun h' tk hk => ⟨rfl, I.turnedL (t' := tk) (ch := [z, t, u, i, j])
      (fun c o hb q => hk c o (fun e => hb (by simp [e])) (fun e => hb (by simp [e])) (fun e => hb (by simp [e])) (fun e => hb (by simp [e])) q) hf⟩
  self := fun A k s Q E st q => wpAny_pyIter_zip st.1 q
/-! the call -/
def g1 (h : Heap) (l : Addr) : Heap := h.push { cls := .type "tuple_iterator", data := .fields #[.ref l, .int 0 0] }
def g2 (h : Heap) (l m : Addr) : Heap := (g1 h l).push { cls := .type "list_iterator", data := .fields #[.ref m, .int 0 0] }
def g3 (h : Heap) (l m : Addr) : Heap := (g2 h l m).push { cls := .type "tuple", data := .seq #[.ref h.objs.size, .ref (g1 h l).objs.size] }
def g4 (h : Heap) (l m : Addr) : Heap := (g3 h l m).push { cls := .type "tuple", data := .seq #[.none, .none] }
def g5 (h : Heap) (l m : Addr) : Heap := (g4 h l m).push { cls := .type "zip", data := .fields #[.none, .bool false, .bool false, .ref (g2 h l m).objs.size, .ref (g3 h l m).objs.size] }
theorem meets_new (l m : Addr) (xs ys : Array Value) : Meets (Builtin.«zip.__new__» ⟨[.type "zip", .ref l, .ref m], []⟩) (fun _ R s => s.heap.IsTuple l xs ∧ s.heap.IsList m ys ∧ R (.ok (.ret (.ref (g4 s.heap l m).objs.size))) { s with heap := g5 s.heap l m }) :=
  .of_wp fun prog w A R s h => by
    obtain ⟨hp, g, d, tk, os⟩ := s
    obtain ⟨a1, a2, h⟩ := h
    have hsub := sub_zip
    have b1 : Heap.IsTuple (Shared.heap ⟨hp, g, d, tk, os⟩) l xs := a1
    have b2 : Heap.IsList (Shared.heap ⟨hp.push { cls := .type "tuple_iterator", data := .fields #[.ref l, .int 0 0] }, g, d, tk, os⟩) m ys := Heap.IsList.push a2 _
    wp_walk using wpAny_pyIter_tuple b1, wpAny_pyIter_list b2
    exact ⟨_, rfl, h⟩
theorem callM {P : Program} {w : World} {A : Around} {E : Value → Shared → Prop} {s : Shared} {l m : Addr} {xs ys : Array Value} {Q : Value → Shared → Prop} (h1 : s.heap.IsTuple l xs) (h2 : s.heap.IsList m ys)
    (q : ∀ h', StM (s.heap.objs.size + 4) (s.heap.objs.size + 2) (s.heap.objs.size + 3) s.heap.objs.size (s.heap.objs.size + 1) l m 0 h' → (∀ c o, s.heap.get? c = some o → h'.get? c = some o) → Q (.ref (s.heap.objs.size + 4)) { s with heap := h' }) : wpAny (model P w) A (call (.type "zip") [.ref l, .ref m]) Q E s := by
  refine callType_new F.called_zip (by decide) (F.typeCall_zip_2 _ _) (F.newCall_zip_2 _ _) (fun obj => F.args_object_init_3 obj _ _) F.entry_zip_new (meets_new l m xs ys) ⟨h1, h2, ?_⟩
  have up : ∀ (h : Heap) (o : Obj) c u, h.get? c = some u → (h.push o).get? c = some u := fun h o c u e => Heap.get?_push_of_some _ e
  have e1 : (g1 s.heap l).objs.size = s.heap.objs.size + 1 := Heap.size_push ..
  have e2 : (g2 s.heap l m).objs.size = s.heap.objs.size + 2 := by unfold g2; rw [Heap.size_push, e1]
  have e3 : (g3 s.heap l m).objs.size = s.heap.objs.size + 3 := by unfold g3; rw [Heap.size_push, e2]
  have e4 : (g4 s.heap l m).objs.size = s.heap.objs.size + 4 := by unfold g4; rw [Heap.size_push, e3]
  have k5 : (g5 s.heap l m).get? (g4 s.heap l m).objs.size = some { cls := .type "zip", data := .fields #[.none, .bool false, .bool false, .ref (g2 s.heap l m).objs.size, .ref (g3 s.heap l m).objs.size] } := Heap.get?_push_size _ rfl
  have k4 : (g5 s.heap l m).get? (g3 s.heap l m).objs.size = some { cls := .type "tuple", data := .seq #[.none, .none] } := up _ _ _ _ (Heap.get?_push_size _ rfl)
  have k3 : (g5 s.heap l m).get? (g2 s.heap l m).objs.size = some { cls := .type "tuple", data := .seq #[.ref s.heap.objs.size, .ref (g1 s.heap l).objs.size] } := up _ _ _ _ (up _ _ _ _ (Heap.get?_push_size _ rfl))
  have k2 : (g5 s.heap l m).get? (g1 s.heap l).objs.size = some { cls := .type "list_iterator", data := .fields #[.ref m, .int 0 0] } := up _ _ _ _ (up _ _ _ _ (up _ _ _ _ (Heap.get?_push_size _ rfl)))
  have k1 : (g5 s.heap l m).get? s.heap.objs.size = some { cls := .type "tuple_iterator", data := .fields #[.ref l, .int 0 0] } := up _ _ _ _ (up _ _ _ _ (up _ _ _ _ (up _ _ _ _ (Heap.get?_push_size _ rfl))))
  rw [e2, e3, e4] at k5
  rw [e1, e2] at k3
  rw [e3] at k4
  rw [e1] at k2
  rw [e4]
  exact ⟨⟨_, k5, rfl⟩, q _ ⟨k5, k3, ⟨_, _, k4⟩, ⟨_, k1, rfl, rfl⟩, ⟨_, k2, rfl, rfl⟩⟩ fun c o e => up _ _ _ _ (up _ _ _ _ (up _ _ _ _ (up _ _ _ _ (up _ _ _ _ e))))⟩
def iZipN (K : PySem.W.Frag) (ta : TA) : TI := fun σ H R => ta σ H fun vs H1 => ∃ a b xs ys, vs = [.ref a, .ref b] ∧ SqT K H1 a xs ∧ SqL K H1 b ys ∧ R (Itm K a b) H1
theorem pi_zipN {X : Cx} {e f : Expr} {ta : TA} {p pos tpos : Pos} {elts : List Expr} {kk : Nat} (hg : Gl X "zip") (hm : X.mg "zip" = none) (ha : PA X [e, f] ta) (hs : starEach [e, f] X.env = (false, eval e X.env) :: starEach [f] X.env := by rfl) (hpl : (backTo pos (starEach [f] X.env)).any (·.1) = false := by rfl) : PI X (.Tuple elts kk tpos) (.Call (.Name "zip" p) [e, f] [] pos) (iZipN X.K ta) := by
  constructor
  intro pins s σ H R I h
  refine Call_ (ld_blt I hg hm PyProof.Rows.boot_zip (PyProof.Rows.callWith_type1 (thn (ha.run pos pins s σ H _ I h) fun us s1 ⟨vs, H1, J, r1, a, b, xs, ys, ex, qx, qy, q⟩ => ?_) hs hpl))
  subst ex
  rcases r1 with _ | ⟨r, rr⟩
  rcases rr with _ | ⟨r', rr⟩
  cases rr; cases r; cases r'
  obtain ⟨its, rv, p1, _⟩ := J.tuple qx
  obtain ⟨its2, rv2, p2, _⟩ := J.list qy
  refine callM p1 p2.isList fun h' st hk => wpAny_pyIter_zip st.1 ?_
  have lt2 : b < s1.heap.objs.size := p2.lt
  have lt1 : a < s1.heap.objs.size := Heap.lt_size p1.choose_spec.1
  have fr : ∀ n, FpOk X pins H1 (s1.heap.objs.size + n) := fun n => J.fpOk (Nat.le_add_right _ _) (J.hok.fresh (Nat.le_add_right _ _))
  exact ⟨s1.heap.objs.size + 4, _, _, _, H1, rfl, J.kept (t' := s1.toks) hk, turnM (PySem.W.ktu_apart s1.heap.objs.size a b lt1 lt2), st, fun c m => five m (fr 4) (fr 2) (fr 3) (fr 0) (fr 1), q⟩
end ZiN

set_option Elab.async false
set_option linter.all false
set_option maxRecDepth 100000
set_option maxHeartbeats 4000000
/-! Fd45: the last of an own list, stores in it, pieces as lists of one's own, max, zips of a tuple and a list; a def that is handed a lambda and tells what the exception holds. -/
namespace Fd
open PySem PySem.Spec PyProof.Rows L2 PySem.ExS
theorem isL_put {K : PySem.W.Frag} {F : Hp} {d : D} {v : V} : ∀ {xs : List D} {vs : List V} {n : Nat}, IsL K F xs vs → Is K F d v → IsL K F (xs.set n d) (vs.set n v)
  | [], _, _, h, _ => by cases (show _ = _ from h); exact rfl
  | x :: xs, _, 0, h, g => by obtain ⟨u, r, rfl, h1, h2⟩ := h; exact ⟨v, r, rfl, g, h2⟩
  | x :: xs, _, n + 1, h, g => by obtain ⟨u, r, rfl, h1, h2⟩ := h; exact ⟨u, _, rfl, h1, isL_put h2 g⟩
section
variable {T : List (Addr × Str)} {X : Cx} {ss : SS} {o e e1 e2 tg : Expr} {x : Str} {d : D} {xs ys : List D} {P : Post} {p pos apos p2 tpos kp : Pos} {elts : List Expr} {kk : Nat} {i : Int}
/-- x[-1], x a list of one's own -/
theorem ev_lastO {k0 : Nat} (j : Nat) (hx : ss[j]? = some (.own (xs ++ [d]))) (hp : PE X (.Name x p) (tVar j) := by exact pv _) : EV T X (.Subscript (.Name x p) (.UnaryOp .USub (.Constant (.int 1) k0 apos) p2) pos) ss d :=
  EV.of (pe_ix ix_list hp (pe_un un_neg pe_int) (fun _ _ => rfl)) fun B F H σ Q R q => by
    have hj : j < ss.length := (List.getElem?_eq_some_iff.mp hx).1
    have hs : j < σ.length := by rw [R.len]; exact hj
    obtain ⟨l, vs, q1, q2, q3, q4⟩ := R.slots j _ _ hx (List.getElem?_eq_getElem hs)
    have hl : vs.length = xs.length + 1 := by rw [q4.length]; simp
    obtain ⟨v, hv, iv⟩ := IsL.get' q4 (i := xs.length) (x := d) (by simp)
    have ev : vs = vs.take xs.length ++ [v] := by
      refine List.ext_getElem? fun k => ?_
      by_cases h1 : k < xs.length
      · rw [List.getElem?_append_left (by rw [List.length_take]; omega), List.getElem?_take_of_lt h1]
      · by_cases h2 : k = xs.length
        · subst h2
          rw [hv, List.getElem?_append_right (by rw [List.length_take]; omega), List.length_take, Nat.min_eq_left (by omega), Nat.sub_self]; rfl
        · rw [List.getElem?_eq_none (by omega), List.getElem?_eq_none (by rw [List.length_append, List.length_take, List.length_singleton]; omega)]
    refine ⟨.ref l, by rw [List.getElem?_eq_getElem hs, q1], 1, rfl, l, vs, -1, v, rfl, rfl, SqL.of q3, ?_, q v F H R.nx R iv⟩
    rw [ev]; exact atI_last _ _
/-- x[e] = v, x a list of one's own -/
theorem sv_putL {n : Nat} (j : Nat) {px pos' : Pos} (hx : ss[j]? = some (.own xs)) (hv : EV T X o ss d) (ha : EV T X e ss (.int (n : Nat))) (hn : n < xs.length) (k : P.nx (ss.set j (.own (xs.set n d)))) (hp : PE X (.Name x px) (tVar j) := by exact pv _)
    (h1 : swapsWithSole [.Subscript (.Name x px) e pos'] o pos.line X.env = pure false := by rfl) (h2 : swappedStores [.Subscript (.Name x px) e pos'] o X.env = pure none := by rfl) (h3 : (assignEach [.Subscript (.Name x px) e pos'] X.env).map (·.2) = [assign (.Subscript (.Name x px) e pos') X.env] := by rfl)
    (h4 : ∀ v, assign (.Subscript (.Name x px) e pos') X.env v = (do let y ← holding [v] (eval (.Name x px) X.env); let z ← holding [v, y] (eval e X.env); standAt pos'; holding [v, y, z] (setItem y z v); release [v, y, z] []) := by intro _; rfl) :
    SV T X (.Assign [.Subscript (.Name x px) e pos'] o pos) ss P := by
  refine SV.of (ps_asg hv (pg_sub hp ha set_list h4) h1 h2 h3) fun B F H σ Dn R g => ev_go R fun v F1 H1 n1 R1 i1 => ?_
  have hj : j < ss.length := (List.getElem?_eq_some_iff.mp hx).1
  have hs : j < σ.length := by rw [R.len]; exact hj
  obtain ⟨l, vs, q1, q2, q3, q4⟩ := R1.slots j _ _ hx (List.getElem?_eq_getElem hs)
  have hσ : σ[j]? = some (some (.ref l)) := by rw [List.getElem?_eq_getElem hs, q1]
  refine ⟨.ref l, hσ, ev_go R1 fun u F2 H2 n2 R2 i2 => ?_⟩
  obtain ⟨l', us, w1, w2, w3, w4⟩ := R2.slots j _ _ hx (List.getElem?_eq_getElem hs)
  rw [q1] at w1
  cases w1
  have hix : ixN us.length (n : Int) = some n := by
    unfold ixN
    rw [if_pos (by omega), if_pos (by rw [w4.length]; omega)]; simp
  refine ⟨l, us, (n : Int), n, rfl, i2, w3, hix, g.nx _ _ _ _ k (R2.chg hx rfl hσ rfl w2 ⟨l, _, rfl, w2, upd_same, ?_⟩)⟩
  exact isL_put w4 (Is.mono n2.f _ i1)
/-- x = e[lo:hi]: a list of one's own -/
theorem sv_cutO {lo hi : Option Expr} {l u : Option Int} (j : Nat) {px : Pos} (hd : d = .lst xs ∨ d = .rdl xs) (ha : EV T X o ss d) (hl : PV T X lo ss l) (hu : PV T X hi ss u) (k : P.nx (ss.set j (.own (cutD xs l u)))) (hN : X.N.Nodup) (hj : X.N[j]? = some x := by rfl) (hx : Loc X.env.scope x := by first | exact Or.inl rfl | exact Or.inr rfl)
    (hs : swapsWith (.Subscript o (.Slice lo hi none p2) p) (some (.Name x px)) pos.line X.env = pure false := by rfl) (hf : X.fn x = true ∨ X.env.scope.names.lookup x = some .local := by first | exact .inl rfl | exact .inr rfl | assumption) :
    SV T X (.Assign [.Name x px] (.Subscript o (.Slice lo hi none p2) p) pos) ss P :=
  SV.of (ps_set hN hj hx (pe_slice sl_list ha (po_pv hl) (po_pv hu)) hs hf) fun B F H σ Dn R g => ev_go R fun v F1 H1 n1 R1 i1 => by
    refine ⟨B, F1, R1, fun F2 H2 n2 R2 => ⟨B, F2, R2, fun F3 H3 n3 R3 => ?_⟩⟩
    have hh : ∃ a vs, v = .ref a ∧ SqL X.K H3 a vs ∧ IsL X.K F3 xs vs := by
      rcases hd with rfl | rfl
      · obtain ⟨a, vs, rfl, q1, q2⟩ := i1
        exact ⟨a, vs, rfl, SqL.of (R3.sub _ _ ((n2.trans n3).f _ _ q1)), IsL.mono (n2.trans n3).f _ q2⟩
      · obtain ⟨a, vs, rfl, q1, q2⟩ := i1
        exact ⟨a, vs, rfl, ext_seqL ((n2.trans n3).f.trans R3.sub) q1, IsL.mono (n2.trans n3).f _ q2⟩
    obtain ⟨a, vs, rfl, q1, q2⟩ := hh
    exact ⟨a, vs, rfl, q1, fun q hq => g.nx _ _ _ _ k (R3.newOwn hq rfl ⟨q, _, rfl, R3.free hq, upd_same, cut_is l u q2⟩)⟩
/-! max -/
theorem ints_lst {K : PySem.W.Frag} {F : Hp} : ∀ {zs : List Int} {vs : List V}, IsL K F (zs.map D.int) vs → vs = zs.map V.int
  | [], _, h => by cases (show _ = _ from h); rfl
  | z :: zs, _, h => by obtain ⟨v, r, rfl, h1, h2⟩ := h; rw [ints_lst h2, show v = V.int z from h1]; rfl
/-- the greatest one, 0 of none -/
def mx : List Int → Int
  | [] => 0
  | [z] => z
  | z :: zs => max z (mx zs)
theorem mx_in : ∀ {zs : List Int}, zs ≠ [] → mx zs ∈ zs ∧ ∀ y ∈ zs, y ≤ mx zs
  | [], h => absurd rfl h
  | [z], _ => ⟨List.mem_cons_self, fun y hy => by rw [List.mem_singleton.mp hy]; exact Int.le_refl _⟩
  | z :: y :: zs, _ => by
    obtain ⟨h1, h2⟩ := mx_in (zs := y :: zs) (fun q => nomatch q)
    have e : mx (z :: y :: zs) = max z (mx (y :: zs)) := rfl
    rw [e]
    refine ⟨?_, fun w hw => ?_⟩
    · rcases Int.le_total z (mx (y :: zs)) with q | q
      · rw [Int.max_eq_right q]; exact List.mem_cons_of_mem _ h1
      · rw [Int.max_eq_left q]; exact List.mem_cons_self
    · rcases List.mem_cons.mp hw with rfl | hw
      · exact Int.le_max_left _ _
      · exact Int.le_trans (h2 w hw) (Int.le_max_right _ _)
theorem mx_of {zs : List Int} {m : Int} (h1 : m ∈ zs) (h2 : ∀ y ∈ zs, y ≤ m) : m = mx zs := by
  obtain ⟨a, b⟩ := mx_in (zs := zs) (fun q => by rw [q] at h1; cases h1)
  have := b m h1
  have := h2 _ a
  omega
theorem boot_max : bootBuiltins "max" = some (.builtin "max") := by decide +kernel
theorem ev_max {zs : List Int} (hn : zs ≠ []) (ha : EV T X e ss (.lst (zs.map D.int))) (hm : X.mg "max" = none) (hc : X.calm = true := by rfl) (hg : Gl X "max" := by rfl) (hs : starEach [e] X.env = [(false, eval e X.env)] := by rfl) : EV T X (.Call (.Name "max" p) [e] [] pos) ss (.int (mx zs)) :=
  ev_blt (cr_max hc) (evs_cons ha evs_nil hs) hm boot_max (fun B F H σ vs Q R i1 q => by
    obtain ⟨v, rfl, a, us, rfl, q1, q2⟩ := isL1 i1
    obtain rfl := ints_lst q2
    exact ⟨a, zs, rfl, SqL.of (R.sub _ _ q1), List.length_pos_iff.mpr hn, fun m h1 h2 => by rw [mx_of h1 h2]; exact q _ F H R.nx R rfl⟩) hg (he := hs)
theorem ev_maxD {zs : List Int} {j : Nat} {tp : Pos} (ha : EV T X e ss (.lst (zs.map D.int))) (hm : X.mg "max" = none) (hc : X.calm = true := by rfl) (hg : Gl X "max" := by rfl) (hs : starEach [e] X.env = [(false, eval e X.env)] := by rfl)
    (he : backTo pos (starEach [e] X.env) = (false, eval e X.env) :: backTo pos (starEach [] X.env) := by rfl) (hpl : (backTo pos (starEach [e] X.env)).any (·.1) = false := by rfl)
    (hall : (backToKw pos (keywordEach [⟨some "default", .Constant (.int 0) j tp, kp⟩] X.env)).all (·.1.isSome) = true := by rfl) (hnone : (backToKw pos (keywordEach [⟨some "default", .Constant (.int 0) j tp, kp⟩] X.env)).any (·.1.isNone) = false := by rfl) (hks : (backToKw pos (keywordEach [⟨some "default", .Constant (.int 0) j tp, kp⟩] X.env)).filterMap (·.1) = [Str.ofString "default"] := by rfl) :
    EV T X (.Call (.Name "max" p) [e] [⟨some "default", .Constant (.int 0) j tp, kp⟩] pos) ss (.int (mx zs)) :=
  EV.of (pe_callBK (MaxD.ck_max hc) hg hm boot_max (evs_cons ha evs_nil hs) (pk_cons pe_int pk_nil) (by decide) (by decide) he hpl hall hnone hks) fun B F H σ Q R q => evs_go R fun vs F1 H1 n1 R1 i1 => by
    obtain ⟨v, rfl, a, us, rfl, q1, q2⟩ := isL1 i1
    obtain rfl := ints_lst q2
    exact ⟨.int 0, a, zs, rfl, rfl, SqL.of (R1.sub _ _ q1), fun z => by subst z; exact q _ F1 H1 n1 R1 rfl, fun m h1 h2 => by rw [mx_of h1 h2]; exact q _ F1 H1 n1 R1 rfl⟩
/-! zips -/
theorem iv_zipTL (ha : EV T X e ss (.tup xs)) (hb : EV T X e2 ss (.lst ys)) (hm : X.mg "zip" = none) (hg : Gl X "zip" := by rfl) (hs : starEach [e, e2] X.env = (false, eval e X.env) :: starEach [e2] X.env := by rfl) (hs2 : starEach [e2] X.env = [(false, eval e2 X.env)] := by rfl)
    (hpl : (backTo pos (starEach [e2] X.env)).any (·.1) = false := by rfl) : IV T X (.Tuple elts kk tpos) (.Call (.Name "zip" p) [e, e2] [] pos) ss (zips xs ys) :=
  IV.of (ZiN.pi_zipN hg hm (evs_cons ha (evs_cons hb evs_nil hs2) hs) hs hpl) fun B F H σ R R0 q => evs_go R0 fun vs F1 H1 n1 R1 i1 => by
    obtain ⟨v, w, rfl, ⟨a, us, rfl, a1, a2⟩, ⟨b, ws, rfl, b1, b2⟩⟩ := isL2 i1
    refine ⟨a, b, us, ws, rfl, ext_seqT R1.sub a1, SqL.of (R1.sub _ _ b1), q _ F1 H1 n1 R1 ⟨fun i F H x1 x2 hi => ?_, fun F H x1 x2 => ?_⟩⟩
    · rw [zips_len] at hi
      have sa : SqT X.K H a us := ext_seqT (x1.trans x2) a1
      have sb : SqL X.K H b ws := SqL.of (x2 _ _ (x1 _ _ b1))
      obtain ⟨v, hv, iv⟩ := IsL.get' a2 (List.getElem?_eq_getElem (show i < xs.length by omega))
      obtain ⟨u, hu, iu⟩ := IsL.get' b2 (List.getElem?_eq_getElem (show i < ys.length by omega))
      refine ⟨⟨us, ws, v, u, sa, sb, hv, hu⟩, fun x H' y => ?_⟩
      obtain ⟨T, v', u', rfl, hT, rfl, g1, g2⟩ := y
      have e1 := g1 us sa
      have e2 := g2 ws sb
      rw [hv] at e1; rw [hu] at e2
      cases e1; cases e2
      obtain ⟨n, it⟩ := pair_new x2 hT (Is.mono x1 _ iv) (Is.mono x1 _ iu)
      exact ⟨_, _, n, zips_get (List.getElem?_eq_getElem _) (List.getElem?_eq_getElem _), it⟩
    · refine ⟨us, ws, ext_seqT (x1.trans x2) a1, SqL.of (x2 _ _ (x1 _ _ b1)), ?_⟩
      rw [a2.length, b2.length, zips_len]
      omega
end
/-! ### what an exception that a lambda raises holds -/
theorem takes_len {X : Cx} {W : WX} (t : Takes X W) : Takes X (fun c d σ H => σ.length = X.N.length → W c d σ H) := fun u s' ⟨a, B, sI, pins, σ, H, cls, d, e, I, nb, up, sky, na, os, ag, w⟩ =>
  t u s' ⟨a, B, sI, pins, σ, H, cls, d, e, I, nb, up, sky, na, os, ag, w I.len⟩
/-- what such a def makes of the lambda's reading -/
def TTV (C : Addr) (f : Str) : (XK → Hp → VK → Prop) → Hp → VK → Prop := fun tl H Q => tl (fun cls dd H' => ∃ a v, cls = .ref C ∧ dd = some a ∧ H' a = some (.xd [(f, v)]) ∧ Q v H') H (fun _ H' => Q .non H')
theorem holds_gives {X : Cx} {Ng : List Str} {x a e q n f : Str} {sg : Scope} {g C : Addr} {cdg : Value} {j i : Nat} {p1 p2 p3 p4 p5 p6 p7 p8 p9 p10 p11 : Pos} (hge : sg.names.lookup e = some .globalImplicit) (hme : X.mg e = some (.ref C)) (hde : (e == ("__debug__" : Str)) = false)
    (hex : PySem.W.exmOne X.K (.ref C) (.ref C) = some true) (xf : XfC X.K C) (hno : PySem.W.findIn X.K (.ref C) f = some none) (hN : Ng.Nodup) (hi : Ng[i]? = some n) (hln : sg.names.lookup n = some .local) (hd : (n == ("__debug__" : Str)) = false) (hcd : (n == ("__classdict__" : Str)) = false)
    (hb : ∀ (env : Env), attributeBase (.Name n p5) f env (eval (.Name n p5) env) = eval (.Name n p5) env) (h0 : ∀ f : Addr, (L2.start Ng [V.ref f])[0]? = some (some (V.ref f))) :
    LamX.GivesTo X Ng x sg g cdg [.Try [.Expr (.Call (.Name a p1) [] [] p2) p3] [.ExceptHandler (some (.Name e p4)) (some n) [.Return (some (.Attribute (.Name n p5) f p6)) p7] p8] [] [] p9, .Return (some (.Constant .none j p10)) p11] a q (TTV C f) := by
  intro fa cc s H Q tl act hc h
  refine ⟨_, pss_cons (ps_try_as (c := .ref C) (i := i) (Wout := fun _ _ _ _ => False)
    (tb := fun W D σ HZ => ∃ Ech : XK, (∀ cls d σ' H', Ech cls d H' → σ'.length = Ng.length → W cls d σ' H') ∧ σ[0]? = some (some (.ref fa)) ∧ HZ cc = some (LamX.CodeO cc q) ∧ tl Ech HZ fun _ H1 => D.nx σ H1)
    rfl rfl hN hi hln ⟨hge, hde, .inl hme⟩ LamX.takes0 (fun W pn xe tk _ => ?_) (fun b oe cls d pn hz hfl => pss_one (ps_ret (pe_xf xf hno hz hfl (pe_var hi (.inl hln) hd hcd) (hb _))))) (pss_one (ps_ret pe_non)), ?_⟩
  · refine ⟨fun pins s' σ HZ D I hq => ?_⟩
    obtain ⟨Ech, hW, h1, h2, h3⟩ := hq
    exact (pss_one (ps_expr (pos := p3) (act (fun c d σ H => σ.length = Ng.length → W c d σ H) pn xe Ech p1 p2 (takes_len tk) hW))).run pins s' σ HZ D I ⟨h1, h2, h3⟩
  · refine ⟨fun cls dd H' => ∃ a v, cls = .ref C ∧ dd = some a ∧ H' a = some (.xd [(f, v)]) ∧ Q v H', fun cls d σ' H' ⟨a0, v, e1, e2, e3, e4⟩ hl => ?_, h0 fa, hc, h⟩
    subst e1; subst e2
    refine ⟨true, hex, fun _ b hb => ?_, fun z => nomatch z⟩
    have hil : i < σ'.length := by rw [hl]; exact (List.getElem?_eq_some_iff.mp hi).1
    exact ⟨.ref b, List.getElem?_set_self hil, rfl, rfl, a0, _, v, rfl, e3, by simp, e4⟩
section
variable {T : List (Addr × Str)} {X : Cx} {ss : SS} {e o : Expr} {es : List Expr} {d : D} {ds : List D} {p pos apos lpos : Pos} {k nn : Nat} {C CC cA P : Addr} {x a f m : Str} {st : Stmt} {g : Addr} {fdg : FuncData} {cdg : Value} {Ng : List Str} {params : Arguments} {body : Expr} {scope : Scope} {E : XK} {pre : List D → D → Prop} {ns : List Str} {xs : List D}
/-- o.m(..), in the runs in which it raises C with d -/
theorem xe_meth {pl : Sem Bool} (ho : EV T X o ss (.ins CC ns xs)) (cl : Cls X.K CC) (nm : m ∉ ns) (G : OwnE T X.prog X.w X.K X.mg X.base CC m C f nn k pre) (hx : Passes (L2.CX X.prog X.w) X E) (hr : Room k X.A) (ha : EVs T X (e :: es) ss ds) (hp : pre (.ins CC ns xs :: ds) d) (hn : ds.length + 1 = nn := by rfl)
    (he : starEach (e :: es) X.env = (false, eval e X.env) :: starEach es X.env := by rfl) (hpl : (backTo pos (starEach es X.env)).any (·.1) = false := by rfl)
    (ht : eval (.Call (.Attribute o m apos) (e :: es) [] pos) X.env = (do
      let ov ← eval o X.env
      standAt apos.atName
      let (g, first) ← holding [ov] (getMethod ov m pl)
      callWith pos g first (backTo pos (starEach (e :: es) X.env)) (backToKw pos (keywordEach [] X.env))) := by rfl) : XE' T X (.Call (.Attribute o m apos) (e :: es) [] pos) ss C f d E := by
  obtain ⟨g, fd, ps, h1, h2, h3⟩ := G.ex
  refine PE.imp (pe_meth ho cl h1 h2 hr h3 .nil hx ha he hpl ht) fun σ H Q ⟨B, F, R, q⟩ => ev_go R fun v F1 H1 n1 R1 i1 => ?_
  obtain ⟨y, dx, fs, rfl, e1, e2, e3⟩ := id i1
  refine ⟨y, dx, fs, rfl, R1.sub _ _ e1, no_lookup (by rw [e2]; exact nm), evs_go R1 fun us F2 H2 n2 R2 i2 => ?_⟩
  rw [List.append_nil]
  exact ⟨F2, _, d, R2.sub, R2.nt, R2.tb, IsL.cons (Is.mono n2.f _ i1) i2, hn, hp, fun a v F3 H3 n3 h6 h7 h8 i3 => q a v F3 H3 ((n1.trans n2).trans n3) h6 h7 ((n1.trans n2).h.fr h8) i3⟩
/-- x(lambda: body), x a def that tells what the exception holds -/
theorem ev_lamV (FG : FunZ X.K x x st g fdg cdg) (hm : X.mg x = some (.ref g)) (hb : Binds X.K fdg [a] []) (Sg : FnScope Ng [a] (defScope st)) (hNg : Ng[0]? = some a) (hva : Vis (defScope st) a)
    (hG : LamX.GivesTo X Ng x (defScope st) g cdg (defBody st) a (X.env.qual ++ "<lambda>") (TTV C f)) (TB : LamX.TabB X.base X.mg cA P) (hcode : X.env.code = .ref cA) (hmT : (P, X.env.qual ++ "<lambda>") ∈ T) (hu : ∀ p ∈ T, p.1 = P → p.2 = X.env.qual ++ "<lambda>")
    (hr : Room (k + 2) X.A) (L : LamX.LamS X.env.scope scope) (hdef : defaultsOf params X.env = ([], [])) (hbind : ∀ (q : Str) (cl : List (Str × Addr)) (pm cv ctv : Value), bindArgs (PySem.W.kla_fn "<lambda>" q params body scope cl pm cv ctv) ⟨[], []⟩ = pure [])
    (hbody : ∀ (A : Around) (outer : List Env) (s : Shared) (H : Hp) (E : XK) (f' cc : Addr), Room k (A.deeper (LamX.lamEnv X scope s.heap.objs.size f' cc)) → Passes (L2.CX X.prog X.w) (LamX.lamCx X A outer s H E scope f' cc) E → XE' T (LamX.lamCx X A outer s H E scope f' cc) body ss C f d E)
    (hg : Gl X x := by rfl) (hdb : (x == ("__debug__" : Str)) = false := by decide) (hd : (a == ("__debug__" : Str)) = false := by decide) (hcd : (a == ("__classdict__" : Str)) = false := by decide) : EV T X (.Call (.Name x p) [.Lambda params body scope lpos] [] pos) ss d := by
  obtain ⟨oc, od, dV, kV, doc, pm, an, ct, osl, rfl, lk, hcg⟩ := FG.ex
  refine EV.of (LamX.pe_lamcall (T := T) (TT := TTV C f) (t := fun E σ H _ => ∃ B F, StR T X.K B F H σ ss ∧ JE T X.K (F, H) C f d E) hg hm FG.kp lk hcg hb Sg hNg hva hG TB hcode hmT hu hr L hdef hbind (fun A outer s H E f' cc hr2 => ?_) hdb hd hcd) fun B F H σ Q R q => ⟨R.tb, fun H1 e t => ?_⟩
  · have tk : Takes (LamX.lamCx X A outer s H E scope f' cc) (fun cls d _ H => E cls d H) := takes_of rfl rfl rfl rfl
    exact hbody A outer s H E f' cc hr2 (passes_call tk fun _ _ _ _ h => h)
  · have n1 := R.gr (exN_gr e t)
    have R1 := R.grow n1
    refine ⟨B, F, R1, fun a v F2 H2 n2 h6 h7 h8 i2 => ⟨a, v, rfl, rfl, h6, ?_⟩⟩
    exact q v F2 H2 (n1.trans n2) (R1.grow n2) i2
end
end Fd

set_option Elab.async false
set_option linter.all false
set_option maxRecDepth 100000
set_option maxHeartbeats 4000000
/-! K42a: the defs of the text; numbers. -/
namespace K42
open PySem PySem.Spec PyProof.Rows L2 Fd
def pT : Pos := ⟨0, 0, 0, 0⟩
def top (i : Nat) : Stmt := PySem.Challenge.pw_everylist_k42_values_of_polys.main.body.getD i (.Pass pT)
def inCls (st : Stmt) (j : Nat) : Stmt := match st with
  | .ClassDef _ _ _ body _ _ _ _ _ _ _ => body.getD j (.Pass pT)
  | s => s
def sIsInt : Stmt := top 5
def sIsName : Stmt := top 6
def sIsNum : Stmt := top 15
def sTopOf : Stmt := top 16
def sBotOf : Stmt := top 17
def sPlain : Stmt := top 19
def sIsPN : Stmt := top 28
def sIsTerm : Stmt := top 29
def sOne : Stmt := top 30
def sProd : Stmt := top 32
def sPows : Stmt := top 33
def sVal : Stmt := top 34
def sCell : Stmt := top 36
def sRow : Stmt := top 37
def sGcd : Stmt := top 38
def sLow : Stmt := top 39
def sLadd : Stmt := top 40
def sLtim : Stmt := top 41
def sLint : Stmt := top 42
def sLpl : Stmt := top 43
def sMade : Stmt := top 44
def sFields : Stmt := top 45
def sTerms : Stmt := top 46
def sKept : Stmt := top 47
def sHand : Stmt := top 48
def sLpow : Stmt := top 49
def sLval : Stmt := top 50
def sCount : Stmt := top 51
def sLaw : Stmt := top 52
def sRInit : Stmt := inCls (top 14) 0
def sRAdd : Stmt := inCls (top 14) 1
def sRRadd : Stmt := inCls (top 14) 2
def sRMul : Stmt := inCls (top 14) 5
def sRRmul : Stmt := inCls (top 14) 6
def sREq : Stmt := inCls (top 14) 9
def sPInit : Stmt := inCls (top 27) 0
def sPMul : Stmt := inCls (top 27) 5
def sPAt : Stmt := inCls (top 27) 11
def sPPower : Stmt := inCls (top 27) 12
def sPTerms : Stmt := inCls (top 27) 14
def sWCInit : Stmt := inCls (top 12) 0
/-- the divisor that __init__ divides by -/
def dv (t b : Int) : Int := if b < 0 then -((Nat.gcd t.natAbs b.natAbs : Nat) : Int) else ((Nat.gcd t.natAbs b.natAbs : Nat) : Int)
def rF (t b : Int) : List D := [.int (t.fdiv (dv t b)), .int (b.fdiv (dv t b))]
def rN : List Str := ["top", "bottom"]
def pInitR (ds : List D) (ns : List Str) (xs : List D) : Prop := ∃ t b : Int, ds = [.int t, .int b] ∧ b ≠ 0 ∧ b.natAbs.log2 < 9000 ∧ ns = rN ∧ xs = rF t b
theorem scInitR : FnScope ["self", "top", "bottom", "divisor"] ["self", "top", "bottom"] (defScope sRInit) := ⟨rfl, rfl, rfl, by decide +kernel, rfl, by decide +kernel, by decide +kernel⟩
theorem dv_ok {t b : Int} (hb : b ≠ 0) (hl : b.natAbs.log2 < 9000) : dv t b ≠ 0 ∧ (dv t b).natAbs.log2 < 9000 := by
  have g0 : Nat.gcd t.natAbs b.natAbs ≠ 0 := fun z => hb (by have := Nat.eq_zero_of_gcd_eq_zero_right z; omega)
  have gl : Nat.gcd t.natAbs b.natAbs ≤ b.natAbs := Nat.le_of_dvd (by omega) (Nat.gcd_dvd_right _ _)
  have e : (dv t b).natAbs = Nat.gcd t.natAbs b.natAbs := by unfold dv; split <;> omega
  refine ⟨fun z => g0 (by rw [← e, z]; rfl), ?_⟩
  rw [e]
  refine Nat.lt_of_le_of_lt ?_ hl
  rw [Nat.le_log2 (by omega)]
  exact Nat.le_trans ((Nat.le_log2 g0).mp (Nat.le_refl _)) gl
section
variable {T : List (Addr × Str)} {P : Program} {w : World} {K : PySem.W.Frag} {mg : Str → Option Value} {base : Heap} {C f : Addr} {fd : FuncData}
theorem ok_initR {cdv : Value} (F : FunZ K "__init__" "Ratio.__init__" sRInit f fd cdv) (cl : Cls K C) (nt : NoAttr K C "top") (nb : NoAttr K C "bottom") (hg : mg "gcd" = some (.builtin "math.gcd")) : FnOk P w K mg base CX0 1 f fd ["self", "top", "bottom"] (spM T K C 2 pInitR) := by
  refine init_ok F scInitR rfl fun A outer s H E p ds ns xs hr _ ⟨t, b, e1, hb, hl, e2, e3⟩ => ?_
  subst e1; subst e2; subst e3
  obtain ⟨h1, h2⟩ := dv_ok (t := t) hb hl
  refine svs_cons (sv_if (TV.cast (tv_eqI (ev_var 2 rfl) ev_int) (decide_eq_false hb)) (fun z => nomatch z) (fun _ => svs_nil ?_))
  refine svs_cons (sv_set 3 (ev_gcd (ev_var 1 rfl) (ev_var 2 rfl) hg) ?_ scInitR.nd)
  refine svs_cons (sv_if (tv_lt (ev_var 2 rfl) ev_int) (fun z => ?_) (fun z => ?_))
  · have hneg : b < 0 := by simpa using z
    have ed : dv t b = -((Nat.gcd t.natAbs b.natAbs : Nat) : Int) := if_pos hneg
    refine svs_one (sv_set 3 (d := .int (dv t b)) (EV.cast (ev_neg (ev_var 3 rfl)) (by rw [ed])) ?_ scInitR.nd)
    refine svs_cons (sv_fldO 0 rfl (ev_fdivX ⟨h1, h2⟩ (ev_var 1 rfl) (ev_var 3 rfl)) ?_ cl nt (by decide) (by decide))
    exact svs_one (sv_fldO 0 rfl (ev_fdivX ⟨h1, h2⟩ (ev_var 2 rfl) (ev_var 3 rfl)) rfl cl nb (by decide) (by decide))
  · have hpos : ¬ b < 0 := by simpa using z
    have ed : dv t b = ((Nat.gcd t.natAbs b.natAbs : Nat) : Int) := if_neg hpos
    refine svs_nil ?_
    rw [← ed]
    refine svs_cons (sv_fldO 0 rfl (ev_fdivX ⟨h1, h2⟩ (ev_var 1 rfl) (ev_var 3 rfl)) ?_ cl nt (by decide) (by decide))
    exact svs_one (sv_fldO 0 rfl (ev_fdivX ⟨h1, h2⟩ (ev_var 2 rfl) (ev_var 3 rfl)) rfl cl nb (by decide) (by decide))
end
def tys : List String := ["int", "bool", "str", "NoneType", "list", "tuple", "dict"]
/-- what the top has made of Ratio and Poly -/
structure Rt (K : PySem.W.Frag) (mg : Str → Option Value) (C PC : Addr) : Prop where
  mgR : mg "Ratio" = some (.ref C)
  ik : InK K C
  nt : NoAttr K C "top"
  nb : NoAttr K C "bottom"
  kI : PySem.W.kitOne K (.ref C) (.type "int") = some false
  kB : PySem.W.kitOne K (.ref C) (.type "bool") = some false
  kO : ∀ T, T ∈ tys → PySem.W.kitOne K (.type T) (.ref C) = some false
  kR : PySem.W.kitOne K (.ref C) (.ref C) = some true
  ikP : InK K PC
  pI : PySem.W.kitOne K (.ref PC) (.type "int") = some false
  pB : PySem.W.kitOne K (.ref PC) (.type "bool") = some false
  pR : PySem.W.kitOne K (.ref PC) (.ref C) = some false
  ne : (PC == C) = false
  bIs : mg "isinstance" = none
  bInt : mg "int" = none
  bBool : mg "bool" = none
/-- a Ratio as it stands -/
def rat (C : Addr) (t b : Int) : D := .ins C rN [.int t, .int b]
/-- a thing that the numbers' helpers are asked of -/
def Th (C PC : Addr) (x : D) : Prop := (∃ t b, x = rat C t b) ∨ (∃ ns xs, x = .ins PC ns xs) ∨ (∃ T, T ∈ tys ∧ x.ty? = some (.type T) ∧ (match x with | .rdl _ => False | .ins _ _ _ => False | _ => True))
def isI : D → Bool
  | .int _ => true
  | _ => false
def isN (C : Addr) : D → Bool
  | .int _ => true
  | .ins D' _ _ => D' == C
  | _ => false
theorem Th.cls {K : PySem.W.Frag} {mg : Str → Option Value} {C PC : Addr} {x : D} (h : Th C PC x) (R : Rt K mg C PC) : x.cls K := by
  rcases h with ⟨t, b, rfl⟩ | ⟨ns, xs, rfl⟩ | ⟨T, _, h1, h2⟩
  · exact R.ik
  · exact R.ikP
  · cases x <;> first | trivial | exact h2.elim
theorem kit_int : ∀ T, T ∈ tys → kitB T "int" = some (T == "int" || T == "bool") ∧ kitB T "bool" = some (T == "bool") := by decide +kernel
theorem Th.ty {K : PySem.W.Frag} {mg : Str → Option Value} {C PC : Addr} {x : D} (h : Th C PC x) (R : Rt K mg C PC) : ∃ t b1 b2 b3, x.ty? = some t ∧ PySem.W.kitOne K t (.type "int") = some b1 ∧ PySem.W.kitOne K t (.type "bool") = some b2 ∧ PySem.W.kitOne K t (.ref C) = some b3 ∧ (b1 && !b2) = isI x ∧ (isI x || b3) = isN C x := by
  rcases h with ⟨t, b, rfl⟩ | ⟨ns, xs, rfl⟩ | ⟨T, hT, h1, h2⟩
  · exact ⟨_, _, _, _, rfl, R.kI, R.kB, R.kR, rfl, by simp [isN, isI, rat]⟩
  · exact ⟨_, _, _, _, rfl, R.pI, R.pB, R.pR, rfl, by rw [show isN C (.ins PC ns xs) = (PC == C) from rfl, R.ne]; rfl⟩
  · obtain ⟨k1, k2⟩ := kit_int T hT
    refine ⟨_, _, _, _, h1, kit_ty k1, kit_ty k2, R.kO T hT, ?_⟩
    cases x <;> simp [D.ty?] at h1 <;> first | exact h2.elim | (subst h1; simp [isI, isN])
def pIsInt (C PC : Addr) (ds : List D) (d : D) : Prop := ∃ x, ds = [x] ∧ Th C PC x ∧ d = .bl (isI x)
def pIsNum (C PC : Addr) (ds : List D) (d : D) : Prop := ∃ x, ds = [x] ∧ Th C PC x ∧ d = .bl (isN C x)
/-- a number -/
def Nu (C : Addr) (x : D) (t b : Int) : Prop := (x = .int t ∧ b = 1) ∨ x = rat C t b
theorem Nu.th {C PC : Addr} {x : D} {t b : Int} (h : Nu C x t b) : Th C PC x := by
  rcases h with ⟨rfl, rfl⟩ | rfl
  · exact .inr (.inr ⟨"int", by decide, rfl, trivial⟩)
  · exact .inl ⟨t, b, rfl⟩
def pTop (C : Addr) (ds : List D) (d : D) : Prop := ∃ x t b, ds = [x] ∧ Nu C x t b ∧ d = .int t
def pBot (C : Addr) (ds : List D) (d : D) : Prop := ∃ x t b, ds = [x] ∧ Nu C x t b ∧ d = .int b
def plainD (C : Addr) (x : D) (t b : Int) : D := if b = 1 then .int t else x
def pPlain (C : Addr) (ds : List D) (d : D) : Prop := ∃ x t b, ds = [x] ∧ Nu C x t b ∧ d = plainD C x t b
theorem scIsInt : FnScope ["thing"] ["thing"] (defScope sIsInt) := ⟨rfl, rfl, rfl, by decide +kernel, rfl, by decide +kernel, by decide +kernel⟩
theorem scIsNum : FnScope ["thing"] ["thing"] (defScope sIsNum) := ⟨rfl, rfl, rfl, by decide +kernel, rfl, by decide +kernel, by decide +kernel⟩
theorem scTop : FnScope ["number"] ["number"] (defScope sTopOf) := ⟨rfl, rfl, rfl, by decide +kernel, rfl, by decide +kernel, by decide +kernel⟩
theorem scBot : FnScope ["number"] ["number"] (defScope sBotOf) := ⟨rfl, rfl, rfl, by decide +kernel, rfl, by decide +kernel, by decide +kernel⟩
theorem scPlain : FnScope ["number"] ["number"] (defScope sPlain) := ⟨rfl, rfl, rfl, by decide +kernel, rfl, by decide +kernel, by decide +kernel⟩
section
variable {T : List (Addr × Str)} {P : Program} {w : World} {K : PySem.W.Frag} {mg : Str → Option Value} {base : Heap} {C PC f : Addr} {fd : FuncData}
theorem ok_isInt (F : Fun K "is_int" "is_int" sIsInt f fd) (R : Rt K mg C PC) : FnOk P w K mg base CX0 1 f fd ["thing"] (spD T K 1 (pIsInt C PC)) := by
  refine fd_ok F scIsInt rfl fun cdv A outer s H E ds d hr _ ⟨x, e1, hx, e2⟩ => ?_
  subst e1; subst e2
  obtain ⟨t, b1, b2, b3, k1, k2, k3, k4, k5, k6⟩ := hx.ty R
  exact svs_one (sv_ret (EV.cast (ev_andB (ev_isT (ev_var 0 rfl) k1 (hx.cls R) k2 R.bInt (by decide +kernel) R.bIs) fun _ => ev_one (ev_not (ev_isT (ev_var 0 rfl) k1 (hx.cls R) k3 R.bBool (by decide +kernel) R.bIs))) (by rw [k5])) rfl)
theorem ok_isNum (F : Fun K "is_number" "is_number" sIsNum f fd) (R : Rt K mg C PC) (G : FD T P w K mg base "is_int" 1 1 (pIsInt C PC)) : FnOk P w K mg base CX0 2 f fd ["thing"] (spD T K 1 (pIsNum C PC)) := by
  refine fd_ok F scIsNum rfl fun cdv A outer s H E ds d hr _ ⟨x, e1, hx, e2⟩ => ?_
  subst e1; subst e2
  obtain ⟨t, b1, b2, b3, k1, k2, k3, k4, k5, k6⟩ := hx.ty R
  exact svs_one (sv_ret (EV.cast (ev_orB (ev_call G hr (evs_cons (ev_var 0 rfl) evs_nil) ⟨x, rfl, hx, rfl⟩) fun _ => ev_one (ev_isO (ev_var 0 rfl) k1 (hx.cls R) k4 R.mgR R.bIs)) (by rw [k6])) rfl)
theorem nu_isO {C PC : Addr} {x : D} {t b : Int} (h : Nu C x t b) (R : Rt K mg C PC) : (∃ ty, x.ty? = some ty ∧ PySem.W.kitOne K ty (.ref C) = some false ∧ x = .int t ∧ b = 1) ∨ (x.ty? = some (.ref C) ∧ PySem.W.kitOne K (.ref C) (.ref C) = some true ∧ x = rat C t b) := by
  rcases h with ⟨rfl, rfl⟩ | rfl
  · exact .inl ⟨_, rfl, R.kO "int" (by decide), rfl, rfl⟩
  · exact .inr ⟨rfl, R.kR, rfl⟩
theorem ok_top (F : Fun K "top_of" "top_of" sTopOf f fd) (R : Rt K mg C PC) : FnOk P w K mg base CX0 1 f fd ["number"] (spD T K 1 (pTop C)) := by
  refine fd_ok F scTop rfl fun cdv A outer s H E ds d hr _ ⟨x, t, b, e1, hx, e2⟩ => ?_
  subst e1; subst e2
  have hc := (hx.th (PC := PC)).cls R
  rcases nu_isO hx R with ⟨ty, k1, k2, e, e'⟩ | ⟨k1, k2, e⟩
  · subst e
    exact svs_one (sv_ret (ev_if (t := false) (tv_of (ev_isO (ev_var 0 rfl) k1 hc k2 R.mgR R.bIs)) (fun z => nomatch z) fun _ => ev_var 0 rfl) rfl)
  · subst e
    exact svs_one (sv_ret (ev_if (t := true) (tv_of (ev_isO (ev_var 0 rfl) k1 hc k2 R.mgR R.bIs)) (fun _ => ev_fld (ev_var 0 rfl) R.ik.cl R.nt 0 rfl rfl (by decide)) fun z => nomatch z) rfl)
theorem ok_bot (F : Fun K "bottom_of" "bottom_of" sBotOf f fd) (R : Rt K mg C PC) : FnOk P w K mg base CX0 1 f fd ["number"] (spD T K 1 (pBot C)) := by
  refine fd_ok F scBot rfl fun cdv A outer s H E ds d hr _ ⟨x, t, b, e1, hx, e2⟩ => ?_
  subst e1; subst e2
  have hc := (hx.th (PC := PC)).cls R
  rcases nu_isO hx R with ⟨ty, k1, k2, e, e'⟩ | ⟨k1, k2, e⟩
  · subst e; subst e'
    exact svs_one (sv_ret (ev_if (t := false) (tv_of (ev_isO (ev_var 0 rfl) k1 hc k2 R.mgR R.bIs)) (fun z => nomatch z) fun _ => ev_int) rfl)
  · subst e
    exact svs_one (sv_ret (ev_if (t := true) (tv_of (ev_isO (ev_var 0 rfl) k1 hc k2 R.mgR R.bIs)) (fun _ => ev_fld (ev_var 0 rfl) R.ik.cl R.nb 1 rfl rfl (by decide)) fun z => nomatch z) rfl)
theorem ok_plain (F : Fun K "plain" "plain" sPlain f fd) (R : Rt K mg C PC) : FnOk P w K mg base CX0 1 f fd ["number"] (spD T K 1 (pPlain C)) := by
  refine fd_ok F scPlain rfl fun cdv A outer s H E ds d hr _ ⟨x, t, b, e1, hx, e2⟩ => ?_
  subst e1; subst e2
  have hc := (hx.th (PC := PC)).cls R
  rcases nu_isO hx R with ⟨ty, k1, k2, e, e'⟩ | ⟨k1, k2, e⟩
  · subst e; subst e'
    refine svs_cons (sv_if (t := false) (TW.tv (tw_andB (t := false) (u := false) (tv_of (ev_isO (ev_var 0 rfl) k1 hc k2 R.mgR R.bIs)) (fun z => nomatch z))) (fun z => nomatch z) (fun _ => svs_nil (svs_one (sv_ret (ev_var 0 rfl) rfl))))
  · subst e
    refine svs_cons (sv_if (t := decide (b = 1)) (TV.cast (TW.tv (tw_andB (tv_of (ev_isO (ev_var 0 rfl) k1 hc k2 R.mgR R.bIs)) fun _ => tw_and1 (tv_eqI (ev_fld (ev_var 0 rfl) R.ik.cl R.nb 1 rfl rfl (by decide)) ev_int))) (by simp)) (fun z => ?_) (fun z => ?_))
    · refine svs_one (sv_ret (ev_fld (ev_var 0 rfl) R.ik.cl R.nt 0 rfl rfl (by decide)) ?_)
      show D.int t = plainD C _ t b
      rw [plainD, if_pos (of_decide_eq_true z)]
    · refine svs_nil (svs_one (sv_ret (ev_var 0 rfl) ?_))
      show rat C t b = plainD C _ t b
      rw [plainD, if_neg (of_decide_eq_false z)]
end
def Sm (t : Int) : Prop := t.natAbs < 2 ^ 4400
theorem sm_mul {a b : Int} (ha : Sm a) (hb : Sm b) : CMulW a b := wide_mul ha hb (by decide) (by decide) (by decide)
theorem sm_log {a : Int} (ha : a.natAbs < 2 ^ 8900) : a.natAbs.log2 < 9000 := Nat.lt_of_lt_of_le (PySem.Flt.log2_lt_of (by decide) ha) (by decide)
theorem sm_log1 {a : Int} (ha : Sm a) : a.natAbs.log2 < 9000 := sm_log (Nat.lt_of_lt_of_le ha (Nat.pow_le_pow_right (by decide) (by decide)))
theorem sm_log2 {a b : Int} (ha : Sm a) (hb : Sm b) : (a * b).natAbs.log2 < 9000 := sm_log (Nat.lt_of_lt_of_le (wide_lt ha hb) (Nat.pow_le_pow_right (by decide) (by decide)))
/-- the Ratio t / b as it is made -/
def ratL (C : Addr) (t b : Int) : D := .ins C rN (rF t b)
/-- of a Ratio and a number: g, h the top and the bottom that are made -/
def pBin (C : Addr) (g h : Int → Int → Int → Int → Int) (ds : List D) (d : D) : Prop := ∃ t b y u c, ds = [rat C t b, y] ∧ Nu C y u c ∧ Sm t ∧ Sm b ∧ Sm u ∧ Sm c ∧ h t b u c ≠ 0 ∧ d = ratL C (g t b u c) (h t b u c)
def pRef (C : Addr) (g h : Int → Int → Int → Int) (ds : List D) (d : D) : Prop := ∃ t b j, ds = [rat C t b, .int j] ∧ Sm t ∧ Sm b ∧ Sm j ∧ h t b j ≠ 0 ∧ d = ratL C (g t b j) (h t b j)
def pEq (C PC : Addr) (ds : List D) (d : D) : Prop := ∃ t b y, ds = [rat C t b, y] ∧ Th C PC y ∧ ((isN C y = false ∧ d = .bl false) ∨ ∃ u c, Nu C y u c ∧ d = .bl (decide (t = u) && decide (b = c)))
theorem Nu.isN {C : Addr} {x : D} {t b : Int} (h : Nu C x t b) : isN C x = true := by
  rcases h with ⟨rfl, rfl⟩ | rfl
  · rfl
  · simp [K42.isN, rat]
section
variable {T : List (Addr × Str)} {P : Program} {w : World} {K : PySem.W.Frag} {mg : Str → Option Value} {base : Heap} {C PC f : Addr} {fd : FuncData}
/-- what the methods call -/
structure Env0 (T : List (Addr × Str)) (P : Program) (w : World) (K : PySem.W.Frag) (mg : Str → Option Value) (base : Heap) (C PC : Addr) : Prop where
  R : Rt K mg C PC
  M : MD T P w K mg base "Ratio" C 2 1 pInitR
  N : FD T P w K mg base "is_number" 1 2 (pIsNum C PC)
  Tp : FD T P w K mg base "top_of" 1 1 (pTop C)
  B : FD T P w K mg base "bottom_of" 1 1 (pBot C)
section
variable {T : List (Addr × Str)} {X : Cx} {ss : SS} {e : Expr} {es : List Expr} {a : Expr} {x : D} {t b u c : Int} {p pos pos2 : Pos}
theorem e_top (V : Env0 T X.prog X.w X.K X.mg X.base C PC) (he : EV T X e ss (rat C t b)) (hb : attributeBase e "top" X.env (eval e X.env) = eval e X.env := by rfl) : EV T X (.Attribute e "top" pos) ss (.int t) := ev_fld he V.R.ik.cl V.R.nt 0 rfl rfl (by decide) hb
theorem e_bot (V : Env0 T X.prog X.w X.K X.mg X.base C PC) (he : EV T X e ss (rat C t b)) (hb : attributeBase e "bottom" X.env (eval e X.env) = eval e X.env := by rfl) : EV T X (.Attribute e "bottom" pos) ss (.int b) := ev_fld he V.R.ik.cl V.R.nb 1 rfl rfl (by decide) hb
theorem e_topOf (V : Env0 T X.prog X.w X.K X.mg X.base C PC) (hr : Room 1 X.A) (h : Nu C x u c) (he : EV T X e ss x) (hg : Gl X "top_of" := by rfl) (hs : starEach [e] X.env = [(false, eval e X.env)] := by rfl) : EV T X (.Call (.Name "top_of" p) [e] [] pos) ss (.int u) := ev_call V.Tp hr (evs_cons he evs_nil hs) ⟨x, u, c, rfl, h, rfl⟩ rfl hg (by decide) hs
theorem e_botOf (V : Env0 T X.prog X.w X.K X.mg X.base C PC) (hr : Room 1 X.A) (h : Nu C x u c) (he : EV T X e ss x) (hg : Gl X "bottom_of" := by rfl) (hs : starEach [e] X.env = [(false, eval e X.env)] := by rfl) : EV T X (.Call (.Name "bottom_of" p) [e] [] pos) ss (.int c) := ev_call V.B hr (evs_cons he evs_nil hs) ⟨x, u, c, rfl, h, rfl⟩ rfl hg (by decide) hs
theorem e_ratio (V : Env0 T X.prog X.w X.K X.mg X.base C PC) (hr : Room 2 X.A) (h0 : b ≠ 0) (hl : b.natAbs.log2 < 9000) (he : EV T X e ss (.int t)) (ha : EV T X a ss (.int b)) (hg : Gl X "Ratio" := by rfl) (hs : starEach [e, a] X.env = (false, eval e X.env) :: starEach [a] X.env := by rfl) (hs2 : starEach [a] X.env = [(false, eval a X.env)] := by rfl)
    (hpl : (backTo pos (starEach [a] X.env)).any (·.1) = false := by rfl) : EV T X (.Call (.Name "Ratio" p) [e, a] [] pos) ss (ratL C t b) := ev_make V.M hr (evs_cons he (evs_cons ha evs_nil hs2) hs) ⟨t, b, rfl, h0, hl, rfl, rfl⟩ rfl hg (by decide) hs hpl
theorem t_num (V : Env0 T X.prog X.w X.K X.mg X.base C PC) (hr : Room 2 X.A) (h : Nu C x u c) (he : EV T X e ss x) (hg : Gl X "is_number" := by rfl) (hs : starEach [e] X.env = [(false, eval e X.env)] := by rfl) : TV T X (.UnaryOp .Not (.Call (.Name "is_number" p) [e] [] pos) pos2) ss false :=
  TV.cast (tv_not (tv_of (b := true) (ev_call V.N hr (evs_cons he evs_nil hs) ⟨x, rfl, h.th, by rw [h.isN]⟩ rfl hg (by decide) hs))) rfl
end
theorem scAdd : FnScope ["self", "other"] ["self", "other"] (defScope sRAdd) := ⟨rfl, rfl, rfl, by decide +kernel, rfl, by decide +kernel, by decide +kernel⟩
theorem scRadd : FnScope ["self", "other"] ["self", "other"] (defScope sRRadd) := ⟨rfl, rfl, rfl, by decide +kernel, rfl, by decide +kernel, by decide +kernel⟩
theorem scEq : FnScope ["self", "other"] ["self", "other"] (defScope sREq) := ⟨rfl, rfl, rfl, by decide +kernel, rfl, by decide +kernel, by decide +kernel⟩
theorem scMul : FnScope ["self", "other"] ["self", "other"] (defScope sRMul) := ⟨rfl, rfl, rfl, by decide +kernel, rfl, by decide +kernel, by decide +kernel⟩
theorem scRmul : FnScope ["self", "other"] ["self", "other"] (defScope sRRmul) := ⟨rfl, rfl, rfl, by decide +kernel, rfl, by decide +kernel, by decide +kernel⟩
theorem ok_add (F : Fun K "__add__" "Ratio.__add__" sRAdd f fd) (V : Env0 T P w K mg base C PC) : FnOk P w K mg base CX0 3 f fd ["self", "other"] (spD T K 2 (pBin C (fun t b u c => t * c + u * b) fun t b u c => b * c)) := by
  refine fd_ok F scAdd rfl fun cdv A outer s H E ds d hr _ ⟨t, b, y, u, c, e1, hy, s1, s2, s3, s4, h0, e2⟩ => ?_
  subst e1; subst e2
  have hr1 := hr.mono (show 1 ≤ 2 by decide)
  refine svs_cons (sv_if (t := false) (t_num V hr hy (ev_var 1 rfl)) (fun z => nomatch z) fun _ => svs_nil ?_)
  exact svs_one (sv_ret (e_ratio V hr h0 (sm_log2 s2 s4) (ev_add (ev_mulW (sm_mul s1 s4) (e_top V (ev_var 0 rfl)) (e_botOf V hr1 hy (ev_var 1 rfl))) (ev_mulW (sm_mul s3 s2) (e_topOf V hr1 hy (ev_var 1 rfl)) (e_bot V (ev_var 0 rfl)))) (ev_mulW (sm_mul s2 s4) (e_bot V (ev_var 0 rfl)) (e_botOf V hr1 hy (ev_var 1 rfl)))) rfl)
theorem ok_radd (F : Fun K "__radd__" "Ratio.__radd__" sRRadd f fd) (V : Env0 T P w K mg base C PC) : FnOk P w K mg base CX0 3 f fd ["self", "other"] (spD T K 2 (pRef C (fun t b j => j * b + t) fun t b j => b)) := by
  refine fd_ok F scRadd rfl fun cdv A outer s H E ds d hr _ ⟨t, b, j, e1, s1, s2, s3, h0, e2⟩ => ?_
  subst e1; subst e2
  refine svs_cons (sv_if (t := false) (t_num V hr (.inl ⟨rfl, rfl⟩) (ev_var 1 rfl)) (fun z => nomatch z) fun _ => svs_nil ?_)
  exact svs_one (sv_ret (e_ratio V hr h0 (sm_log1 s2) (ev_add (ev_mulW (sm_mul s3 s2) (ev_var 1 rfl) (e_bot V (ev_var 0 rfl))) (e_top V (ev_var 0 rfl))) (e_bot V (ev_var 0 rfl))) rfl)
theorem ok_mul (F : Fun K "__mul__" "Ratio.__mul__" sRMul f fd) (V : Env0 T P w K mg base C PC) : FnOk P w K mg base CX0 3 f fd ["self", "other"] (spD T K 2 (pBin C (fun t b u c => t * u) fun t b u c => b * c)) := by
  refine fd_ok F scMul rfl fun cdv A outer s H E ds d hr _ ⟨t, b, y, u, c, e1, hy, s1, s2, s3, s4, h0, e2⟩ => ?_
  subst e1; subst e2
  have hr1 := hr.mono (show 1 ≤ 2 by decide)
  refine svs_cons (sv_if (t := false) (t_num V hr hy (ev_var 1 rfl)) (fun z => nomatch z) fun _ => svs_nil ?_)
  exact svs_one (sv_ret (e_ratio V hr h0 (sm_log2 s2 s4) (ev_mulW (sm_mul s1 s3) (e_top V (ev_var 0 rfl)) (e_topOf V hr1 hy (ev_var 1 rfl))) (ev_mulW (sm_mul s2 s4) (e_bot V (ev_var 0 rfl)) (e_botOf V hr1 hy (ev_var 1 rfl)))) rfl)
theorem ok_rmul (F : Fun K "__rmul__" "Ratio.__rmul__" sRRmul f fd) (V : Env0 T P w K mg base C PC) : FnOk P w K mg base CX0 3 f fd ["self", "other"] (spD T K 2 (pRef C (fun t b j => j * t) fun t b j => b)) := by
  refine fd_ok F scRmul rfl fun cdv A outer s H E ds d hr _ ⟨t, b, j, e1, s1, s2, s3, h0, e2⟩ => ?_
  subst e1; subst e2
  refine svs_cons (sv_if (t := false) (t_num V hr (.inl ⟨rfl, rfl⟩) (ev_var 1 rfl)) (fun z => nomatch z) fun _ => svs_nil ?_)
  exact svs_one (sv_ret (e_ratio V hr h0 (sm_log1 s2) (ev_mulW (sm_mul s3 s1) (ev_var 1 rfl) (e_top V (ev_var 0 rfl))) (e_bot V (ev_var 0 rfl))) rfl)
theorem ok_eq (F : Fun K "__eq__" "Ratio.__eq__" sREq f fd) (V : Env0 T P w K mg base C PC) : FnOk P w K mg base CX0 3 f fd ["self", "other"] (spD T K 2 (pEq C PC)) := by
  refine fd_ok F scEq rfl fun cdv A outer s H E ds d hr _ ⟨t, b, y, e1, hy, e2⟩ => ?_
  subst e1
  have hr1 := hr.mono (show 1 ≤ 2 by decide)
  rcases e2 with ⟨h1, rfl⟩ | ⟨u, c, hu, rfl⟩
  · exact svs_one (sv_ret (EV.cast (ev_andB (t := false) (u := false) (EV.cast (ev_call V.N hr (evs_cons (ev_var 1 rfl) evs_nil) ⟨y, rfl, hy, rfl⟩) (by rw [h1])) (fun z => nomatch z)) rfl) rfl)
  · exact svs_one (sv_ret (EV.cast (ev_andB (t := true) (EV.cast (ev_call V.N hr (evs_cons (ev_var 1 rfl) evs_nil) ⟨y, rfl, hy, rfl⟩) (by rw [hu.isN])) fun _ => ev_andB (ev_eqI (e_top V (ev_var 0 rfl)) (e_topOf V hr1 hu (ev_var 1 rfl))) fun _ => ev_one (ev_eqI (e_bot V (ev_var 0 rfl)) (e_botOf V hr1 hu (ev_var 1 rfl)))) (by simp)) rfl)
end
end K42

set_option Elab.async false
set_option linter.all false
set_option maxRecDepth 100000
set_option maxHeartbeats 4000000
/-! K42p: fractions in lowest terms; dicts from powers to fractions, in one form. -/
namespace K42
open PySem PySem.Spec PyProof.Rows L2 Fd
abbrev Q2 := Int × Int
def Lo (p : Q2) : Prop := 0 < p.2 ∧ Nat.gcd p.1.natAbs p.2.natAbs = 1
def lowF (t b : Int) : Q2 := (t.fdiv (dv t b), b.fdiv (dv t b))
theorem rF_low (t b : Int) : rF t b = [.int (lowF t b).1, .int (lowF t b).2] := rfl
/-- what the divisor divides -/
theorem dv_parts {t b : Int} (hb : b ≠ 0) : ∃ d t' b' : Int, dv t b = d ∧ d ≠ 0 ∧ t = d * t' ∧ b = d * b' ∧ 0 < b' ∧ Nat.gcd t'.natAbs b'.natAbs = 1 := by
  have g0 : 0 < Nat.gcd t.natAbs b.natAbs := Nat.gcd_pos_of_pos_right _ (by omega)
  have e : (dv t b).natAbs = Nat.gcd t.natAbs b.natAbs := by unfold dv; split <;> omega
  have d0 : dv t b ≠ 0 := fun z => by rw [z] at e; simp at e; omega
  have h1 : dv t b ∣ t := Int.natAbs_dvd_natAbs.mp (by rw [e]; exact Nat.gcd_dvd_left _ _)
  have h2 : dv t b ∣ b := Int.natAbs_dvd_natAbs.mp (by rw [e]; exact Nat.gcd_dvd_right _ _)
  obtain ⟨t', ht⟩ := h1
  obtain ⟨b', hb'⟩ := h2
  have sg : (b < 0 → dv t b < 0) ∧ (0 < b → 0 < dv t b) := by
    unfold dv
    refine ⟨fun z => ?_, fun z => ?_⟩
    · rw [if_pos z]; omega
    · rw [if_neg (by omega)]; omega
  refine ⟨dv t b, t', b', rfl, d0, ht, hb', ?_, ?_⟩
  · rcases Int.lt_or_lt_of_ne hb with z | z
    · have s := sg.1 z
      rcases Int.lt_or_le 0 b' with q | q
      · exact q
      · have := Int.mul_nonneg_of_nonpos_of_nonpos (Int.le_of_lt s) q
        omega
    · have s := sg.2 z
      rcases Int.lt_or_le 0 b' with q | q
      · exact q
      · have := Int.mul_nonpos_of_nonneg_of_nonpos (Int.le_of_lt s) q
        omega
  · have e2 : Nat.gcd t.natAbs b.natAbs = (dv t b).natAbs * Nat.gcd t'.natAbs b'.natAbs := by
      have a1 := congrArg Int.natAbs ht
      have a2 := congrArg Int.natAbs hb'
      rw [Int.natAbs_mul] at a1 a2
      have a3 : Nat.gcd t.natAbs b.natAbs = Nat.gcd ((dv t b).natAbs * t'.natAbs) ((dv t b).natAbs * b'.natAbs) := congr (congrArg Nat.gcd a1) a2
      rw [a3, Nat.gcd_mul_left]
    rw [← e] at e2
    have p : 0 < (dv t b).natAbs := by omega
    have e3 : (dv t b).natAbs * 1 = (dv t b).natAbs * Nat.gcd t'.natAbs b'.natAbs := by omega
    exact (Nat.eq_of_mul_eq_mul_left p e3).symm
theorem lowF_at {t b : Int} (hb : b ≠ 0) : ∃ d, d ≠ 0 ∧ t = d * (lowF t b).1 ∧ b = d * (lowF t b).2 ∧ Lo (lowF t b) := by
  obtain ⟨d, t', b', e, d0, e1, e2, p, g⟩ := dv_parts (t := t) hb
  have x1 : t.fdiv (dv t b) = t' := by rw [e]; conv => lhs; rw [e1]
                                       exact Int.mul_fdiv_cancel_left _ d0
  have x2 : b.fdiv (dv t b) = b' := by rw [e]; conv => lhs; rw [e2]
                                       exact Int.mul_fdiv_cancel_left _ d0
  have x : lowF t b = (t', b') := by unfold lowF; rw [x1, x2]
  rw [x]
  exact ⟨d, d0, e1, e2, p, g⟩
theorem lowF_lo {t b : Int} (hb : b ≠ 0) : Lo (lowF t b) := let ⟨_, _, _, _, h⟩ := lowF_at (t := t) hb; h
theorem lowF_self {p : Q2} (h : Lo p) : lowF p.1 p.2 = p := by
  have e : dv p.1 p.2 = 1 := by unfold dv; rw [if_neg (by have := h.1; omega), h.2]; rfl
  unfold lowF
  rw [e, Int.fdiv_one, Int.fdiv_one]
theorem lowF_le {t b : Int} (hb : b ≠ 0) : (lowF t b).1.natAbs ≤ t.natAbs ∧ (lowF t b).2.natAbs ≤ b.natAbs := by
  obtain ⟨d, d0, e1, e2, _⟩ := lowF_at (t := t) hb
  have p : 1 ≤ d.natAbs := by omega
  refine ⟨?_, ?_⟩
  · conv => rhs; rw [e1, Int.natAbs_mul]
    exact Nat.le_mul_of_pos_left _ p
  · conv => rhs; rw [e2, Int.natAbs_mul]
    exact Nat.le_mul_of_pos_left _ p
theorem lo_zero {b : Int} (h : Lo (0, b)) : b = 1 := by
  have h1 := h.1
  have h2 : Nat.gcd 0 b.natAbs = 1 := h.2
  rw [Nat.gcd_zero_left] at h2
  have h3 : (0 : Int) < b := h1
  omega
theorem lo_int (t : Int) : Lo (t, 1) := ⟨by show (0 : Int) < 1; decide, by show Nat.gcd _ 1 = 1; exact Nat.gcd_one_right _⟩
def addQ (p q : Q2) : Q2 := lowF (p.1 * q.2 + q.1 * p.2) (p.2 * q.2)
def mulQ (p q : Q2) : Q2 := lowF (p.1 * q.1) (p.2 * q.2)
theorem Lo.ne {p : Q2} (h : Lo p) : p.2 ≠ 0 := by have := h.1; omega
theorem mul_ne {p q : Q2} (h : Lo p) (g : Lo q) : p.2 * q.2 ≠ 0 := Int.mul_ne_zero h.ne g.ne
theorem addQ_lo {p q : Q2} (h : Lo p) (g : Lo q) : Lo (addQ p q) := lowF_lo (mul_ne h g)
theorem mulQ_lo {p q : Q2} (h : Lo p) (g : Lo q) : Lo (mulQ p q) := lowF_lo (mul_ne h g)
theorem addQ_zero {p : Q2} (h : Lo p) : addQ p (0, 1) = p := by
  unfold addQ
  rw [show p.1 * (0, (1 : Int)).2 + ((0 : Int), (1 : Int)).1 * p.2 = p.1 by simp, show p.2 * ((0 : Int), (1 : Int)).2 = p.2 by simp]
  exact lowF_self h
theorem zero_addQ {p : Q2} (h : Lo p) : addQ (0, 1) p = p := by
  unfold addQ
  rw [show ((0 : Int), (1 : Int)).1 * p.2 + p.1 * ((0 : Int), (1 : Int)).2 = p.1 by simp, show ((0 : Int), (1 : Int)).2 * p.2 = p.2 by simp]
  exact lowF_self h
theorem mulQ_one {p : Q2} (h : Lo p) : mulQ p (1, 1) = p := by
  unfold mulQ
  rw [show p.1 * ((1 : Int), (1 : Int)).1 = p.1 by simp, show p.2 * ((1 : Int), (1 : Int)).2 = p.2 by simp]
  exact lowF_self h
/-- in lowest terms, not too great -/
structure Bn (n : Nat) (p : Q2) : Prop where
  lo : Lo p
  t : p.1.natAbs < 2 ^ n
  b : p.2.natAbs < 2 ^ n
theorem Bn.up {n m : Nat} {p : Q2} (h : Bn n p) (hm : n ≤ m) : Bn m p := ⟨h.lo, Nat.lt_of_lt_of_le h.t (Nat.pow_le_pow_right (by decide) hm), Nat.lt_of_lt_of_le h.b (Nat.pow_le_pow_right (by decide) hm)⟩
theorem Bn.sm {n : Nat} {p : Q2} (h : Bn n p) (hn : n ≤ 4400) : Sm p.1 ∧ Sm p.2 := ⟨(h.up hn).t, (h.up hn).b⟩
theorem mul_lt {n : Nat} {a b : Int} (ha : a.natAbs < 2 ^ n) (hb : b.natAbs < 2 ^ n) : (a * b).natAbs < 2 ^ (2 * n) := by
  rw [Int.natAbs_mul, Nat.two_mul, Nat.pow_add]
  exact Nat.mul_lt_mul_of_lt_of_le ha (Nat.le_of_lt hb) (Nat.two_pow_pos n)
theorem bn_low {n : Nat} {t b : Int} (hb : b ≠ 0) (h1 : t.natAbs < 2 ^ n) (h2 : b.natAbs < 2 ^ n) : Bn n (lowF t b) := ⟨lowF_lo hb, Nat.lt_of_le_of_lt (lowF_le hb).1 h1, Nat.lt_of_le_of_lt (lowF_le hb).2 h2⟩
theorem addQ_bn {n : Nat} {p q : Q2} (h : Bn n p) (g : Bn n q) : Bn (2 * n + 1) (addQ p q) := by
  refine bn_low (mul_ne h.lo g.lo) ?_ (Nat.lt_of_lt_of_le (mul_lt h.b g.b) (Nat.pow_le_pow_right (by decide) (by omega)))
  have a := mul_lt h.t g.b
  have b := mul_lt g.t h.b
  have c := Int.natAbs_add_le (p.1 * q.2) (q.1 * p.2)
  rw [Nat.pow_succ]; omega
theorem mulQ_bn {n : Nat} {p q : Q2} (h : Bn n p) (g : Bn n q) : Bn (2 * n) (mulQ p q) := bn_low (mul_ne h.lo g.lo) (mul_lt h.t g.t) (mul_lt h.b g.b)
theorem bn_int {n : Nat} {t : Int} (h : t.natAbs < 2 ^ n) (hn : 1 ≤ n) : Bn n (t, 1) := ⟨lo_int t, h, by show 1 < 2 ^ n; exact Nat.one_lt_two_pow (by omega)⟩
/-! ### dicts -/
abbrev KL (α : Type) := List (List Int × α)
section
variable {α : Type}
def ksM (m : KL α) : List (List Int) := m.map (·.1)
def lkM : KL α → List Int → Option α
  | [], _ => none
  | q :: m, k => if q.1 = k then some q.2 else lkM m k
def putM (m : KL α) (k : List Int) (v : α) : KL α := if k ∈ ksM m then m.map (fun q => if q.1 = k then (q.1, v) else q) else m ++ [(k, v)]
theorem lk_none : ∀ {m : KL α} {k : List Int}, k ∉ ksM m → lkM m k = none
  | [], _, _ => rfl
  | q :: m, k, h => by
    have h' : ¬ (k = q.1 ∨ k ∈ ksM m) := fun z => h (List.mem_cons.mpr z)
    show (if q.1 = k then _ else _) = _
    rw [if_neg fun z => h' (.inl z.symm)]
    exact lk_none fun z => h' (.inr z)
theorem lk_mem : ∀ {m : KL α} {k : List Int} {v : α}, lkM m k = some v → (k, v) ∈ m
  | q :: m, k, v, h => by
    have h' : (if q.1 = k then some q.2 else lkM m k) = some v := h
    split at h'
    · rename_i e; cases h'; subst e; exact List.mem_cons_self
    · exact List.mem_cons_of_mem _ (lk_mem h')
theorem lk_of : ∀ {m : KL α} {q : List Int × α}, (ksM m).Nodup → q ∈ m → lkM m q.1 = some q.2
  | r :: m, q, nd, h => by
    obtain ⟨n1, n2⟩ := List.nodup_cons.mp (show (r.1 :: ksM m).Nodup from nd)
    show (if r.1 = q.1 then _ else _) = _
    rcases List.mem_cons.mp h with rfl | h
    · rw [if_pos rfl]
    · rw [if_neg fun z => n1 (by rw [z]; exact List.mem_map_of_mem h)]
      exact lk_of n2 h
theorem lk_some {m : KL α} {k : List Int} (h : k ∈ ksM m) : ∃ v, lkM m k = some v := by
  induction m with
  | nil => cases h
  | cons q m ih =>
    show ∃ v, (if q.1 = k then _ else _) = _
    by_cases e : q.1 = k
    · rw [if_pos e]; exact ⟨_, rfl⟩
    · rw [if_neg e]
      exact ih ((List.mem_cons.mp h).resolve_left fun z => e z.symm)
theorem ks_put {m : KL α} {k : List Int} {v : α} : ksM (putM m k v) = if k ∈ ksM m then ksM m else ksM m ++ [k] := by
  unfold putM
  split
  · unfold ksM
    rw [List.map_map]
    exact List.map_congr_left fun q _ => by show (if q.1 = k then (q.1, v) else q).1 = q.1; split <;> rfl
  · unfold ksM; simp
theorem nd_put {m : KL α} {k : List Int} {v : α} (h : (ksM m).Nodup) : (ksM (putM m k v)).Nodup := by
  rw [ks_put]
  split
  · exact h
  · rename_i n
    rw [List.nodup_append]
    exact ⟨h, by simp, fun a ha b hb => by simp at hb; subst hb; rintro rfl; exact n ha⟩
theorem mem_put {m : KL α} {k : List Int} {v : α} {q : List Int × α} (h : q ∈ putM m k v) : q = (k, v) ∨ q ∈ m := by
  unfold putM at h
  split at h
  · obtain ⟨r, hr, e⟩ := List.mem_map.mp h
    split at e
    · rename_i z; subst e; left; rw [z]
    · subst e; exact .inr hr
  · rcases List.mem_append.mp h with h | h
    · exact .inr h
    · exact .inl (by simpa using h)
theorem lk_app {m l : KL α} {k : List Int} : lkM (m ++ l) k = match lkM m k with | some v => some v | none => lkM l k := by
  induction m with
  | nil => rfl
  | cons q m ih =>
    show (if q.1 = k then some q.2 else lkM (m ++ l) k) = match (if q.1 = k then some q.2 else lkM m k) with | some v => some v | none => lkM l k
    split
    · rfl
    · exact ih
theorem lk_put {m : KL α} {k k' : List Int} {v : α} : lkM (putM m k v) k' = if k = k' then some v else lkM m k' := by
  unfold putM
  by_cases h : k ∈ ksM m
  · rw [if_pos h]
    induction m with
    | nil => cases h
    | cons q m ih =>
      show (if (if q.1 = k then (q.1, v) else q).1 = k' then some (if q.1 = k then (q.1, v) else q).2 else lkM (m.map _) k') = if k = k' then some v else if q.1 = k' then some q.2 else lkM m k'
      by_cases e : q.1 = k
      · rw [if_pos e]
        by_cases e2 : k = k'
        · rw [if_pos e2, if_pos (e.trans e2)]
        · rw [if_neg e2, if_neg (fun z => e2 (e.symm.trans z)), if_neg (fun z => e2 (e.symm.trans z))]
          by_cases h2 : k ∈ ksM m
          · rw [ih h2, if_neg e2]
          · have : m.map (fun q => if q.1 = k then (q.1, v) else q) = m := by
              conv => rhs; rw [← List.map_id m]
              exact List.map_congr_left fun r hr => by show (if r.1 = k then (r.1, v) else r) = r; rw [if_neg fun z => h2 (by rw [← z]; exact List.mem_map_of_mem hr)]
            rw [this]
      · rw [if_neg e]
        have h2 : k ∈ ksM m := (List.mem_cons.mp h).resolve_left fun z => e z.symm
        rw [ih h2]
        by_cases e2 : q.1 = k'
        · rw [if_pos e2, if_neg (fun z => e (e2.trans z.symm)), if_pos e2]
        · rw [if_neg e2, if_neg e2]
  · rw [if_neg h, lk_app]
    by_cases e : k = k'
    · subst e
      rw [lk_none h, if_pos rfl]
      show (if k = k then some v else none) = _
      rw [if_pos rfl]
    · rw [if_neg e]
      cases lkM m k' with
      | some w => rfl
      | none => show (if k = k' then some v else none) = none; rw [if_neg e]
/-! as data -/
def dks (m : KL α) : List (List Key) := m.map fun q => iK q.1
def dxs (e : α → D) (m : KL α) : List D := m.map fun q => e q.2
def dM (e : α → D) (m : KL α) : D := .dcT (dks m) (dxs e m)
theorem iK_inj {k l : List Int} (h : iK k = iK l) : k = l := List.map_inj_right (fun _ _ => Sum.inl.inj) |>.mp h
theorem dks_ks (m : KL α) : dks m = (ksM m).map iK := by unfold dks ksM; rw [List.map_map]; rfl
theorem nd_dks {m : KL α} (h : (ksM m).Nodup) : (dks m).Nodup := by
  rw [dks_ks]
  exact List.Pairwise.map (R := (· ≠ ·)) _ (fun a b n z => n (iK_inj z)) h
theorem has_M (m : KL α) (k : List Int) : hasK (dks m) (iK k) = decide (k ∈ ksM m) := by
  unfold hasK dks ksM
  rw [List.any_map]
  by_cases h : k ∈ m.map (·.1)
  · rw [decide_eq_true h]
    obtain ⟨q, hq, e⟩ := List.mem_map.mp h
    exact List.any_eq_true.mpr ⟨q, hq, decide_eq_true (show iK q.1 = iK k by rw [e])⟩
  · rw [decide_eq_false h]
    exact List.any_eq_false.mpr fun q hq z => h (List.mem_map.mpr ⟨q, hq, iK_inj (of_decide_eq_true z)⟩)
theorem putKs_M (m : KL α) (k : List Int) (v : α) : putKs (dks m) (iK k) = dks (putM m k v) := by
  unfold putKs
  rw [has_M, dks_ks (putM m k v), ks_put]
  by_cases h : k ∈ ksM m
  · rw [decide_eq_true h, if_pos rfl, if_pos h, dks_ks]
  · rw [decide_eq_false h, if_neg (by decide), if_neg h, dks_ks, List.map_append]; rfl
theorem repl_M (e : α → D) (k : List Int) (v : α) : ∀ m : KL α, repl (dks m) (dxs e m) (iK k) (e v) = dxs e (m.map fun q => if q.1 = k then (q.1, v) else q)
  | [] => rfl
  | q :: m => by
    show (if iK q.1 = iK k then e v else e q.2) :: repl (dks m) (dxs e m) (iK k) (e v) = e (if q.1 = k then (q.1, v) else q).2 :: dxs e (m.map _)
    rw [repl_M e k v m]
    by_cases h : q.1 = k
    · rw [if_pos h, if_pos (by rw [h])]
    · rw [if_neg h, if_neg fun z => h (iK_inj z)]
theorem putXs_M (e : α → D) (m : KL α) (k : List Int) (v : α) : putXs (dks m) (dxs e m) (iK k) (e v) = dxs e (putM m k v) := by
  unfold putXs
  rw [has_M]
  unfold putM
  by_cases h : k ∈ ksM m
  · rw [decide_eq_true h, if_pos rfl, if_pos h, repl_M]
  · rw [decide_eq_false h, if_neg (by decide), if_neg h]
    unfold dxs
    rw [List.map_append]; rfl
theorem look_M (e : α → D) (k : List Int) : ∀ m : KL α, look (dks m) (dxs e m) (iK k) = (lkM m k).map e
  | [] => rfl
  | q :: m => by
    show (if iK q.1 = iK k then some (e q.2) else look (dks m) (dxs e m) (iK k)) = (if q.1 = k then some q.2 else lkM m k).map e
    rw [look_M e k m]
    by_cases h : q.1 = k
    · rw [if_pos h, if_pos (by rw [h])]; rfl
    · rw [if_neg h, if_neg fun z => h (iK_inj z)]
theorem len_dks (m : KL α) : (dks m).length = m.length := List.length_map _
end
/-! ### the one form -/
def nz (p : Q2) : Bool := decide (p.1 ≠ 0)
def gt (m : KL Q2) (k : List Int) : Q2 := (lkM m k).getD (0, 1)
def canK (m : KL Q2) : List (List Int) := (srtI true (ksM m)).filter fun k => nz (gt m k)
def can (m : KL Q2) : KL Q2 := (canK m).map fun k => (k, gt m k)
theorem nz_mem {m : KL Q2} {k : List Int} (h : nz (gt m k) = true) : k ∈ ksM m := by
  by_cases z : k ∈ ksM m
  · exact z
  · unfold gt at h
    rw [lk_none z] at h
    exact absurd h (by decide)
theorem mem_canK {m : KL Q2} {k : List Int} : k ∈ canK m ↔ nz (gt m k) = true := by
  unfold canK
  rw [List.mem_filter]
  exact ⟨fun h => h.2, fun h => ⟨(srt_perm true _).mem_iff.mpr (nz_mem h), h⟩⟩
theorem nd_canK {m : KL Q2} (h : (ksM m).Nodup) : (canK m).Nodup := ((srt_perm true _).nodup_iff.mpr h).filter _
theorem pair_canK (m : KL Q2) : (canK m).Pairwise fun p q => leB true p q = true := (srt_pair true _).filter _
theorem canK_uniq {m : KL Q2} {ls : List (List Int)} (h : (ksM m).Nodup) (n : ls.Nodup) (e : ∀ k, k ∈ ls ↔ nz (gt m k) = true) : srtI true ls = canK m :=
  (srt_uniq (b := true) ((List.perm_ext_iff_of_nodup (nd_canK h) n).mpr fun k => by rw [mem_canK, e]) (pair_canK m)).symm
theorem can_ext {m l : KL Q2} (hm : (ksM m).Nodup) (hl : (ksM l).Nodup) (e : ∀ k, gt m k = gt l k) : can m = can l := by
  have h : canK m = canK l := List.Perm.eq_of_pairwise (fun x y _ _ h1 h2 => leB_anti h1 h2) (pair_canK m) (pair_canK l) ((List.perm_ext_iff_of_nodup (nd_canK hm) (nd_canK hl)).mpr fun k => by rw [mem_canK, mem_canK, e])
  unfold can
  rw [h]
  exact List.map_congr_left fun k _ => by rw [e]
theorem ks_can (m : KL Q2) : ksM (can m) = canK m := by unfold can ksM; rw [List.map_map]; exact List.map_id' _
theorem gt_of {m : KL Q2} {q : List Int × Q2} (h : (ksM m).Nodup) (hq : q ∈ m) : gt m q.1 = q.2 := by unfold gt; rw [lk_of h hq]; rfl
theorem gt_no {m : KL Q2} {k : List Int} (h : k ∉ ksM m) : gt m k = (0, 1) := by unfold gt; rw [lk_none h]; rfl
theorem gt_P {P : Q2 → Prop} {m : KL Q2} (h : ∀ q ∈ m, P q.2) (h0 : P (0, 1)) (k : List Int) : P (gt m k) := by
  unfold gt
  cases e : lkM m k with
  | none => exact h0
  | some v => exact h _ (lk_mem e)
theorem lo01 : Lo (0, 1) := lo_int 0
theorem nz_false {p : Q2} (h : Lo p) (z : nz p = false) : p = (0, 1) := by
  obtain ⟨t, b⟩ := p
  have : t = 0 := by have := of_decide_eq_false z; simpa using this
  subst this
  rw [lo_zero h]
theorem gt_can {m : KL Q2} (nd : (ksM m).Nodup) (h : ∀ q ∈ m, Lo q.2) (k : List Int) : gt (can m) k = gt m k := by
  by_cases z : nz (gt m k) = true
  · have hm : (k, gt m k) ∈ can m := List.mem_map.mpr ⟨k, mem_canK.mpr z, rfl⟩
    exact gt_of (q := (k, gt m k)) (by rw [ks_can]; exact nd_canK nd) hm
  · rw [gt_no (by rw [ks_can]; exact fun q => z (mem_canK.mp q))]
    exact (nz_false (gt_P h lo01 k) (by simpa using z)).symm
def kept (m : KL Q2) : KL Q2 := m.filter fun q => nz q.2
theorem nd_kept {m : KL Q2} (nd : (ksM m).Nodup) : (ksM (kept m)).Nodup := (List.filter_sublist.map _).nodup nd
theorem mem_kept {m : KL Q2} (nd : (ksM m).Nodup) {k : List Int} : k ∈ ksM (kept m) ↔ nz (gt m k) = true := by
  unfold ksM kept
  constructor
  · intro h
    obtain ⟨q, hq, rfl⟩ := List.mem_map.mp h
    obtain ⟨h1, h2⟩ := List.mem_filter.mp hq
    rw [gt_of nd h1]; exact h2
  · intro h
    obtain ⟨v, hv⟩ := lk_some (nz_mem h)
    have e : gt m k = v := by unfold gt; rw [hv]; rfl
    exact List.mem_map.mpr ⟨(k, v), List.mem_filter.mpr ⟨lk_mem hv, by rw [← e]; exact h⟩, rfl⟩
theorem srt_kept {m : KL Q2} (nd : (ksM m).Nodup) : srtI true (ksM (kept m)) = canK m := canK_uniq nd (nd_kept nd) fun k => mem_kept nd
theorem gt_kept {m : KL Q2} (nd : (ksM m).Nodup) (h : ∀ q ∈ m, Lo q.2) (k : List Int) : gt (kept m) k = gt m k := by
  by_cases z : nz (gt m k) = true
  · obtain ⟨v, hv⟩ := lk_some ((mem_kept nd).mpr z)
    have h1 := lk_mem hv
    have h2 := (List.mem_filter.mp h1).1
    rw [gt_of (q := (k, v)) (nd_kept nd) h1, gt_of (q := (k, v)) nd h2]
  · rw [gt_no (fun q => z ((mem_kept nd).mp q))]
    exact (nz_false (gt_P h lo01 k) (by simpa using z)).symm
/-! ### numbers with their kind: true a Ratio -/
abbrev V3 := Q2 × Bool
def W3 (v : V3) : Prop := v.2 = false → v.1.2 = 1
def pl (p : Q2) : V3 := (p, !decide (p.2 = 1))
theorem w_pl (p : Q2) : W3 (pl p) := fun h => by
  have : (!decide (p.2 = 1)) = false := h
  have h2 : p.2 = 1 := by simpa using this
  exact h2
def numV (C : Addr) (v : V3) : D := if v.2 = true then rat C v.1.1 v.1.2 else .int v.1.1
def numP (C : Addr) (p : Q2) : D := numV C (pl p)
theorem nuV {C : Addr} {v : V3} (h : W3 v) : Nu C (numV C v) v.1.1 v.1.2 := by
  unfold numV
  cases e : v.2 with
  | true => exact .inr (if_pos rfl)
  | false => exact .inl ⟨if_neg (by decide), h e⟩
theorem nuP (C : Addr) (p : Q2) : Nu C (numP C p) p.1 p.2 := nuV (w_pl p)
theorem plain_V {C : Addr} {v : V3} (h : W3 v) : plainD C (numV C v) v.1.1 v.1.2 = numP C v.1 := by
  unfold plainD numP pl numV
  by_cases e : v.1.2 = 1
  · rw [if_pos e, decide_eq_true e]; rfl
  · have e2 : v.2 = true := by
      cases q : v.2 with
      | true => rfl
      | false => exact absurd (h q) e
    rw [if_neg e, decide_eq_false e, if_pos e2]; rfl
def toQ (m : KL V3) : KL Q2 := m.map fun q => (q.1, q.2.1)
theorem ks_toQ (m : KL V3) : ksM (toQ m) = ksM m := by unfold toQ ksM; rw [List.map_map]; rfl
theorem lk_toQ (k : List Int) : ∀ m : KL V3, lkM (toQ m) k = (lkM m k).map (·.1)
  | [] => rfl
  | q :: m => by
    show (if q.1 = k then some q.2.1 else lkM (toQ m) k) = (if q.1 = k then some q.2 else lkM m k).map (·.1)
    rw [lk_toQ k m]; split <;> rfl
theorem toQ_put (m : KL V3) (k : List Int) (v : V3) : toQ (putM m k v) = putM (toQ m) k v.1 := by
  unfold putM
  rw [ks_toQ]
  split
  · unfold toQ
    rw [List.map_map, List.map_map]
    exact List.map_congr_left fun q _ => by show ((if q.1 = k then (q.1, v) else q).1, (if q.1 = k then (q.1, v) else q).2.1) = if q.1 = k then (q.1, v.1) else (q.1, q.2.1); split <;> rfl
  · unfold toQ; rw [List.map_append]; rfl
def addV (v w : V3) : V3 := (addQ v.1 w.1, v.2 || w.2)
def getV (m : KL V3) (k : List Int) : V3 := (lkM m k).getD ((0, 1), false)
def stepV (acc : KL V3) (q : List Int × Q2) : KL V3 := putM acc q.1 (addV (getV acc q.1) (pl q.2))
def sumV (a b : KL Q2) : KL V3 := b.foldl stepV (a.foldl stepV [])
theorem getV_gt (m : KL V3) (k : List Int) : (getV m k).1 = gt (toQ m) k := by
  unfold getV gt
  rw [lk_toQ]
  cases lkM m k <;> rfl
end K42

set_option Elab.async false
set_option linter.all false
set_option maxRecDepth 100000
set_option maxHeartbeats 4000000
/-! K42q: sums of dicts. -/
namespace K42
open PySem PySem.Spec PyProof.Rows L2 Fd
theorem gt_put {m : KL Q2} {k k' : List Int} {v : Q2} : gt (putM m k v) k' = if k = k' then v else gt m k' := by
  unfold gt
  rw [lk_put]
  split <;> rfl
theorem getV_put {m : KL V3} {k k' : List Int} {v : V3} : getV (putM m k v) k' = if k = k' then v else getV m k' := by
  unfold getV
  rw [lk_put]
  split <;> rfl
theorem gt_cons (q : List Int × Q2) (m : KL Q2) (k : List Int) : gt (q :: m) k = if q.1 = k then q.2 else gt m k := by
  unfold gt
  show (if q.1 = k then some q.2 else lkM m k).getD (0, 1) = _
  split <;> rfl
theorem step_gt (acc : KL V3) (q : List Int × Q2) (k : List Int) : gt (toQ (stepV acc q)) k = if q.1 = k then addQ (gt (toQ acc) q.1) q.2 else gt (toQ acc) k := by
  unfold stepV
  rw [toQ_put, gt_put]
  show (if q.1 = k then addQ (getV acc q.1).1 q.2 else _) = _
  rw [getV_gt]
def LoM (m : KL Q2) : Prop := ∀ q ∈ m, Lo q.2
theorem LoM.gt {m : KL Q2} (h : LoM m) (k : List Int) : Lo (gt m k) := gt_P h lo01 k
theorem step_lo {acc : KL V3} {q : List Int × Q2} (h : LoM (toQ acc)) (g : Lo q.2) : LoM (toQ (stepV acc q)) := fun r hr => by
  unfold stepV at hr
  rw [toQ_put] at hr
  rcases mem_put hr with rfl | hr
  · show Lo (addQ (getV acc q.1).1 q.2)
    rw [getV_gt]; exact addQ_lo (h.gt _) g
  · exact h r hr
theorem fold_lo : ∀ {l : KL Q2} {acc : KL V3}, LoM l → LoM (toQ acc) → LoM (toQ (l.foldl stepV acc))
  | [], _, _, h => h
  | q :: l, _, hl, h => fold_lo (l := l) (fun r hr => hl r (List.mem_cons_of_mem _ hr)) (step_lo h (hl q List.mem_cons_self))
theorem fold_gt : ∀ {l : KL Q2} {acc : KL V3}, (ksM l).Nodup → LoM l → LoM (toQ acc) → ∀ k, gt (toQ (l.foldl stepV acc)) k = addQ (gt (toQ acc) k) (gt l k)
  | [], acc, _, _, h, k => (addQ_zero (h.gt k)).symm
  | q :: l, acc, nd, hl, h, k => by
    obtain ⟨n1, n2⟩ := List.nodup_cons.mp (show (q.1 :: ksM l).Nodup from nd)
    have hq := hl q List.mem_cons_self
    have ih := fold_gt (acc := stepV acc q) n2 (fun r hr => hl r (List.mem_cons_of_mem _ hr)) (step_lo h hq) k
    show gt (toQ (l.foldl stepV (stepV acc q))) k = _
    rw [ih, step_gt, gt_cons]
    by_cases e : q.1 = k
    · subst e
      rw [if_pos rfl, if_pos rfl, gt_no n1, addQ_zero (addQ_lo (h.gt _) hq)]
    · rw [if_neg e, if_neg e]
theorem fold_nd : ∀ {l : KL Q2} {acc : KL V3}, (ksM acc).Nodup → (ksM (l.foldl stepV acc)).Nodup
  | [], _, h => h
  | q :: l, _, h => fold_nd (l := l) (nd_put h)
theorem low_one (x : Int) : lowF x 1 = (x, 1) := lowF_self (p := (x, 1)) (lo_int x)
theorem w_add {v w : V3} (h : W3 v) (g : W3 w) : W3 (addV v w) := fun e => by
  have e' : (v.2 || w.2) = false := e
  rw [Bool.or_eq_false_iff] at e'
  show (lowF _ (v.1.2 * w.1.2)).2 = 1
  rw [h e'.1, g e'.2]
  exact congrArg Prod.snd (low_one _)
theorem w_get {m : KL V3} (h : ∀ q ∈ m, W3 q.2) (k : List Int) : W3 (getV m k) := by
  unfold getV
  cases e : lkM m k with
  | none => exact fun _ => rfl
  | some v => exact h _ (lk_mem e)
theorem fold_w : ∀ {l : KL Q2} {acc : KL V3}, (∀ q ∈ acc, W3 q.2) → ∀ q ∈ l.foldl stepV acc, W3 q.2
  | [], _, h => h
  | q :: l, acc, h => fold_w (l := l) fun r hr => by
    rcases mem_put hr with rfl | hr
    · exact w_add (w_get h _) (w_pl _)
    · exact h r hr
theorem getV_fold : ∀ {l : KL Q2} {acc : KL V3} {k : List Int}, k ∉ ksM l → getV (l.foldl stepV acc) k = getV acc k
  | [], _, _, _ => rfl
  | q :: l, acc, k, h => by
    have h' : ¬ (k = q.1 ∨ k ∈ ksM l) := fun z => h (List.mem_cons.mpr z)
    show getV (l.foldl stepV (stepV acc q)) k = _
    rw [getV_fold fun z => h' (.inr z)]
    unfold stepV
    rw [getV_put, if_neg fun z => h' (.inl z.symm)]
theorem addV_0 {p : Q2} (h : Lo p) : addV ((0, 1), false) (pl p) = pl p := by
  unfold addV
  rw [show ((((0 : Int), (1 : Int)), false) : V3).1 = (0, 1) from rfl, show (pl p).1 = p from rfl, zero_addQ h, Bool.false_or]; rfl
/-- from nothing -/
theorem fold_new : ∀ {l : KL Q2} {acc : KL V3}, (ksM l).Nodup → LoM l → (∀ k ∈ ksM l, k ∉ ksM acc) → l.foldl stepV acc = acc ++ l.map fun q => (q.1, pl q.2)
  | [], acc, _, _, _ => by simp
  | q :: l, acc, nd, hl, h => by
    obtain ⟨n1, n2⟩ := List.nodup_cons.mp (show (q.1 :: ksM l).Nodup from nd)
    have hq : q.1 ∉ ksM acc := h q.1 List.mem_cons_self
    have e : stepV acc q = acc ++ [(q.1, pl q.2)] := by
      unfold stepV putM
      rw [if_neg hq]
      unfold getV
      rw [lk_none hq]
      show acc ++ [(q.1, addV ((0, 1), false) (pl q.2))] = _
      rw [addV_0 (hl q List.mem_cons_self)]
    show l.foldl stepV (stepV acc q) = _
    rw [e, fold_new n2 (fun r hr => hl r (List.mem_cons_of_mem _ hr)) fun k hk z => ?_]
    · simp
    · have : k ∈ ksM acc ∨ k = q.1 := by unfold ksM at z ⊢; simpa using z
      rcases this with z | rfl
      · exact h k (List.mem_cons_of_mem _ hk) z
      · exact n1 hk
theorem fold_0 {l : KL Q2} (nd : (ksM l).Nodup) (hl : LoM l) : l.foldl stepV [] = l.map fun q => (q.1, pl q.2) := by
  rw [fold_new (acc := []) nd hl (fun k _ (z : k ∈ ([] : List (List Int))) => nomatch z)]; rfl
theorem toQ_pl (l : KL Q2) : toQ (l.map fun q => (q.1, pl q.2)) = l := by
  unfold toQ
  rw [List.map_map]
  exact List.map_id' _
theorem toQ_0 {l : KL Q2} (nd : (ksM l).Nodup) (hl : LoM l) : toQ (l.foldl stepV []) = l := by rw [fold_0 nd hl, toQ_pl]
def BnM (n : Nat) (m : KL Q2) : Prop := ∀ q ∈ m, Bn n q.2
theorem BnM.lo {n : Nat} {m : KL Q2} (h : BnM n m) : LoM m := fun q hq => (h q hq).lo
theorem BnM.up {n k : Nat} {m : KL Q2} (h : BnM n m) (hk : n ≤ k) : BnM k m := fun q hq => (h q hq).up hk
theorem bn01 {n : Nat} (hn : 1 ≤ n) : Bn n (0, 1) := bn_int (by show 0 < 2 ^ n; exact Nat.two_pow_pos n) hn
theorem BnM.gt {n : Nat} {m : KL Q2} (h : BnM n m) (hn : 1 ≤ n) (k : List Int) : Bn n (gt m k) := gt_P h (bn01 hn) k
/-- the sum of two dicts -/
theorem sum_gt {a b : KL Q2} (na : (ksM a).Nodup) (nb : (ksM b).Nodup) (ha : LoM a) (hb : LoM b) (k : List Int) : gt (toQ (sumV a b)) k = addQ (gt a k) (gt b k) := by
  unfold sumV
  rw [fold_gt nb hb (by rw [toQ_0 na ha]; exact ha), toQ_0 na ha]
theorem sum_nd (a b : KL Q2) : (ksM (sumV a b)).Nodup := fold_nd (fold_nd List.nodup_nil)
theorem sum_w (a b : KL Q2) : ∀ q ∈ sumV a b, W3 q.2 := fold_w (fold_w fun q hq => nomatch hq)
theorem sum_bn {n : Nat} {a b : KL Q2} (hn : 1 ≤ n) (na : (ksM a).Nodup) (nb : (ksM b).Nodup) (ha : BnM n a) (hb : BnM n b) : ∀ q ∈ sumV a b, Bn (2 * n + 1) q.2.1 := fun q hq => by
  have hm : (q.1, q.2.1) ∈ toQ (sumV a b) := List.mem_map.mpr ⟨q, hq, rfl⟩
  have e := gt_of (q := (q.1, q.2.1)) (by rw [ks_toQ]; exact sum_nd a b) hm
  have e2 : q.2.1 = addQ (gt a q.1) (gt b q.1) := by rw [← sum_gt na nb ha.lo hb.lo]; exact e.symm
  rw [e2]
  exact addQ_bn (ha.gt hn _) (hb.gt hn _)
/-- keys of a sum -/
theorem fold_ks : ∀ {l : KL Q2} {acc : KL V3} {k : List Int}, k ∈ ksM (l.foldl stepV acc) → k ∈ ksM acc ∨ k ∈ ksM l
  | [], _, _, h => .inl h
  | q :: l, acc, k, h => by
    rcases fold_ks (l := l) h with z | z
    · unfold stepV at z
      rw [ks_put] at z
      split at z
      · exact .inl z
      · rcases List.mem_append.mp z with z | z
        · exact .inl z
        · right; rw [List.mem_singleton.mp z]; exact List.mem_cons_self
    · exact .inr (List.mem_cons_of_mem _ z)
theorem sum_ks {a b : KL Q2} {k : List Int} (h : k ∈ ksM (sumV a b)) : k ∈ ksM a ∨ k ∈ ksM b := by
  rcases fold_ks h with z | z
  · rcases fold_ks z with z | z
    · cases z
    · exact .inl z
  · exact .inr z
theorem fold_len : ∀ {l : KL Q2} {acc : KL V3}, (l.foldl stepV acc).length ≤ acc.length + l.length
  | [], _ => Nat.le_refl _
  | q :: l, acc => by
    have h := fold_len (l := l) (acc := stepV acc q)
    have : (stepV acc q).length ≤ acc.length + 1 := by
      unfold stepV putM
      split
      · rw [List.length_map]; omega
      · rw [List.length_append]; exact Nat.le_refl _
    show (l.foldl stepV (stepV acc q)).length ≤ acc.length + (l.length + 1)
    omega
/-! the law's own sum -/
def stepQ (acc : KL Q2) (q : List Int × Q2) : KL Q2 := putM acc q.1 (addQ (gt acc q.1) (mulQ q.2 (1, 1)))
theorem stepQ_gt (acc : KL Q2) {q : List Int × Q2} (h : Lo q.2) (k : List Int) : gt (stepQ acc q) k = if q.1 = k then addQ (gt acc q.1) q.2 else gt acc k := by
  unfold stepQ
  rw [gt_put, mulQ_one h]
theorem stepQ_lo {acc : KL Q2} {q : List Int × Q2} (h : LoM acc) (g : Lo q.2) : LoM (stepQ acc q) := fun r hr => by
  rcases mem_put hr with rfl | hr
  · exact addQ_lo (h.gt _) (by rw [mulQ_one g]; exact g)
  · exact h r hr
theorem foldQ_gt : ∀ {l acc : KL Q2}, (ksM l).Nodup → LoM l → LoM acc → ∀ k, gt (l.foldl stepQ acc) k = addQ (gt acc k) (gt l k)
  | [], acc, _, _, h, k => (addQ_zero (h.gt k)).symm
  | q :: l, acc, nd, hl, h, k => by
    obtain ⟨n1, n2⟩ := List.nodup_cons.mp (show (q.1 :: ksM l).Nodup from nd)
    have hq := hl q List.mem_cons_self
    have ih := foldQ_gt (acc := stepQ acc q) n2 (fun r hr => hl r (List.mem_cons_of_mem _ hr)) (stepQ_lo h hq) k
    show gt (l.foldl stepQ (stepQ acc q)) k = _
    rw [ih, stepQ_gt _ hq, gt_cons]
    by_cases e : q.1 = k
    · subst e
      rw [if_pos rfl, if_pos rfl, gt_no n1, addQ_zero (addQ_lo (h.gt _) hq)]
    · rw [if_neg e, if_neg e]
theorem foldQ_nd : ∀ {l acc : KL Q2}, (ksM acc).Nodup → (ksM (l.foldl stepQ acc)).Nodup
  | [], _, h => h
  | q :: l, _, h => foldQ_nd (l := l) (nd_put h)
theorem foldQ_lo : ∀ {l acc : KL Q2}, LoM l → LoM acc → LoM (l.foldl stepQ acc)
  | [], _, _, h => h
  | q :: l, _, hl, h => foldQ_lo (l := l) (fun r hr => hl r (List.mem_cons_of_mem _ hr)) (stepQ_lo h (hl q List.mem_cons_self))
/-- the sum in one form, either way -/
theorem sums_same {m t : KL Q2} (nm : (ksM m).Nodup) (nt : (ksM t).Nodup) (hm : LoM m) (ht : LoM t) : can (toQ (sumV (can m) (can t))) = can (t.foldl stepQ m) := by
  have c1 : (ksM (can m)).Nodup := by rw [ks_can]; exact nd_canK nm
  have c2 : (ksM (can t)).Nodup := by rw [ks_can]; exact nd_canK nt
  have l1 : LoM (can m) := fun q hq => by obtain ⟨k, _, rfl⟩ := List.mem_map.mp hq; exact hm.gt k
  have l2 : LoM (can t) := fun q hq => by obtain ⟨k, _, rfl⟩ := List.mem_map.mp hq; exact ht.gt k
  refine can_ext (by rw [ks_toQ]; exact sum_nd _ _) (foldQ_nd nm) fun k => ?_
  rw [sum_gt c1 c2 l1 l2, foldQ_gt nt ht hm, gt_can nm hm, gt_can nt ht]
theorem can_kept {m : KL Q2} (nd : (ksM m).Nodup) (h : LoM m) : can (kept m) = can m := can_ext (nd_kept nd) nd fun k => gt_kept nd h k
theorem can_bn {n : Nat} {m : KL Q2} (hn : 1 ≤ n) (h : BnM n m) : BnM n (can m) := fun q hq => by obtain ⟨k, _, rfl⟩ := List.mem_map.mp hq; exact h.gt hn k
theorem can_nd {m : KL Q2} (nd : (ksM m).Nodup) : (ksM (can m)).Nodup := by rw [ks_can]; exact nd_canK nd
theorem can_len (m : KL Q2) : (can m).length ≤ m.length := by
  unfold can canK
  rw [List.length_map]
  refine Nat.le_trans (List.length_filter_le _ _) ?_
  rw [(srt_perm true _).length_eq]
  unfold ksM
  rw [List.length_map]; exact Nat.le_refl _
theorem can_sub {m : KL Q2} {k : List Int} (h : k ∈ ksM (can m)) : k ∈ ksM m := by rw [ks_can] at h; exact nz_mem (mem_canK.mp h)
end K42

set_option Elab.async false
set_option linter.all false
set_option maxRecDepth 100000
set_option maxHeartbeats 4000000
/-! K42r: fractions as rational numbers, the value of a polynomial, bounds. -/
namespace K42
open PySem PySem.Spec PyProof.Rows L2 Fd
/-- the rational number of a pair -/
def R (q : Q2) : Rat := (q.1 : Rat) / (q.2 : Rat)
theorem cast_ne {b : Int} (h : b ≠ 0) : (b : Rat) ≠ 0 := fun z => h (Rat.intCast_inj.mp (by rw [z]; rfl))
theorem R_low {t b : Int} (hb : b ≠ 0) : R (lowF t b) = (t : Rat) / (b : Rat) := by
  obtain ⟨d, d0, e1, e2, lo⟩ := lowF_at (t := t) hb
  have h1 : (t : Rat) = (d : Rat) * ((lowF t b).1 : Rat) := by rw [← Rat.intCast_mul]; exact congrArg _ e1
  have h2 : (b : Rat) = (d : Rat) * ((lowF t b).2 : Rat) := by rw [← Rat.intCast_mul]; exact congrArg _ e2
  have h3 := cast_ne d0
  have h4 := cast_ne lo.ne
  unfold R
  rw [h1, h2]
  grind
theorem R_int (t : Int) : R (t, 1) = (t : Rat) := by
  show (t : Rat) / ((1 : Int) : Rat) = t
  grind
theorem R_zero (b : Int) : R (0, b) = 0 := by
  show ((0 : Int) : Rat) / (b : Rat) = 0
  have : ((0 : Int) : Rat) = 0 := rfl
  rw [this]; grind
theorem R_one : R (1, 1) = 1 := by
  rw [R_int]; rfl
theorem R_add {p q : Q2} (hp : p.2 ≠ 0) (hq : q.2 ≠ 0) : R (addQ p q) = R p + R q := by
  unfold addQ
  rw [R_low (Int.mul_ne_zero hp hq)]
  have h1 := cast_ne hp
  have h2 := cast_ne hq
  rw [Rat.intCast_add, Rat.intCast_mul, Rat.intCast_mul, Rat.intCast_mul]
  unfold R
  grind
theorem R_mul {p q : Q2} (hp : p.2 ≠ 0) (hq : q.2 ≠ 0) : R (mulQ p q) = R p * R q := by
  unfold mulQ
  rw [R_low (Int.mul_ne_zero hp hq)]
  have h1 := cast_ne hp
  have h2 := cast_ne hq
  rw [Rat.intCast_mul, Rat.intCast_mul]
  unfold R
  grind
theorem R_inj {p q : Q2} (hp : Lo p) (hq : Lo q) (h : R p = R q) : p = q := by
  have h1 := cast_ne hp.ne
  have h2 := cast_ne hq.ne
  have e : p.1 * q.2 = q.1 * p.2 := by
    refine Rat.intCast_inj.mp ?_
    rw [Rat.intCast_mul, Rat.intCast_mul]
    unfold R at h
    grind
  have en : p.1.natAbs * q.2.natAbs = q.1.natAbs * p.2.natAbs := by rw [← Int.natAbs_mul, ← Int.natAbs_mul, e]
  have d1 : p.2.natAbs ∣ q.2.natAbs := by
    have : p.2.natAbs ∣ p.1.natAbs * q.2.natAbs := ⟨q.1.natAbs, by rw [en, Nat.mul_comm]⟩
    exact Nat.Coprime.dvd_of_dvd_mul_left (show Nat.gcd p.2.natAbs p.1.natAbs = 1 by rw [Nat.gcd_comm]; exact hp.2) this
  have d2 : q.2.natAbs ∣ p.2.natAbs := by
    have : q.2.natAbs ∣ q.1.natAbs * p.2.natAbs := ⟨p.1.natAbs, by rw [← en, Nat.mul_comm]⟩
    exact Nat.Coprime.dvd_of_dvd_mul_left (show Nat.gcd q.2.natAbs q.1.natAbs = 1 by rw [Nat.gcd_comm]; exact hq.2) this
  have e2 : p.2 = q.2 := by
    have := Nat.dvd_antisymm d1 d2
    have := hp.1
    have := hq.1
    omega
  rw [e2] at e
  have e1 : p.1 = q.1 := Int.eq_of_mul_eq_mul_right hq.ne e
  exact Prod.ext e1 e2
/-! ### values -/
def pwr (x : Rat) : Nat → Rat
  | 0 => 1
  | n + 1 => pwr x n * x
theorem pwr_add (x : Rat) (a : Nat) : ∀ b : Nat, pwr x (a + b) = pwr x a * pwr x b
  | 0 => by show pwr x a = pwr x a * 1; grind
  | b + 1 => by
    show pwr x (a + b) * x = pwr x a * (pwr x b * x)
    rw [pwr_add x a b]; grind
def mono : List Int → List Rat → Rat
  | p :: k, x :: xs => pwr x p.toNat * mono k xs
  | _, _ => 1
def val : KL Q2 → List Rat → Rat
  | [], _ => 0
  | q :: m, xs => R q.2 * mono q.1 xs + val m xs
theorem val_app (xs : List Rat) : ∀ a b : KL Q2, val (a ++ b) xs = val a xs + val b xs
  | [], b => by show val b xs = 0 + val b xs; grind
  | q :: a, b => by
    show R q.2 * mono q.1 xs + val (a ++ b) xs = R q.2 * mono q.1 xs + val a xs + val b xs
    rw [val_app xs a b]; grind
theorem val_perm {xs : List Rat} {a b : KL Q2} (h : a.Perm b) : val a xs = val b xs := by
  induction h with
  | nil => rfl
  | cons q _ ih => show R q.2 * mono q.1 xs + val _ xs = R q.2 * mono q.1 xs + val _ xs; rw [ih]
  | swap q r l => show R r.2 * mono r.1 xs + (R q.2 * mono q.1 xs + val l xs) = R q.2 * mono q.1 xs + (R r.2 * mono r.1 xs + val l xs); grind
  | trans _ _ h1 h2 => exact h1.trans h2
theorem val_kept (xs : List Rat) : ∀ m : KL Q2, val (kept m) xs = val m xs
  | [] => rfl
  | q :: m => by
    have ih := val_kept xs m
    unfold kept at ih ⊢
    rw [List.filter_cons]
    by_cases h : nz q.2 = true
    · rw [if_pos h]
      show R q.2 * mono q.1 xs + val _ xs = R q.2 * mono q.1 xs + val m xs
      rw [ih]
    · rw [if_neg h, ih]
      have z : q.2.1 = 0 := by
        have : nz q.2 = false := by simpa using h
        have := of_decide_eq_false this
        simpa using this
      have e : R q.2 = 0 := by
        have : q.2 = (0, q.2.2) := Prod.ext z rfl
        rw [this]; exact R_zero _
      show val m xs = R q.2 * mono q.1 xs + val m xs
      rw [e]; grind
theorem kept_gt {m : KL Q2} (nd : (ksM m).Nodup) : kept m = (ksM (kept m)).map fun k => (k, gt m k) := by
  unfold ksM
  rw [List.map_map]
  refine (List.map_id' _).symm.trans ?_
  rw [List.map_id']
  refine (List.map_id (kept m)).symm.trans (List.map_congr_left fun q hq => ?_)
  have := gt_of nd (List.mem_filter.mp hq).1
  exact Prod.ext rfl this.symm
theorem can_perm {m : KL Q2} (nd : (ksM m).Nodup) : (can m).Perm (kept m) := by
  rw [kept_gt nd]
  unfold can
  rw [← srt_kept nd]
  exact (srt_perm true _).map _
theorem val_can {m : KL Q2} (nd : (ksM m).Nodup) (xs : List Rat) : val (can m) xs = val m xs := (val_perm (can_perm nd)).trans (val_kept xs m)
theorem val_new {k : List Int} {v : Q2} {xs : List Rat} (hv : v.2 ≠ 0) : val [(k, addQ (0, 1) v)] xs = R v * mono k xs := by
  show R (addQ (0, 1) v) * mono k xs + 0 = _
  rw [R_add (by decide) hv, R_zero]; grind
theorem val_put {m : KL Q2} {k : List Int} {v : Q2} {xs : List Rat} (nd : (ksM m).Nodup) (lo : LoM m) (hv : v.2 ≠ 0) : val (putM m k (addQ (gt m k) v)) xs = val m xs + R v * mono k xs := by
  unfold putM
  by_cases h : k ∈ ksM m
  · rw [if_pos h]
    have ra : R (addQ (gt m k) v) = R (gt m k) + R v := R_add (lo.gt k).ne hv
    generalize addQ (gt m k) v = z at ra
    induction m with
    | nil => cases h
    | cons q m ih =>
      obtain ⟨n1, n2⟩ := List.nodup_cons.mp (show (q.1 :: ksM m).Nodup from nd)
      rw [gt_cons] at ra
      show val ((if q.1 = k then (q.1, z) else q) :: m.map _) xs = R q.2 * mono q.1 xs + val m xs + R v * mono k xs
      by_cases e : q.1 = k
      · subst e
        have hm : m.map (fun r => if r.1 = q.1 then (r.1, z) else r) = m := by
          conv => rhs; rw [← List.map_id m]
          exact List.map_congr_left fun r hr => by show (if r.1 = q.1 then (r.1, z) else r) = r; rw [if_neg fun w => n1 (by rw [← w]; exact List.mem_map_of_mem hr)]
        rw [hm, if_pos rfl]
        rw [if_pos rfl] at ra
        show R z * mono q.1 xs + val m xs = _
        rw [ra]; grind
      · rw [if_neg e]
        rw [if_neg e] at ra
        have h2 : k ∈ ksM m := (List.mem_cons.mp h).resolve_left fun w => e w.symm
        show R q.2 * mono q.1 xs + val (m.map _) xs = _
        rw [ih n2 (fun r hr => lo r (List.mem_cons_of_mem _ hr)) h2 ra]; grind
  · rw [if_neg h, val_app, gt_no h, val_new hv]
/-! keys added -/
def addK (k l : List Int) : List Int := List.zipWith (· + ·) k l
theorem mono_add : ∀ {k l : List Int} {xs : List Rat}, k.length = l.length → (∀ p ∈ k, 0 ≤ p) → (∀ p ∈ l, 0 ≤ p) → mono (addK k l) xs = mono k xs * mono l xs
  | [], [], xs, _, _, _ => by show (1 : Rat) = 1 * 1; grind
  | p :: k, q :: l, [], _, _, _ => by show (1 : Rat) = 1 * 1; grind
  | p :: k, q :: l, x :: xs, h, h1, h2 => by
    have ih := mono_add (k := k) (l := l) (xs := xs) (by simpa using h) (fun z hz => h1 z (List.mem_cons_of_mem _ hz)) (fun z hz => h2 z (List.mem_cons_of_mem _ hz))
    have a := h1 p List.mem_cons_self
    have b := h2 q List.mem_cons_self
    show pwr x (p + q).toNat * mono (addK k l) xs = pwr x p.toNat * mono k xs * (pwr x q.toNat * mono l xs)
    rw [ih, show (p + q).toNat = p.toNat + q.toNat by omega, pwr_add]; grind
  | [], _ :: _, _, h, _, _ => by simp at h
  | _ :: _, [], _, h, _, _ => by simp at h
/-! ### bounds, top and bottom apart -/
structure Bq (n m : Nat) (p : Q2) : Prop where
  lo : Lo p
  t : p.1.natAbs < 2 ^ n
  b : p.2.natAbs < 2 ^ m
theorem up2 {n m : Nat} {a : Nat} (h : a < 2 ^ n) (hm : n ≤ m) : a < 2 ^ m := Nat.lt_of_lt_of_le h (Nat.pow_le_pow_right (by decide) hm)
theorem Bq.up {n m n' m' : Nat} {p : Q2} (h : Bq n m p) (h1 : n ≤ n') (h2 : m ≤ m') : Bq n' m' p := ⟨h.lo, up2 h.t h1, up2 h.b h2⟩
theorem Bq.bn {n m k : Nat} {p : Q2} (h : Bq n m p) (h1 : n ≤ k) (h2 : m ≤ k) : Bn k p := ⟨h.lo, up2 h.t h1, up2 h.b h2⟩
theorem Bq.sm {n m : Nat} {p : Q2} (h : Bq n m p) (h1 : n ≤ 4400) (h2 : m ≤ 4400) : Sm p.1 ∧ Sm p.2 := ⟨up2 h.t h1, up2 h.b h2⟩
theorem mul_lt2 {n m : Nat} {a b : Int} (ha : a.natAbs < 2 ^ n) (hb : b.natAbs < 2 ^ m) : (a * b).natAbs < 2 ^ (n + m) := by
  rw [Int.natAbs_mul, Nat.pow_add]
  exact Nat.mul_lt_mul_of_lt_of_le ha (Nat.le_of_lt hb) (Nat.two_pow_pos m)
theorem bq_low {n m : Nat} {t b : Int} (hb : b ≠ 0) (h1 : t.natAbs < 2 ^ n) (h2 : b.natAbs < 2 ^ m) : Bq n m (lowF t b) := ⟨lowF_lo hb, Nat.lt_of_le_of_lt (lowF_le hb).1 h1, Nat.lt_of_le_of_lt (lowF_le hb).2 h2⟩
/-- sizes of a pair that need not be in lowest terms -/
structure Raw (n m : Nat) (p : Q2) : Prop where
  ne : p.2 ≠ 0
  t : p.1.natAbs < 2 ^ n
  b : p.2.natAbs < 2 ^ m
theorem Bq.raw {n m : Nat} {p : Q2} (h : Bq n m p) : Raw n m p := ⟨h.lo.ne, h.t, h.b⟩
theorem mulQ_bq {n m n' m' : Nat} {p q : Q2} (h : Raw n m p) (g : Raw n' m' q) : Bq (n + n') (m + m') (mulQ p q) := bq_low (Int.mul_ne_zero h.ne g.ne) (mul_lt2 h.t g.t) (mul_lt2 h.b g.b)
theorem addQ_bq {n m n' m' N : Nat} {p q : Q2} (h : Bq n m p) (g : Bq n' m' q) (h1 : n + m' ≤ N) (h2 : n' + m ≤ N) : Bq (N + 1) (m + m') (addQ p q) := by
  refine bq_low (mul_ne h.lo g.lo) ?_ (mul_lt2 h.b g.b)
  have a := up2 (mul_lt2 h.t g.b) h1
  have b := up2 (mul_lt2 g.t h.b) h2
  have c := Int.natAbs_add_le (p.1 * q.2) (q.1 * p.2)
  rw [Nat.pow_succ]; omega
theorem bq01 : Bq 0 1 (0, 1) := ⟨lo01, by decide, by decide⟩
theorem bq11 : Bq 1 1 (1, 1) := ⟨lo_int 1, by decide, by decide⟩
def mulV (v w : V3) : V3 := (mulQ v.1 w.1, v.2 || w.2)
theorem w_mul {v w : V3} (h : W3 v) (g : W3 w) : W3 (mulV v w) := fun e => by
  have e' : (v.2 || w.2) = false := e
  rw [Bool.or_eq_false_iff] at e'
  show (lowF _ (v.1.2 * w.1.2)).2 = 1
  rw [h e'.1, g e'.2]
  exact congrArg Prod.snd (low_one _)
/-! ### powers -/
def powV (x : V3) : Nat → V3
  | 0 => ((1, 1), false)
  | j + 1 => mulV (powV x j) x
theorem powV_ok {x : V3} {n m : Nat} (w : W3 x) (h : Bq n m x.1) : ∀ j, W3 (powV x j) ∧ Bq (n * j + 1) (m * j + 1) (powV x j).1 ∧ R (powV x j).1 = pwr (R x.1) j
  | 0 => ⟨fun _ => rfl, bq11, R_one⟩
  | j + 1 => by
    obtain ⟨a, b, c⟩ := powV_ok w h j
    refine ⟨w_mul a w, (mulQ_bq b.raw h.raw).up ?_ ?_, ?_⟩
    · rw [Nat.mul_succ]; omega
    · rw [Nat.mul_succ]; omega
    · show R (mulQ (powV x j).1 x.1) = pwr (R x.1) j * R x.1
      rw [R_mul b.lo.ne h.lo.ne, c]
def tabV (x : V3) (t : Nat) : List V3 := (List.range (t + 1)).map (powV x)
theorem tabV_get {x : V3} {t j : Nat} (h : j ≤ t) : (tabV x t)[j]? = some (powV x j) := by
  unfold tabV
  rw [List.getElem?_map, List.getElem?_range (by omega)]; rfl
/-- one factor -/
def stepW (w : V3) (y : Int × List V3) : V3 := if 0 < y.1 then mulV w (y.2.getD y.1.toNat ((1, 1), false)) else w
def worth (q : List Int × Q2) (tabs : List (List V3)) : V3 := (q.1.zip tabs).foldl stepW (pl q.2)
def valV (m : KL Q2) (tabs : List (List V3)) : V3 := m.foldl (fun t q => addV t (worth q tabs)) ((0, 1), false)
/-- tables that reach far enough, of numbers that are not too great -/
def Tb (n m : Nat) : List Int → List V3 → List Nat → Prop
  | p :: k, x :: xs, t :: ts => 0 ≤ p ∧ p.toNat ≤ t ∧ p ≤ 6 ∧ W3 x ∧ Bq n m x.1 ∧ Tb n m k xs ts
  | [], [], [] => True
  | _, _, _ => False
theorem worth_go {n m : Nat} : ∀ {k : List Int} {xs : List V3} {ts : List Nat} {w : V3} {a b : Nat}, Tb n m k xs ts → W3 w → Bq a b w.1 →
    W3 ((k.zip (List.zipWith tabV xs ts)).foldl stepW w) ∧ Bq (a + (n * 6 + 1) * k.length) (b + (m * 6 + 1) * k.length) ((k.zip (List.zipWith tabV xs ts)).foldl stepW w).1 ∧ R ((k.zip (List.zipWith tabV xs ts)).foldl stepW w).1 = R w.1 * mono k (xs.map fun x => R x.1)
  | [], [], [], w, a, b, _, hw, hb => ⟨hw, hb.up (Nat.le_add_right _ _) (Nat.le_add_right _ _), by show R w.1 = R w.1 * 1; grind⟩
  | p :: k, x :: xs, t :: ts, w, a, b, h, hw, hb => by
    obtain ⟨p0, pt, p6, wx, bx, hr⟩ := h
    have key : W3 (stepW w (p, tabV x t)) ∧ Bq (a + (n * 6 + 1)) (b + (m * 6 + 1)) (stepW w (p, tabV x t)).1 ∧ R (stepW w (p, tabV x t)).1 = R w.1 * pwr (R x.1) p.toNat := by
      unfold stepW
      by_cases h0 : 0 < p
      · rw [if_pos h0, List.getD_eq_getElem?_getD, tabV_get pt]
        obtain ⟨c1, c2, c3⟩ := powV_ok wx bx p.toNat
        have l1 : n * p.toNat ≤ n * 6 := Nat.mul_le_mul_left _ (by omega)
        have l2 : m * p.toNat ≤ m * 6 := Nat.mul_le_mul_left _ (by omega)
        refine ⟨w_mul hw c1, (mulQ_bq hb.raw c2.raw).up (by omega) (by omega), ?_⟩
        show R (mulQ w.1 (powV x p.toNat).1) = _
        rw [R_mul hb.lo.ne c2.lo.ne, c3]
      · have e : p = 0 := by omega
        subst e
        rw [if_neg h0]
        refine ⟨hw, hb.up (by omega) (by omega), ?_⟩
        show R w.1 = R w.1 * 1
        grind
    obtain ⟨k1, k2, k3⟩ := key
    obtain ⟨r1, r2, r3⟩ := worth_go (k := k) (xs := xs) (ts := ts) hr k1 k2
    refine ⟨r1, r2.up ?_ ?_, ?_⟩
    · have : (n * 6 + 1) * (k.length + 1) = (n * 6 + 1) * k.length + (n * 6 + 1) := Nat.mul_succ _ _
      rw [List.length_cons]; omega
    · have : (m * 6 + 1) * (k.length + 1) = (m * 6 + 1) * k.length + (m * 6 + 1) := Nat.mul_succ _ _
      rw [List.length_cons]; omega
    · show R ((k.zip (List.zipWith tabV xs ts)).foldl stepW (stepW w (p, tabV x t))).1 = R w.1 * (pwr (R x.1) p.toNat * mono k (xs.map fun x => R x.1))
      rw [r3, k3]; grind
  | [], _ :: _, _, _, _, _, h, _, _ => h.elim
  | [], [], _ :: _, _, _, _, h, _, _ => h.elim
  | _ :: _, [], _, _, _, _, h, _, _ => h.elim
  | _ :: _, _ :: _, [], _, _, _, h, _, _ => h.elim
/-- a sum of worths -/
theorem sum_go {A B : Nat} {f : List Int × Q2 → V3} {xs : List Rat} : ∀ {l : KL Q2} {t : V3} {i : Nat}, (∀ q ∈ l, W3 (f q) ∧ Bq A B (f q).1 ∧ R (f q).1 = R q.2 * mono q.1 xs) → W3 t → Bq (A + B * i + i) (B * i + 1) t.1 → 1 ≤ B →
    W3 (l.foldl (fun t q => addV t (f q)) t) ∧ Bq (A + B * (i + l.length) + (i + l.length)) (B * (i + l.length) + 1) (l.foldl (fun t q => addV t (f q)) t).1 ∧ R (l.foldl (fun t q => addV t (f q)) t).1 = R t.1 + val l xs
  | [], t, i, _, ht, hb, _ => ⟨ht, hb, by show R t.1 = R t.1 + 0; grind⟩
  | q :: l, t, i, h, ht, hb, hB => by
    obtain ⟨h1, h2, h3⟩ := h q List.mem_cons_self
    have e1 : B * (i + 1) = B * i + B := Nat.mul_succ B i
    have st := addQ_bq (N := A + B * (i + 1) + i) hb h2 (by omega) (by omega)
    have st2 : Bq (A + B * (i + 1) + (i + 1)) (B * (i + 1) + 1) (addV t (f q)).1 := st.up (by omega) (by omega)
    obtain ⟨r1, r2, r3⟩ := sum_go (l := l) (i := i + 1) (fun r hr => h r (List.mem_cons_of_mem _ hr)) (w_add ht h1) st2 hB
    have e2 : i + (q :: l).length = i + 1 + l.length := by rw [List.length_cons]; omega
    rw [e2]
    refine ⟨r1, r2, ?_⟩
    show R (l.foldl _ (addV t (f q))).1 = R t.1 + (R q.2 * mono q.1 xs + val l xs)
    rw [r3]
    show R (addQ t.1 (f q).1) + _ = _
    rw [R_add hb.lo.ne h2.lo.ne, h3]; grind
/-- the value as the program reckons it -/
theorem valV_ok {n m a b : Nat} {l : KL Q2} {xs : List V3} {ts : List Nat} (h : ∀ q ∈ l, Tb n m q.1 xs ts ∧ q.1.length ≤ 2 ∧ Bq a b q.2) (hb : 1 ≤ b) (hl : l.length ≤ 16) :
    W3 (valV l (List.zipWith tabV xs ts)) ∧ Bq ((a + (n * 6 + 1) * 2) + (b + (m * 6 + 1) * 2) * 16 + 16) ((b + (m * 6 + 1) * 2) * 16 + 1) (valV l (List.zipWith tabV xs ts)).1 ∧ R (valV l (List.zipWith tabV xs ts)).1 = val l (xs.map fun x => R x.1) := by
  have each : ∀ q ∈ l, W3 (worth q (List.zipWith tabV xs ts)) ∧ Bq (a + (n * 6 + 1) * 2) (b + (m * 6 + 1) * 2) (worth q (List.zipWith tabV xs ts)).1 ∧ R (worth q (List.zipWith tabV xs ts)).1 = R q.2 * mono q.1 (xs.map fun x => R x.1) := fun q hq => by
    obtain ⟨h1, h2, h3⟩ := h q hq
    obtain ⟨w1, w2, w3⟩ := worth_go h1 (w_pl q.2) (show Bq a b (pl q.2).1 from h3)
    have l1 : (n * 6 + 1) * q.1.length ≤ (n * 6 + 1) * 2 := Nat.mul_le_mul_left _ h2
    have l2 : (m * 6 + 1) * q.1.length ≤ (m * 6 + 1) * 2 := Nat.mul_le_mul_left _ h2
    exact ⟨w1, w2.up (by omega) (by omega), w3⟩
  obtain ⟨r1, r2, r3⟩ := sum_go (t := ((0, 1), false)) (i := 0) each (fun _ => rfl) (bq01.up (Nat.zero_le _) (by omega)) (by omega)
  have hm := Nat.mul_le_mul_left (b + (m * 6 + 1) * 2) (show 0 + l.length ≤ 16 by omega)
  refine ⟨r1, r2.up (by omega) (by omega), ?_⟩
  rw [show valV l (List.zipWith tabV xs ts) = l.foldl (fun t q => addV t (worth q (List.zipWith tabV xs ts))) ((0, 1), false) from rfl, r3, R_zero]
  grind
/-! ### the product of two dicts -/
def stepP (q : List Int × Q2) (acc : KL V3) (r : List Int × Q2) : KL V3 := putM acc (addK q.1 r.1) (addV (getV acc (addK q.1 r.1)) (mulV (pl q.2) (pl r.2)))
def rowP (b : KL Q2) (acc : KL V3) (q : List Int × Q2) : KL V3 := b.foldl (stepP q) acc
def prodV (a b : KL Q2) : KL V3 := a.foldl (rowP b) []
/-- a factor's dict -/
structure FOk (n : Nat) (m : KL Q2) : Prop where
  nd : (ksM m).Nodup
  key : ∀ k ∈ ksM m, k.length = n ∧ ∀ p ∈ k, 0 ≤ p ∧ p ≤ 3
  bq : ∀ q ∈ m, Bq 4 3 q.2
  len : m.length ≤ 4
/-- what stands behind j pairs -/
structure PA (n j : Nat) (acc : KL V3) : Prop where
  nd : (ksM acc).Nodup
  key : ∀ k ∈ ksM acc, k.length = n ∧ ∀ p ∈ k, 0 ≤ p ∧ p ≤ 6
  w : ∀ q ∈ acc, W3 q.2
  bq : ∀ q ∈ acc, Bq (8 + 7 * j) (6 * j + 1) q.2.1
  len : acc.length ≤ j
theorem PA.get {n j : Nat} {acc : KL V3} (h : PA n j acc) (k : List Int) : W3 (getV acc k) ∧ Bq (8 + 7 * j) (6 * j + 1) (getV acc k).1 := by
  refine ⟨w_get h.w k, ?_⟩
  unfold getV
  cases e : lkM acc k with
  | none => exact bq01.up (by omega) (by omega)
  | some v => exact h.bq _ (lk_mem e)
theorem PA.lo {n j : Nat} {acc : KL V3} (h : PA n j acc) : LoM (toQ acc) := fun q hq => by
  obtain ⟨r, hr, rfl⟩ := List.mem_map.mp hq
  exact (h.bq r hr).lo
theorem add_key {n : Nat} {k l : List Int} (hk : k.length = n ∧ ∀ p ∈ k, 0 ≤ p ∧ p ≤ 3) (hl : l.length = n ∧ ∀ p ∈ l, 0 ≤ p ∧ p ≤ 3) : (addK k l).length = n ∧ ∀ p ∈ addK k l, 0 ≤ p ∧ p ≤ 6 := by
  refine ⟨by unfold addK; rw [List.length_zipWith]; omega, fun p hp => ?_⟩
  unfold addK at hp
  obtain ⟨i, hi, e⟩ := List.mem_iff_getElem.mp hp
  rw [List.getElem_zipWith] at e
  have hlen := hi
  rw [List.length_zipWith] at hlen
  have h1 := hk.2 _ (List.getElem_mem (show i < k.length by omega))
  have h2 := hl.2 _ (List.getElem_mem (show i < l.length by omega))
  omega
theorem PA.step {n j : Nat} {acc : KL V3} {q r : List Int × Q2} (h : PA n j acc) (hq : (q.1.length = n ∧ ∀ p ∈ q.1, 0 ≤ p ∧ p ≤ 3) ∧ Bq 4 3 q.2) (hr : (r.1.length = n ∧ ∀ p ∈ r.1, 0 ≤ p ∧ p ≤ 3) ∧ Bq 4 3 r.2) :
    PA n (j + 1) (stepP q acc r) ∧ ∀ xs, val (toQ (stepP q acc r)) xs = val (toQ acc) xs + R q.2 * mono q.1 xs * (R r.2 * mono r.1 xs) := by
  obtain ⟨g1, g2⟩ := h.get (addK q.1 r.1)
  have hk := add_key hq.1 hr.1
  have mb : Bq 8 6 (mulQ q.2 r.2) := mulQ_bq hq.2.raw hr.2.raw
  have nb : Bq (8 + 7 * (j + 1)) (6 * (j + 1) + 1) (addV (getV acc (addK q.1 r.1)) (mulV (pl q.2) (pl r.2))).1 := (addQ_bq (N := 8 + 7 * j + 6) g2 mb (by omega) (by omega)).up (by omega) (by omega)
  refine ⟨⟨nd_put h.nd, fun k hk' => ?_, fun z hz => ?_, fun z hz => ?_, ?_⟩, fun xs => ?_⟩
  · unfold stepP at hk'
    rw [ks_put] at hk'
    split at hk'
    · exact h.key k hk'
    · rcases List.mem_append.mp hk' with z | z
      · exact h.key k z
      · rw [List.mem_singleton.mp z]; exact hk
  · rcases mem_put hz with rfl | hz
    · exact w_add g1 (w_mul (w_pl _) (w_pl _))
    · exact h.w z hz
  · rcases mem_put hz with rfl | hz
    · exact nb
    · exact (h.bq z hz).up (by omega) (by omega)
  · unfold stepP putM
    have := h.len
    split
    · rw [List.length_map]; omega
    · rw [List.length_append, List.length_singleton]; omega
  · unfold stepP
    rw [toQ_put]
    have e : (addV (getV acc (addK q.1 r.1)) (mulV (pl q.2) (pl r.2))).1 = addQ (gt (toQ acc) (addK q.1 r.1)) (mulQ q.2 r.2) := by rw [← getV_gt]; rfl
    rw [e, val_put (by rw [ks_toQ]; exact h.nd) h.lo mb.lo.ne, R_mul hq.2.lo.ne hr.2.lo.ne, mono_add (by rw [hq.1.1, hr.1.1]) (fun p hp => (hq.1.2 p hp).1) fun p hp => (hr.1.2 p hp).1]
    grind
theorem row_go {n : Nat} {q : List Int × Q2} (hq : (q.1.length = n ∧ ∀ p ∈ q.1, 0 ≤ p ∧ p ≤ 3) ∧ Bq 4 3 q.2) : ∀ {b : KL Q2} {j : Nat} {acc : KL V3}, (∀ r ∈ b, (r.1.length = n ∧ ∀ p ∈ r.1, 0 ≤ p ∧ p ≤ 3) ∧ Bq 4 3 r.2) → PA n j acc →
    PA n (j + b.length) (b.foldl (stepP q) acc) ∧ ∀ xs, val (toQ (b.foldl (stepP q) acc)) xs = val (toQ acc) xs + R q.2 * mono q.1 xs * val b xs
  | [], j, acc, _, h => ⟨h, fun xs => by show val (toQ acc) xs = val (toQ acc) xs + R q.2 * mono q.1 xs * 0; grind⟩
  | r :: b, j, acc, hb, h => by
    obtain ⟨s1, s2⟩ := h.step hq (hb r List.mem_cons_self)
    obtain ⟨r1, r2⟩ := row_go hq (b := b) (fun z hz => hb z (List.mem_cons_of_mem _ hz)) s1
    have e : j + (r :: b).length = j + 1 + b.length := by rw [List.length_cons]; omega
    rw [e]
    refine ⟨r1, fun xs => ?_⟩
    show val (toQ (b.foldl (stepP q) (stepP q acc r))) xs = val (toQ acc) xs + R q.2 * mono q.1 xs * (R r.2 * mono r.1 xs + val b xs)
    rw [r2, s2]; grind
theorem FOk.at {n : Nat} {m : KL Q2} (h : FOk n m) {q : List Int × Q2} (hq : q ∈ m) : (q.1.length = n ∧ ∀ p ∈ q.1, 0 ≤ p ∧ p ≤ 3) ∧ Bq 4 3 q.2 := ⟨h.key q.1 (List.mem_map_of_mem hq), h.bq q hq⟩
theorem prod_go {n : Nat} {b : KL Q2} (hb : FOk n b) : ∀ {a : KL Q2} {j : Nat} {acc : KL V3}, (∀ q ∈ a, (q.1.length = n ∧ ∀ p ∈ q.1, 0 ≤ p ∧ p ≤ 3) ∧ Bq 4 3 q.2) → PA n j acc →
    PA n (j + b.length * a.length) (a.foldl (rowP b) acc) ∧ ∀ xs, val (toQ (a.foldl (rowP b) acc)) xs = val (toQ acc) xs + val a xs * val b xs
  | [], j, acc, _, h => ⟨h, fun xs => by show val (toQ acc) xs = val (toQ acc) xs + 0 * val b xs; grind⟩
  | q :: a, j, acc, ha, h => by
    obtain ⟨s1, s2⟩ := row_go (ha q List.mem_cons_self) (b := b) (fun r hr => hb.at hr) h
    obtain ⟨r1, r2⟩ := prod_go hb (a := a) (fun z hz => ha z (List.mem_cons_of_mem _ hz)) s1
    have e : j + b.length * (q :: a).length = j + b.length + b.length * a.length := by rw [List.length_cons, Nat.mul_succ]; omega
    rw [e]
    refine ⟨r1, fun xs => ?_⟩
    show val (toQ (a.foldl (rowP b) (b.foldl (stepP q) acc))) xs = val (toQ acc) xs + (R q.2 * mono q.1 xs + val a xs) * val b xs
    rw [r2, s2]; grind
theorem pa0 (n : Nat) : PA n 0 [] := ⟨List.nodup_nil, fun _ z => (nomatch z), fun _ z => (nomatch z), fun _ z => (nomatch z), Nat.zero_le _⟩
theorem PA.up {n j k : Nat} {acc : KL V3} (h : PA n j acc) (hk : j ≤ k) : PA n k acc := ⟨h.nd, h.key, h.w, fun q hq => (h.bq q hq).up (by omega) (by omega), Nat.le_trans h.len hk⟩
theorem prod_ok {n : Nat} {a b : KL Q2} (ha : FOk n a) (hb : FOk n b) : PA n 16 (prodV a b) ∧ ∀ xs, val (toQ (prodV a b)) xs = val a xs * val b xs := by
  obtain ⟨r1, r2⟩ := prod_go hb (a := a) (fun q hq => ha.at hq) (pa0 n)
  have : b.length * a.length ≤ 4 * 4 := Nat.mul_le_mul hb.len ha.len
  refine ⟨r1.up (by omega), fun xs => ?_⟩
  show val (toQ (a.foldl (rowP b) [])) xs = _
  rw [r2]
  show 0 + val a xs * val b xs = _
  grind
end K42

set_option Elab.async false
set_option linter.all false
set_option maxRecDepth 100000
set_option maxHeartbeats 4000000
/-! K42b: names, factors of a term, operators of Ratio as data. -/
namespace K42
open PySem PySem.Spec PyProof.Rows L2 Fd
/-- the letters -/
def LET : Str := Str.ofString "abcdefghijklmnopqrstuvwxyz"
def isLet (c : Nat) : Bool := decide (c ∈ LET.cps.toList)
def nmOk (x : Str) : Bool := decide (1 ≤ x.length) && decide (x.length ≤ 8) && x.cps.toList.all isLet
/-- the built-in names, and the module's constants -/
structure Bl (K : PySem.W.Frag) (mg : Str → Option Value) : Prop where
  is : mg "isinstance" = none
  list : mg "list" = none
  tuple : mg "tuple" = none
  str : mg "str" = none
  len : mg "len" = none
  all : mg "all" = none
  enum : mg "enumerate" = none
  int : mg "int" = none
  range : mg "range" = none
  sorted : mg "sorted" = none
  dict : mg "dict" = none
  zip : mg "zip" = none
  abs : mg "abs" = none
  max : mg "max" = none
  let_ : ∃ v tk, mg "LETTERS" = some v ∧ v = .str LET tk
  long : ∃ v tk, mg "LONGEST_NAME" = some v ∧ v = .int 8 tk
  kS : PySem.W.kitOne K (.type "str") (.type "str") = some true
  kT : PySem.W.kitOne K (.type "tuple") (.type "tuple") = some true
def pIsName (ds : List D) (d : D) : Prop := ∃ x, ds = [.str x] ∧ nmOk x = true ∧ d = .bl true
theorem scIsName : FnScope ["thing", "letter"] ["thing"] (defScope sIsName) := ⟨rfl, rfl, rfl, by decide +kernel, rfl, by decide +kernel, by decide +kernel⟩
theorem outs_signs (x : Str) (f : Nat → Bool) (g : D → D) (h : ∀ c, g (.str ⟨#[c]⟩) = .bl (f c)) : outs (fun _ => true) g (Fd.signs x) = (x.cps.toList.map f).map D.bl := by
  unfold outs Fd.signs
  rw [List.filter_eq_self.mpr fun _ _ => rfl, List.map_map, List.map_map]
  exact List.map_congr_left fun c _ => h c
section
variable {T : List (Addr × Str)} {P : Program} {w : World} {K : PySem.W.Frag} {mg : Str → Option Value} {base : Heap} {C PC f : Addr} {fd : FuncData}
theorem ok_isName (F : Fun K "is_name" "is_name" sIsName f fd) (B : Bl K mg) : FnOk P w K mg base CX0 1 f fd ["thing"] (spD T K 1 pIsName) := by
  refine fd_ok F scIsName rfl fun cdv A outer s H E ds d hr _ ⟨z, e1, hz, e2⟩ => ?_
  subst e1; subst e2
  obtain ⟨_, _, mL, rfl⟩ := B.let_
  obtain ⟨_, _, mG, rfl⟩ := B.long
  unfold nmOk at hz
  rw [Bool.and_eq_true, Bool.and_eq_true] at hz
  obtain ⟨⟨z1, z2⟩, z3⟩ := hz
  have l1 := of_decide_eq_true z1
  have l2 := of_decide_eq_true z2
  have hlen : D.len (.str z) = some z.length := by show (if z.length ≤ sizeLine then some z.length else none) = _; rw [if_pos (small_len (by omega))]
  refine svs_cons (sv_if (t := false) (TV.cast (TW.tv (tw_orB (t := false) (tv_not (tv_of (ev_isT (d := .str z) (ev_var 0 rfl) rfl True.intro B.kS B.str (by decide +kernel) B.is))) fun _ => tw_or1 (tv_not (tv_chain (f := fun i j => decide (i ≤ j)) (g := fun i j => decide (i ≤ j)) op_le op_le ev_int (ev_len hlen (ev_var 0 rfl) B.len) (ev_glI mG))))) ?_) (fun h => nomatch h) fun _ => svs_nil ?_)
  · show (false || !(decide ((1 : Int) ≤ (z.length : Int)) && decide ((z.length : Int) ≤ 8))) = false
    rw [decide_eq_true (by omega), decide_eq_true (by omega)]; rfl
  · refine svs_one (sv_ret (EV.cast (ev_all (bs := z.cps.toList.map isLet) (EV.cast (ev_lc [("letter", 1)] (.one 1) (fun _ => true) (fun d => match d with | .str s => .bl (s.cps.toList.all isLet) | _ => .non) (iv_str (ev_var 0 rfl))
      (id (α := BlkOk ["thing", "letter"] (defScope sIsName) _ [("letter", 1)]) ⟨rfl, by decide +kernel, by decide +kernel, by decide +kernel, by decide +kernel⟩)
      (fun s H C cl fp => pg_name (i := 1) scIsName.nd rfl (Or.inl rfl)) (fun s H C' cl fp y hy => ts_nil) (fun s H C' cl fp y hy hk => ?_) scIsName.nd (fun _ _ => rfl) (by show (z.cps.toList.map _).length ≤ _; rw [List.length_map, show z.cps.toList.length = z.length from Array.length_toList]; omega)) (congrArg D.lst (outs_signs z isLet _ fun c => by simp))) B.all) ?_) rfl)
    · obtain ⟨c, _, rfl⟩ := List.mem_map.mp hy
      exact EV.cast (ev_inC (ev_var 1 rfl) (ev_glS mL)) (by simp [isLet])
    · show D.bl _ = D.bl true
      rw [List.all_map]
      exact congrArg D.bl z3
end
/-! ### operators of Ratio, as data -/
/-- what the top tells of Ratio's methods -/
structure Ra (T : List (Addr × Str)) (P : Program) (w : World) (K : PySem.W.Frag) (mg : Str → Option Value) (base : Heap) (C PC : Addr) : Prop where
  R : Rt K mg C PC
  add : ∃ f, OwnM T P w K mg base C (PySem.dunder (Operator.info .Add).2) 2 3 (pBin C (fun t b u c => t * c + u * b) fun t b u c => b * c) f
  radd : ∃ f, OwnM T P w K mg base C (dunderR (Operator.info .Add).2) 2 3 (pRef C (fun t b j => j * b + t) fun t b j => b) f
  mul : ∃ f, OwnM T P w K mg base C (PySem.dunder (Operator.info .Mult).2) 2 3 (pBin C (fun t b u c => t * u) fun t b u c => b * c) f
  rmul : ∃ f, OwnM T P w K mg base C (dunderR (Operator.info .Mult).2) 2 3 (pRef C (fun t b j => j * t) fun t b j => b) f
  eq : ∃ f, EqM T P w K mg base C 3 (pEq C PC) f
  sf : PySem.W.selfFirst K C = true
  i1 : ∃ v, PySem.W.findIn K (.type "int") (PySem.dunder (Operator.info .Add).2) = some v
  i2 : ∃ v, PySem.W.findIn K (.type "int") (dunderR (Operator.info .Add).2) = some v
  i3 : ∃ v, PySem.W.findIn K (.type "int") (PySem.dunder (Operator.info .Mult).2) = some v
  i4 : ∃ v, PySem.W.findIn K (.type "int") (dunderR (Operator.info .Mult).2) = some v
  s1 : PySem.W.subIn K (.type "int") (.ref C) = some false
  s2 : PySem.W.subIn K (.ref C) (.type "int") = some false
  nI : PySem.W.notFirst K C (.type "int") = true
  nC : PySem.W.notFirst K C (.ref C) = true
  int : ∃ idn B, Slot "int" (PySem.dunder (Operator.info .Add).2) idn ∧ entryFor table idn = some B ∧ (∀ a b, argsOk idn ⟨[a, b], []⟩) ∧ (∀ i t x C dx, Meets (B ⟨[.int i t, .ref x], []⟩) (FdS.Decl x C dx)) ∧ fillsNumberSlot (.type "int") (Operator.info .Add).2 = pure true
  intM : ∃ idn B, Slot "int" (PySem.dunder (Operator.info .Mult).2) idn ∧ entryFor table idn = some B ∧ (∀ a b, argsOk idn ⟨[a, b], []⟩) ∧ (∀ i t x C dx, Meets (B ⟨[.int i t, .ref x], []⟩) (FdS.Decl x C dx)) ∧ fillsNumberSlot (.type "int") (Operator.info .Mult).2 = pure true
section
variable {T : List (Addr × Str)} {X : Cx} {ss : SS} {C PC : Addr} {e a : Expr} {x y : D} {v u : V3} {q : Q2} {pos p : Pos}
theorem ratL_lo {t b : Int} : ratL C t b = rat C (lowF t b).1 (lowF t b).2 := rfl
theorem numV_rat {v : V3} (h : v.2 = true) : numV C v = rat C v.1.1 v.1.2 := if_pos h
theorem numV_int {v : V3} (h : v.2 = false) : numV C v = .int v.1.1 := if_neg (by rw [h]; decide)
/-- the sum of two numbers -/
theorem e_add (O : Ra T X.prog X.w X.K X.mg X.base C PC) (hr : Room 3 X.A) (wv : W3 v) (wu : W3 u) (bv : Bn 4400 v.1) (bu : Bn 4400 u.1) (he : EV T X e ss (numV C v)) (ha : EV T X a ss (numV C u)) : EV T X (.BinOp e .Add a pos) ss (numV C (addV v u)) := by
  obtain ⟨f, M⟩ := O.add
  obtain ⟨f', M'⟩ := O.radd
  obtain ⟨v1, i1⟩ := O.i1
  obtain ⟨v2, i2⟩ := O.i2
  obtain ⟨idn, B, q1, q2, q3, q4, q5⟩ := O.int
  have sv := bv.sm (by decide)
  have su := bu.sm (by decide)
  have h0 := mul_ne bv.lo bu.lo
  cases hv : v.2 with
  | true =>
    rw [numV_rat hv] at he
    rw [show numV C (addV v u) = ratL C (v.1.1 * u.1.2 + u.1.1 * v.1.2) (v.1.2 * u.1.2) from numV_rat (show (v.2 || u.2) = true by rw [hv]; rfl)]
    cases hu : u.2 with
    | true =>
      rw [numV_rat hu] at ha
      exact ev_opD (bin_own M hr O.sf) he ha ⟨rN, _, rN, _, rfl, rfl, v.1.1, v.1.2, rat C u.1.1 u.1.2, u.1.1, u.1.2, rfl, .inr rfl, sv.1, sv.2, su.1, su.2, h0, rfl⟩
    | false =>
      rw [numV_int hu] at ha
      exact ev_opD (bin_ownI M hr O.sf M'.at_ i1 i2 O.s1) he ha ⟨rN, _, u.1.1, rfl, rfl, v.1.1, v.1.2, .int u.1.1, u.1.1, u.1.2, rfl, .inl ⟨rfl, wu hu⟩, sv.1, sv.2, su.1, su.2, h0, rfl⟩
  | false =>
    rw [numV_int hv] at he
    cases hu : u.2 with
    | true =>
      rw [numV_rat hu] at ha
      rw [show numV C (addV v u) = ratL C (v.1.1 * u.1.2 + u.1.1 * v.1.2) (v.1.2 * u.1.2) from numV_rat (show (v.2 || u.2) = true by rw [hv, hu]; rfl)]
      have e1 := wv hv
      exact ev_opD (bin_Iown M' hr O.sf M.at_ q1 q2 q3 q4 q5 O.s2) he ha ⟨rN, _, v.1.1, rfl, rfl, u.1.1, u.1.2, v.1.1, rfl, su.1, su.2, sv.1, bu.lo.ne, by rw [e1, Int.mul_one, Int.one_mul]⟩
    | false =>
      rw [numV_int hu] at ha
      have e1 := wv hv
      have e2 := wu hu
      have e3 : addV v u = ((v.1.1 + u.1.1, 1), false) := by
        unfold addV addQ
        rw [hv, hu, e1, e2, Int.mul_one, Int.mul_one, Int.mul_one, low_one]; rfl
      rw [e3]
      exact ev_add he ha
/-- the product of two numbers -/
theorem e_mul (O : Ra T X.prog X.w X.K X.mg X.base C PC) (hr : Room 3 X.A) (wv : W3 v) (wu : W3 u) (bv : Bn 4400 v.1) (bu : Bn 4400 u.1) (he : EV T X e ss (numV C v)) (ha : EV T X a ss (numV C u)) : EV T X (.BinOp e .Mult a pos) ss (numV C (mulV v u)) := by
  obtain ⟨f, M⟩ := O.mul
  obtain ⟨f', M'⟩ := O.rmul
  obtain ⟨v1, i1⟩ := O.i3
  obtain ⟨v2, i2⟩ := O.i4
  obtain ⟨idn, B, q1, q2, q3, q4, q5⟩ := O.intM
  have sv := bv.sm (by decide)
  have su := bu.sm (by decide)
  have h0 := mul_ne bv.lo bu.lo
  cases hv : v.2 with
  | true =>
    rw [numV_rat hv] at he
    rw [show numV C (mulV v u) = ratL C (v.1.1 * u.1.1) (v.1.2 * u.1.2) from numV_rat (show (v.2 || u.2) = true by rw [hv]; rfl)]
    cases hu : u.2 with
    | true =>
      rw [numV_rat hu] at ha
      exact ev_opD (bin_own M hr O.sf) he ha ⟨rN, _, rN, _, rfl, rfl, v.1.1, v.1.2, rat C u.1.1 u.1.2, u.1.1, u.1.2, rfl, .inr rfl, sv.1, sv.2, su.1, su.2, h0, rfl⟩
    | false =>
      rw [numV_int hu] at ha
      exact ev_opD (bin_ownI M hr O.sf M'.at_ i1 i2 O.s1) he ha ⟨rN, _, u.1.1, rfl, rfl, v.1.1, v.1.2, .int u.1.1, u.1.1, u.1.2, rfl, .inl ⟨rfl, wu hu⟩, sv.1, sv.2, su.1, su.2, h0, rfl⟩
  | false =>
    rw [numV_int hv] at he
    cases hu : u.2 with
    | true =>
      rw [numV_rat hu] at ha
      rw [show numV C (mulV v u) = ratL C (v.1.1 * u.1.1) (v.1.2 * u.1.2) from numV_rat (show (v.2 || u.2) = true by rw [hv, hu]; rfl)]
      have e1 := wv hv
      exact ev_opD (bin_Iown M' hr O.sf M.at_ q1 q2 q3 q4 q5 O.s2) he ha ⟨rN, _, v.1.1, rfl, rfl, u.1.1, u.1.2, v.1.1, rfl, su.1, su.2, sv.1, bu.lo.ne, by rw [e1, Int.one_mul]⟩
    | false =>
      rw [numV_int hu] at ha
      have e1 := wv hv
      have e2 := wu hu
      have e3 : mulV v u = ((v.1.1 * u.1.1, 1), false) := by
        unfold mulV mulQ
        rw [hv, hu, e1, e2, Int.mul_one, low_one]; rfl
      rw [e3]
      exact ev_mulW (sm_mul sv.1 su.1) he ha
/-- x != 0 -/
theorem t_nz (O : Ra T X.prog X.w X.K X.mg X.base C PC) (hr : Room 4 X.A) (wv : W3 v) (lo : Lo v.1) (he : EV T X e ss (numV C v)) (ha : EV T X a ss (.int 0)) (h1 : behindInMarks .NotEq a = false := by first | exact nomark _ | rfl) : TV T X (.Compare e [.NotEq] [a] pos) ss (nz v.1) := by
  obtain ⟨f, M⟩ := O.eq
  cases hv : v.2 with
  | true =>
    rw [numV_rat hv] at he
    refine TV.cast (tv_cmpD (ne_own M hr) he ha ⟨rN, _, .type "int", decide (v.1.1 = 0) && decide (v.1.2 = 1), rfl, rfl, O.nI, rfl, v.1.1, v.1.2, .int 0, rfl, Nu.th (t := 0) (b := 1) (C := C) (.inl ⟨rfl, rfl⟩), .inr ⟨0, 1, .inl ⟨rfl, rfl⟩, rfl⟩⟩ h1) ?_
    by_cases z : v.1.1 = 0
    · have : v.1.2 = 1 := lo_zero (b := v.1.2) (by rw [← z]; exact lo)
      unfold nz
      rw [decide_eq_true z, decide_eq_true this, decide_eq_false (fun h => h z)]; rfl
    · unfold nz
      rw [decide_eq_false z, decide_eq_true z]; rfl
  | false =>
    rw [numV_int hv] at he
    refine TV.cast (tv_neI he ha) ?_
    unfold nz
    by_cases z : v.1.1 = 0
    · rw [decide_eq_true z, decide_eq_false (fun h => h z)]; rfl
    · rw [decide_eq_false z, decide_eq_true z]; rfl
end
end K42

set_option Elab.async false
set_option linter.all false
set_option maxRecDepth 100000
set_option maxHeartbeats 4000000
/-! K42d: Poly made: names, terms, their one form. -/
namespace K42
open PySem PySem.Spec PyProof.Rows L2 Fd
theorem scIsTerm : FnScope ["thing", "many", "power"] ["thing", "many"] (defScope sIsTerm) := ⟨rfl, rfl, rfl, by decide +kernel, rfl, by decide +kernel, by decide +kernel⟩
theorem scOne : FnScope ["terms", "term"] ["terms"] (defScope sOne) := ⟨rfl, rfl, rfl, by decide +kernel, rfl, by decide +kernel, by decide +kernel⟩
theorem scPInit : FnScope ["self", "fields", "terms", "names", "field", "term"] ["self", "fields", "terms"] (defScope sPInit) := ⟨rfl, rfl, rfl, by decide +kernel, rfl, by decide +kernel, by decide +kernel⟩
def pIsTerm (ds : List D) (d : D) : Prop := ∃ k : List Int, ds = [.tup (k.map D.int), .int (k.length : Nat)] ∧ k.length ≤ 1000 ∧ (∀ p ∈ k, 0 ≤ p) ∧ d = .bl true
/-- keys of n powers -/
def KeyOk {α : Type} (n : Nat) (m : KL α) : Prop := ∀ k ∈ ksM m, k.length = n ∧ ∀ p ∈ k, 0 ≤ p
/-- terms that are handed to Poly -/
structure MOk (n : Nat) (m : KL V3) : Prop where
  nd : (ksM m).Nodup
  key : KeyOk n m
  w : ∀ q ∈ m, W3 q.2
  bn : ∀ q ∈ m, Bn 4400 q.2.1
  len : m.length ≤ 100
theorem one_key {α : Type} {n : Nat} {m : KL α} (nd : (ksM m).Nodup) (h : KeyOk n m) : (ksM m).length < 2 ∨ ∀ k ∈ ksM m, 1 ≤ k.length := by
  by_cases z : n = 0
  · left
    generalize hks : ksM m = ks at nd
    have h' : ∀ k ∈ ks, k = [] := fun k hk => List.eq_nil_of_length_eq_zero ((h k (by rw [hks]; exact hk)).1.trans z)
    cases ks with
    | nil => decide
    | cons a r =>
      cases r with
      | nil => show 1 < 2; decide
      | cons b r =>
        have e1 := h' a List.mem_cons_self
        have e2 := h' b (List.mem_cons_of_mem _ List.mem_cons_self)
        exact absurd (show a ∈ b :: r by rw [e1, e2]; exact List.mem_cons_self) (List.nodup_cons.mp nd).1
  · right
    intro k hk
    rw [(h k hk).1]; omega
def unK (k : List Key) : List Int := k.map fun | .inl i => i | .inr _ => 0
theorem unK_iK (k : List Int) : unK (iK k) = k := by
  unfold unK
  rw [List.map_map]
  exact List.map_id' _
/-- by a key datum -/
def onK {β : Type} (z : β) (f : List Int → β) : D → β
  | .tk k => f (unK k)
  | _ => z
theorem onK_tk {β : Type} (z : β) (f : List Int → β) (k : List Int) : onK z f (tkI k) = f k := by show f (unK (iK k)) = _; rw [unK_iK]
theorem filt_tk (g : List Int → Bool) : ∀ L : List (List Int), (L.map tkI).filter (onK false g) = (L.filter g).map tkI
  | [] => rfl
  | k :: L => by
    rw [List.map_cons, List.filter_cons, List.filter_cons, filt_tk g L, onK_tk]
    split <;> rfl
theorem keysC_tk (g : List Int → Bool) (L : List (List Int)) : keysC (onK false g) (onK [] iK) (L.map tkI) = (L.filter g).map iK := by
  unfold keysC
  rw [filt_tk, List.map_map]
  exact List.map_congr_left fun k _ => onK_tk [] iK k
theorem outs_tk (g : List Int → Bool) (f : List Int → D) (L : List (List Int)) : outs (onK false g) (onK .non f) (L.map tkI) = (L.filter g).map f := by
  unfold outs
  rw [filt_tk, List.map_map]
  exact List.map_congr_left fun k _ => onK_tk .non f k
def pOne (C : Addr) (ds : List D) (d : D) : Prop := ∃ n m, ds = [dM (numV C) m] ∧ MOk n m ∧ d = dM (numP C) (can (toQ m))
def pN : List Str := ["fields", "_terms"]
def polyL (C : Addr) (fs : List Str) (m : KL Q2) : List D := [.tup (fs.map D.str), dM (numP C) m]
def polyD (C PC : Addr) (fs : List Str) (m : KL Q2) : D := .ins PC pN (polyL C fs m)
/-- names of fields -/
structure Nms (fs : List Str) : Prop where
  len : fs.length ≤ 2
  ok : ∀ x ∈ fs, nmOk x = true
  nd : fs.Nodup
def pPInit (C : Addr) (ds : List D) (ns : List Str) (xs : List D) : Prop := ∃ fs m x, ds = [x, dM (numV C) m] ∧ (x = .lst (fs.map D.str) ∨ x = .tup (fs.map D.str)) ∧ Nms fs ∧ MOk fs.length m ∧ ns = pN ∧ xs = polyL C fs (can (toQ m))
def lets : List Nat := (List.range 26).map (97 + ·)
theorem let_cps : LET.cps.toList = lets := by decide +kernel
theorem isLet_iff (c : Nat) : isLet c = true ↔ 97 ≤ c ∧ c < 123 := by
  unfold isLet
  rw [let_cps, decide_eq_true_eq]
  unfold lets
  rw [List.mem_map]
  constructor
  · rintro ⟨i, h1, rfl⟩
    have := List.mem_range.mp h1
    omega
  · rintro ⟨h1, h2⟩
    exact ⟨c - 97, List.mem_range.mpr (by omega), by omega⟩
theorem nm_ok {x : Str} (h : nmOk x = true) : x.length ≤ 8 ∧ PyData.strOk x = true := by
  unfold nmOk at h
  rw [Bool.and_eq_true, Bool.and_eq_true] at h
  refine ⟨of_decide_eq_true h.1.2, ?_⟩
  unfold PyData.strOk
  rw [Array.all_eq_true]
  intro i hi
  have hm : x.cps[i] ∈ x.cps.toList := Array.mem_toList_iff.mpr (Array.getElem_mem hi)
  have := List.all_eq_true.mp h.2 _ hm
  rw [isLet_iff] at this
  exact decide_eq_true (by omega)
theorem mem_ks {α : Type} {m : KL α} {k : List Int} (h : k ∈ ksM m) : ∃ v, (k, v) ∈ m ∧ lkM m k = some v := by
  obtain ⟨v, hv⟩ := lk_some h
  exact ⟨v, lk_mem hv, hv⟩
section
variable {T : List (Addr × Str)} {P : Program} {w : World} {K : PySem.W.Frag} {mg : Str → Option Value} {base : Heap} {C PC f : Addr} {fd : FuncData}
theorem ok_isTerm (F : Fun K "_is_term" "_is_term" sIsTerm f fd) (B : Bl K mg) (G : FD T P w K mg base "is_int" 1 1 (pIsInt C PC)) : FnOk P w K mg base CX0 2 f fd ["thing", "many"] (spD T K 2 pIsTerm) := by
  refine fd_ok F scIsTerm rfl fun cdv A outer s H E ds d hr _ ⟨k, e1, hl, hp, e2⟩ => ?_
  subst e1; subst e2
  have el : D.len (.tup (k.map D.int)) = some k.length := by show some _ = _; rw [List.length_map]
  refine svs_cons (sv_if (t := false) (TV.cast (TW.tv (tw_orB (t := false) (tv_not (tv_of (ev_isT (d := .tup (k.map D.int)) (ev_var 0 rfl) rfl True.intro B.kT B.tuple (by decide +kernel) B.is))) fun _ => tw_or1 (tv_neI (ev_len el (ev_var 0 rfl) B.len) (ev_var 1 rfl)))) ?_) (fun h => nomatch h) fun _ => svs_nil ?_)
  · rw [decide_eq_true rfl]; rfl
  refine svs_one (sv_ret (EV.cast (ev_all (bs := k.map fun _ => true) (EV.cast (ev_lc [("power", 2)] (.one 2) (fun _ => true) (fun _ => .bl true) (iv_tup (ev_var 0 rfl)) (id (α := BlkOk ["thing", "many", "power"] (defScope sIsTerm) _ [("power", 2)]) ⟨rfl, by decide +kernel, by decide +kernel, by decide +kernel, by decide +kernel⟩)
    (fun s H C cl fp => pg_name (i := 2) scIsTerm.nd rfl (Or.inl rfl)) (fun s H C' cl fp y hy => ts_nil) (fun s H C' cl fp y hy hk => ?_) scIsTerm.nd (fun _ _ => rfl) (by rw [List.length_map]; omega)) ?_) B.all) ?_) rfl)
  · obtain ⟨p, hq, rfl⟩ := List.mem_map.mp hy
    refine EV.cast (ev_andB (t := true) (u := true) (EV.cast (ev_call G hr (evs_cons (ev_var 2 rfl) evs_nil) ⟨.int p, rfl, .inr (.inr ⟨"int", by decide, rfl, trivial⟩), rfl⟩) rfl) fun _ => ev_one (EV.cast (ev_ge (ev_var 2 rfl) ev_int) (by rw [decide_eq_true (hp p hq)]))) rfl
  · show D.lst _ = D.lst _
    unfold outs
    rw [List.filter_eq_self.mpr fun _ _ => rfl, List.map_map, List.map_map]; rfl
  · show D.bl _ = D.bl true
    rw [List.all_map]
    exact congrArg D.bl (List.all_eq_true.mpr fun _ _ => rfl)
theorem ok_one (F : Fun K "_one_form" "_one_form" sOne f fd) (B : Bl K mg) (O : Ra T P w K mg base C PC) (G : FD T P w K mg base "plain" 1 1 (pPlain C)) : FnOk P w K mg base CX0 5 f fd ["terms"] (spD T K 1 (pOne C)) := by
  refine fd_ok F scOne rfl fun cdv A outer s H E ds d hr _ ⟨n, m, e1, hm, e2⟩ => ?_
  subst e1; subst e2
  have hr1 := hr.mono (show 1 ≤ 4 by decide)
  have hlen : (ksM m).length ≤ 100 := by unfold ksM; rw [List.length_map]; exact hm.len
  have hmem : ∀ x, x ∈ (srtI true (ksM m)).map tkI → ∃ k v, x = tkI k ∧ (k, v) ∈ m ∧ lkM m k = some v ∧ gt (toQ m) k = v.1 := fun x hx => by
    obtain ⟨k, hk, rfl⟩ := List.mem_map.mp hx
    obtain ⟨v, h1, h2⟩ := mem_ks ((srt_perm true _).mem_iff.mp hk)
    exact ⟨k, v, rfl, h1, h2, by unfold gt; rw [lk_toQ, h2]; rfl⟩
  refine svs_one (sv_ret (EV.cast (ev_dcT [("term", 1)] (.one 1) (onK false fun k => nz (gt (toQ m) k)) (onK [] iK) (onK .non fun k => numP C (gt (toQ m) k)) hr (iv_list (ev_sortRL (ks := ksM m) (EV.cast (ev_keysT (ev_var 0 rfl) B.list) (by rw [dks_ks, List.map_map]; rfl)) (by omega) (one_key hm.nd hm.key) B.sorted)) (id (α := BlkOk ["terms", "term"] (defScope sOne) _ [("term", 1)]) ⟨rfl, by decide +kernel, by decide +kernel, by decide +kernel, by decide +kernel⟩)
    (fun s H C cl fp => pg_name (i := 1) scOne.nd rfl (Or.inl rfl)) (fun s H C' cl fp x hx => ?_) (fun s H C' cl fp x hx hk => ?_) (fun s H C' cl fp x hx hk => ?_) ?_ scOne.nd (fun _ _ => rfl) (by rw [List.length_map, (srt_perm true _).length_eq]; omega)) ?_) rfl)
  · obtain ⟨k, v, rfl, h1, h2, h3⟩ := hmem x hx
    rw [onK_tk, h3]
    exact ts_one (t_nz O hr (hm.w _ h1) (hm.bn _ h1).lo (ev_getT hr (ev_var 0 rfl) (ev_var 1 rfl) (by rw [look_M, h2]; rfl)) ev_int)
  · obtain ⟨k, v, rfl, h1, h2, h3⟩ := hmem x hx
    rw [onK_tk]
    exact ev_var 1 rfl
  · obtain ⟨k, v, rfl, h1, h2, h3⟩ := hmem x hx
    rw [onK_tk, h3]
    exact EV.cast (ev_call G hr1 (evs_cons (ev_getT hr (d := numV C v) (ev_var 0 rfl) (ev_var 1 rfl) (by rw [look_M, h2]; rfl)) evs_nil) ⟨_, v.1.1, v.1.2, rfl, nuV (hm.w _ h1), rfl⟩) (plain_V (hm.w _ h1))
  · rw [keysC_tk]
    have := nd_canK (m := toQ m) (by rw [ks_toQ]; exact hm.nd)
    unfold canK at this
    rw [ks_toQ] at this
    exact List.Pairwise.map (R := (· ≠ ·)) _ (fun a b n z => n (iK_inj z)) this
  · rw [keysC_tk, outs_tk]
    show D.dcT _ _ = D.dcT _ _
    have e : canK (toQ m) = (srtI true (ksM m)).filter fun k => nz (gt (toQ m) k) := by unfold canK; rw [ks_toQ]
    rw [← e]
    unfold can dks dxs
    rw [List.map_map, List.map_map]; rfl
end
/-! ### Poly(fields, terms) -/
/-- what the top tells of Poly, and what its methods call -/
structure Pf (T : List (Addr × Str)) (P : Program) (w : World) (K : PySem.W.Frag) (mg : Str → Option Value) (base : Heap) (C PC : Addr) : Prop where
  B : Bl K mg
  O : Ra T P w K mg base C PC
  nf : NoAttr K PC "fields"
  nt : NoAttr K PC "_terms"
  nm : FD T P w K mg base "is_name" 1 1 pIsName
  it : FD T P w K mg base "_is_term" 2 2 pIsTerm
  one : FD T P w K mg base "_one_form" 1 5 (pOne C)
theorem take_snoc {α : Type} {l : List α} {i : Nat} {x : α} (h : l[i]? = some x) : l.take i ++ [x] = l.take (i + 1) := by
  rw [List.take_add_one, h]; rfl
section
variable {T : List (Addr × Str)} {P : Program} {w : World} {K : PySem.W.Frag} {mg : Str → Option Value} {base : Heap} {C PC f : Addr} {fd : FuncData} {cdv : Value}
theorem ok_pinit (F : FunZ K "__init__" "Poly.__init__" sPInit f fd cdv) (V : Pf T P w K mg base C PC) : FnOk P w K mg base CX0 6 f fd ["self", "fields", "terms"] (spM T K PC 2 (pPInit C)) := by
  refine init_ok F scPInit rfl fun A outer s H E p ds ns xs hr _ ⟨fs, m, x, e1, hx, hf, hm, e2, e3⟩ => ?_
  subst e1; subst e2; subst e3
  have hr1 := hr.mono (show 1 ≤ 5 by decide)
  have hr2 := hr.mono (show 2 ≤ 5 by decide)
  have B := V.B
  have cl := V.O.R.ikP.cl
  refine svs_cons (sv_setOwn 3 evs_nil ?_ scPInit.nd)
  have iv : ∀ {tg : Expr} {X : Cx} {ss : SS} {e : Expr}, EV T X e ss x → IV T X tg e ss (fs.map D.str) := fun he => by
    rcases hx with rfl | rfl
    · exact iv_list he
    · exact iv_tup he
  refine svs_cons (sv_for (.one 4) (fun i ss => i ≤ fs.length ∧ ∃ s4, ss = [.obj p PC [] [], .d x, .d (dM (numV C) m), .own ((fs.take i).map D.str), s4, .no]) (iv (ev_var 1 rfl)) (pg_name (i := 4) scPInit.nd rfl (Or.inl rfl)) ⟨Nat.zero_le _, _, rfl⟩ ?_ ?_)
  · rintro i y ss' hy ⟨hi, s4, rfl⟩
    obtain ⟨z, hz, rfl⟩ : ∃ z, fs[i]? = some z ∧ D.str z = y := by
      rw [List.getElem?_map] at hy
      exact Option.map_eq_some_iff.mp hy
    have hlt : i < fs.length := (List.getElem?_eq_some_iff.mp hz).1
    have hzm := List.mem_of_getElem? hz
    have nz' := hf.ok z hzm
    have new : z ∉ fs.take i := fun q => by
      have nd := hf.nd
      rw [← List.take_append_drop i fs] at nd
      have hd : z ∈ fs.drop i := by
        refine List.mem_of_getElem? (i := 0) ?_
        rw [List.getElem?_drop]; exact hz
      exact (List.nodup_append.mp nd).2.2 z q z hd rfl
    refine ⟨rfl, svs_cons (sv_if (t := false) (TV.cast (TW.tv (tw_orB (t := false) (tv_not (k := true) (tv_of (ev_call V.nm hr1 (evs_cons (ev_var 4 rfl) evs_nil) ⟨z, rfl, nz', rfl⟩))) fun _ => tw_or1 (tv_inOwn 3 rfl hr1 (ev_var 4 rfl) (Pd.str (nm_ok nz').2) (PdL.strs (zs := fs.take i) fun w hw => (nm_ok (hf.ok w (List.mem_of_mem_take hw))).2)))) ?_) (fun h => nomatch h) fun _ => svs_nil ?_)⟩
    · rw [any_strs, decide_eq_false new]; rfl
    · refine svs_one (sv_append 3 rfl (ev_var 4 rfl) ⟨hlt, .d (.str z), ?_⟩ (by rw [List.length_map, List.length_take]; have := hf.len; omega))
      rw [← take_snoc hz, List.map_append]; rfl
  rintro ss' ⟨_, s4, rfl⟩
  rw [List.length_map, List.take_length]
  refine svs_freeze 3 rfl ?_
  have lk : (ksM m).length ≤ 100 := by unfold ksM; rw [List.length_map]; exact hm.len
  have el : D.len (.lst (fs.map D.str)) = some fs.length := by show some _ = _; rw [List.length_map]
  refine svs_cons (sv_for (.one 5) (fun i ss => ∃ s5, ss = [.obj p PC [] [], .d x, .d (dM (numV C) m), .d (.lst (fs.map D.str)), s4, s5]) (iv_keysT (ev_var 2 rfl)) (pg_name (i := 5) scPInit.nd rfl (Or.inl rfl)) ⟨_, rfl⟩ ?_ ?_)
  · rintro i y ss' hy ⟨s5, rfl⟩
    obtain ⟨k, hk, rfl⟩ : ∃ k, k ∈ ksM m ∧ tkI k = y := by
      have := List.mem_of_getElem? hy
      rw [dks_ks, List.map_map] at this
      obtain ⟨k, h1, h2⟩ := List.mem_map.mp this
      exact ⟨k, h1, h2⟩
    obtain ⟨k1, k2⟩ := hm.key k hk
    refine ⟨rfl, svs_one (sv_if (t := false) (TV.cast (tv_not (k := true) (tv_of (ev_call V.it hr2 (evs_cons (EV.cast (d' := .tup (k.map D.int)) (ev_tk (ks := iK k) (ev_var 5 rfl)) (by rw [List.map_map]; rfl)) (evs_cons (EV.cast (ev_len el (ev_var 3 rfl) B.len) (by rw [← k1])) evs_nil)) ⟨k, rfl, ?_, k2, rfl⟩))) ?_) (fun h => nomatch h) fun _ => svs_nil ⟨_, rfl⟩)⟩
    · rw [k1]; have := hf.len; omega
    · rfl
  rintro ss' ⟨s5, rfl⟩
  refine svs_cons (sv_fldO 0 rfl (ev_tupOf (.inl rfl) (ev_var 3 rfl) B.tuple) ?_ cl V.nf (by decide) (by decide))
  exact svs_one (sv_fldO 0 rfl (ev_call V.one hr (evs_cons (ev_var 2 rfl) evs_nil) ⟨_, m, rfl, hm, rfl⟩) rfl cl V.nt (by decide) (by decide))
end
end K42

set_option Elab.async false
set_option linter.all false
set_option maxRecDepth 100000
set_option maxHeartbeats 4000000
/-! K42e: Poly's product, power, at. -/
namespace K42
open PySem PySem.Spec PyProof.Rows L2 Fd PySem.ExS
section
variable {T : List (Addr × Str)} {X : Cx} {ss : SS} {e : Expr} {p pos : Pos}
/-- tuple(e) of a list of whole numbers, as a key -/
theorem ev_tupKey {k : List Int} (ha : EV T X e ss (.lst (k.map D.int))) (hm : X.mg "tuple" = none) (hg : Gl X "tuple" := by rfl) (he : starEach [e] X.env = [(false, eval e X.env)] := by rfl) : EV T X (.Call (.Name "tuple" p) [e] [] pos) ss (tkI k) :=
  ev_bty call_tuple_of (evs_cons ha evs_nil he) hm Fd.boot_tuple (fun B F H σ vs Q R i1 q => by
    obtain ⟨v, rfl, a, us, rfl, q1, q2⟩ := isL1 i1
    refine ⟨a, us, rfl, .inl ⟨SqL.of (R.sub _ _ q1), fun l hl => q _ _ _ (Nx.alloc R.sub hl) (R.alloc hl) ⟨l, rfl, ?_⟩⟩⟩
    rw [upd_same, ints_lst q2, kV_iK]) hg (he := he)
end
theorem scIsPN : FnScope ["thing"] ["thing"] (defScope sIsPN) := ⟨rfl, rfl, rfl, by decide +kernel, rfl, by decide +kernel, by decide +kernel⟩
theorem scProd : FnScope ["one", "other", "total", "powers", "number", "more", "factor", "term", "power", "added"] ["one", "other"] (defScope sProd) := ⟨rfl, rfl, rfl, by decide +kernel, rfl, by decide +kernel, by decide +kernel⟩
theorem scPows : FnScope ["one", "base", "top", "found", "_"] ["one", "base", "top"] (defScope sPows) := ⟨rfl, rfl, rfl, by decide +kernel, rfl, by decide +kernel, by decide +kernel⟩
theorem scVal : FnScope ["terms", "tables", "zero", "total", "term", "number", "worth", "power", "table"] ["terms", "tables", "zero"] (defScope sVal) := ⟨rfl, rfl, rfl, by decide +kernel, rfl, by decide +kernel, by decide +kernel⟩
theorem scPTerms : FnScope ["self", "other"] ["self", "other"] (defScope sPTerms) := ⟨rfl, rfl, rfl, by decide +kernel, rfl, by decide +kernel, by decide +kernel⟩
theorem scPMul : FnScope ["self", "other"] ["self", "other"] (defScope sPMul) := ⟨rfl, rfl, rfl, by decide +kernel, rfl, by decide +kernel, by decide +kernel⟩
theorem scPPower : FnScope ["self", "k", "term"] ["self", "k"] (defScope sPPower) := ⟨rfl, rfl, rfl, by decide +kernel, rfl, by decide +kernel, by decide +kernel⟩
theorem scPAt : FnScope ["self", "numbers", "tables", "k", "number"] ["self", "numbers"] (defScope sPAt) := ⟨rfl, rfl, rfl, by decide +kernel, rfl, by decide +kernel, by decide +kernel⟩
def bodyFor : Stmt → List Stmt
  | .For _ _ b _ _ => b
  | _ => []
def sInner : Stmt := (bodyFor ((defBody sProd).getD 1 (.Pass pT))).getD 0 (.Pass pT)
theorem pairs_M {α : Type} (e : α → D) : ∀ l : KL α, pairsT (dks l) (dxs e l) = l.map fun q => .tup [tkI q.1, e q.2]
  | [] => rfl
  | q :: l => congrArg (D.tup [tkI q.1, e q.2] :: ·) (pairs_M e l)
theorem getV_D (C : Addr) (m : KL V3) (k : List Int) : (look (dks m) (dxs (numV C) m) (iK k)).getD (.int 0) = numV C (getV m k) := by
  rw [look_M]
  unfold getV
  cases lkM m k <;> rfl
def addD : D → D
  | .tup [.int a, .int b] => .int (a + b)
  | _ => .non
theorem outs_add : ∀ k l : List Int, outs (fun _ => true) addD (zips (k.map D.int) (l.map D.int)) = (addK k l).map D.int
  | [], _ => rfl
  | _ :: _, [] => rfl
  | a :: k, b :: l => by
    have ih := outs_add k l
    unfold outs zips at ih ⊢
    show List.map addD (List.filter _ (D.tup [.int a, .int b] :: _)) = D.int (a + b) :: (addK k l).map D.int
    rw [List.filter_cons, if_pos rfl, List.map_cons]
    exact congrArg (D.int (a + b) :: ·) ih
theorem ints_zip {k l : List Int} {y : D} (h : y ∈ zips (k.map D.int) (l.map D.int)) : ∃ a b, y = .tup [.int a, .int b] := by
  unfold zips at h
  obtain ⟨z, hz, rfl⟩ := List.mem_map.mp h
  obtain ⟨a, b⟩ := z
  have h1 := List.of_mem_zip hz
  obtain ⟨x, _, rfl⟩ := List.mem_map.mp h1.1
  obtain ⟨p, _, rfl⟩ := List.mem_map.mp h1.2
  exact ⟨x, p, rfl⟩
def pProd (C : Addr) (ds : List D) (d : D) : Prop := ∃ a b n, ds = [dM (numP C) a, dM (numP C) b] ∧ FOk n a ∧ FOk n b ∧ n ≤ 2 ∧ d = dM (numV C) (prodV a b)
def pPows (C : Addr) (ds : List D) (d : D) : Prop := ∃ (x : V3) (t : Nat), ds = [.int 1, numV C x, .int (t : Nat)] ∧ W3 x ∧ Bq 70 4 x.1 ∧ t ≤ 6 ∧ d = .lst ((tabV x t).map (numV C))
/-- terms and tables that go together -/
structure VOk (m : KL Q2) (xs : List V3) (ts : List Nat) : Prop where
  tb : ∀ q ∈ m, Tb 70 4 q.1 xs ts ∧ q.1.length ≤ 2 ∧ Bq 120 97 q.2
  len : m.length ≤ 16
def tabsD (C : Addr) (xs : List V3) (ts : List Nat) : List D := (List.zipWith tabV xs ts).map fun t => .lst (t.map (numV C))
def pVal (C : Addr) (ds : List D) (d : D) : Prop := ∃ m xs ts, ds = [dM (numP C) m, .lst (tabsD C xs ts), .int 0] ∧ VOk m xs ts ∧ d = numV C (valV m (List.zipWith tabV xs ts))
def pIsPN (PC : Addr) (ds : List D) (d : D) : Prop := ∃ ns xs, ds = [.ins PC ns xs] ∧ d = .bl true
def pPTerms (C PC : Addr) (ds : List D) (d : D) : Prop := ∃ fs a b, ds = [polyD C PC fs a, polyD C PC fs b] ∧ Nms fs ∧ d = dM (numP C) b
def pPMul (C PC : Addr) (ds : List D) (d : D) : Prop := ∃ fs a b, ds = [polyD C PC fs a, polyD C PC fs b] ∧ Nms fs ∧ FOk fs.length a ∧ FOk fs.length b ∧ d = polyD C PC fs (can (toQ (prodV a b)))
/-- the greatest power of the field number k -/
def topP (m : KL Q2) (k : Nat) : Int := mx (m.map fun q => q.1.getD k 0)
/-- the terms of a polynomial that is asked -/
structure MA (n : Nat) (m : KL Q2) : Prop where
  key : ∀ q ∈ m, q.1.length = n ∧ ∀ p ∈ q.1, 0 ≤ p ∧ p ≤ 6
  bq : ∀ q ∈ m, Bq 120 97 q.2
  len : m.length ≤ 16
def pPPower (C PC : Addr) (ds : List D) (d : D) : Prop := ∃ fs m, ∃ k : Nat, ds = [polyD C PC fs m, .int (k : Nat)] ∧ k < fs.length ∧ Nms fs ∧ MA fs.length m ∧ d = .int (topP m k)
def tsOf (m : KL Q2) (n : Nat) : List Nat := (List.range n).map fun i => (topP m i).toNat
/-- numbers that are put in -/
def Xs (n : Nat) (xs : List V3) : Prop := xs.length = n ∧ ∀ x ∈ xs, W3 x ∧ Bq 70 4 x.1
def pPAt (C PC : Addr) (ds : List D) (d : D) : Prop := ∃ fs m xs y, ds = [polyD C PC fs m, y] ∧ (y = .lst (xs.map (numV C)) ∨ y = .tup (xs.map (numV C))) ∧ Nms fs ∧ MA fs.length m ∧ Xs fs.length xs ∧ d = numP C (valV m (List.zipWith tabV xs (tsOf m fs.length))).1
theorem topP_le {m : KL Q2} {n k : Nat} (h : MA n m) (hk : k < n) : (∀ q ∈ m, q.1.getD k 0 ≤ topP m k) ∧ 0 ≤ topP m k ∧ topP m k ≤ 6 := by
  have at0 : ∀ q ∈ m, 0 ≤ q.1.getD k 0 ∧ q.1.getD k 0 ≤ 6 := fun q hq => by
    obtain ⟨l, r⟩ := h.key q hq
    rw [List.getD_eq_getElem?_getD, List.getElem?_eq_getElem (show k < q.1.length by omega)]
    exact r _ (List.getElem_mem _)
  unfold topP
  by_cases e : m = []
  · subst e
    exact ⟨fun _ z => (nomatch z), Int.le_refl 0, by show (0 : Int) ≤ 6; decide⟩
  · obtain ⟨a, b⟩ := mx_in (zs := m.map fun q => q.1.getD k 0) (fun z => e (List.map_eq_nil_iff.mp z))
    obtain ⟨q, hq, eq⟩ := List.mem_map.mp a
    obtain ⟨c1, c2⟩ := at0 q hq
    exact ⟨fun r hr => b _ (List.mem_map_of_mem hr), by omega, by omega⟩
theorem tb_of {n' m' : Nat} : ∀ {k : List Int} {xs : List V3} {ts : List Nat}, k.length = xs.length → k.length = ts.length → (∀ (i : Nat) (p : Int) (t : Nat), k[i]? = some p → ts[i]? = some t → 0 ≤ p ∧ p.toNat ≤ t ∧ p ≤ 6) → (∀ x ∈ xs, W3 x ∧ Bq n' m' x.1) → Tb n' m' k xs ts
  | [], [], [], _, _, _, _ => trivial
  | p :: k, x :: xs, t :: ts, h1, h2, h, hx => by
    obtain ⟨a, b, c⟩ := h 0 p t rfl rfl
    obtain ⟨d, e⟩ := hx x List.mem_cons_self
    exact ⟨a, b, c, d, e, tb_of (by simpa using h1) (by simpa using h2) (fun i p t g1 g2 => h (i + 1) p t (by simpa using g1) (by simpa using g2)) fun y hy => hx y (List.mem_cons_of_mem _ hy)⟩
  | [], _ :: _, _, h, _, _, _ => by simp at h
  | [], [], _ :: _, _, h, _, _ => by simp at h
  | _ :: _, [], _, h, _, _, _ => by simp at h
  | _ :: _, _ :: _, [], _, h, _, _ => by simp at h
theorem ts_len (m : KL Q2) (n : Nat) : (tsOf m n).length = n := by unfold tsOf; rw [List.length_map, List.length_range]
theorem ts_get {m : KL Q2} {n i : Nat} (h : i < n) : (tsOf m n)[i]? = some (topP m i).toNat := by
  unfold tsOf
  rw [List.getElem?_map, List.getElem?_range h]; rfl
theorem vok_of {n : Nat} {m : KL Q2} {xs : List V3} (hn : n ≤ 2) (h : MA n m) (hx : Xs n xs) : VOk m xs (tsOf m n) := ⟨fun q hq => by
  obtain ⟨l, r⟩ := h.key q hq
  refine ⟨tb_of (by rw [l, hx.1]) (by rw [l, ts_len]) (fun i p t g1 g2 => ?_) hx.2, by omega, h.bq q hq⟩
  have hi : i < n := by rw [← l]; exact (List.getElem?_eq_some_iff.mp g1).1
  rw [ts_get hi] at g2
  cases g2
  obtain ⟨a, b, c⟩ := topP_le h hi
  have := a q hq
  rw [List.getD_eq_getElem?_getD, g1] at this
  have this : p ≤ topP m i := this
  obtain ⟨r1, r2⟩ := r p (List.mem_of_getElem? g1)
  exact ⟨r1, by omega, r2⟩, h.len⟩
theorem Tb.take {n' m' : Nat} : ∀ (j : Nat) {k : List Int} {xs : List V3} {ts : List Nat}, Tb n' m' k xs ts → Tb n' m' (k.take j) (xs.take j) (ts.take j)
  | 0, _, _, _, _ => trivial
  | j + 1, [], [], [], _ => trivial
  | j + 1, p :: k, x :: xs, t :: ts, h => ⟨h.1, h.2.1, h.2.2.1, h.2.2.2.1, h.2.2.2.2.1, Tb.take j h.2.2.2.2.2⟩
  | _ + 1, [], _ :: _, _, h => h.elim
  | _ + 1, [], [], _ :: _, h => h.elim
  | _ + 1, _ :: _, [], _, h => h.elim
  | _ + 1, _ :: _, _ :: _, [], h => h.elim
theorem Tb.get {n' m' : Nat} : ∀ {i : Nat} {k : List Int} {xs : List V3} {ts : List Nat} {p : Int} {t : List V3}, Tb n' m' k xs ts → (k.zip (List.zipWith tabV xs ts))[i]? = some (p, t) → 0 ≤ p ∧ p ≤ 6 ∧ ∃ x u, t = tabV x u ∧ p.toNat ≤ u ∧ W3 x ∧ Bq n' m' x.1
  | 0, p :: k, x :: xs, t :: ts, _, _, h, e => by
    cases e
    exact ⟨h.1, h.2.2.1, x, t, rfl, h.2.1, h.2.2.2.1, h.2.2.2.2.1⟩
  | i + 1, p :: k, x :: xs, t :: ts, _, _, h, e => Tb.get (i := i) h.2.2.2.2.2 (by simpa using e)
  | _, [], _, _, _, _, _, e => by simp at e
  | _, _ :: _, [], _, _, _, h, _ => h.elim
  | _, _ :: _, _ :: _, [], _, _, h, _ => h.elim
theorem take_zip2 {α β : Type} (l : List α) (r : List β) (j : Nat) : (l.zip r).take j = (l.take j).zip (r.take j) := by
  rw [List.zip_eq_zipWith, List.zip_eq_zipWith, List.take_zipWith]
/-- a number as a datum, back -/
def unV : D → V3
  | .int t => ((t, 1), false)
  | .ins _ _ [.int t, .int b] => ((t, b), true)
  | _ => ((0, 1), false)
theorem unV_num {C : Addr} {x : V3} (h : W3 x) : unV (numV C x) = x := by
  obtain ⟨⟨t, b⟩, k⟩ := x
  cases k with
  | true => rfl
  | false =>
    have e : b = 1 := h rfl
    subst e; rfl
def tabF (C : Addr) (m : KL Q2) : D → D
  | .tup [.int i, d] => .lst ((tabV (unV d) (topP m i.toNat).toNat).map (numV C))
  | _ => .non
theorem outs_tab {C : Addr} {m : KL Q2} {xs : List V3} (hw : ∀ x ∈ xs, W3 x) : outs (fun _ => true) (tabF C m) (nums 0 (xs.map (numV C))) = tabsD C xs (tsOf m xs.length) := by
  refine List.ext_getElem? fun i => ?_
  unfold outs tabsD
  rw [List.filter_eq_self.mpr fun _ _ => rfl, List.getElem?_map, List.getElem?_map]
  by_cases h : i < xs.length
  · rw [nums_get (xs.map (numV C)) 0 i (numV C xs[i]) (by rw [List.getElem?_map, List.getElem?_eq_getElem h]; rfl), List.getElem?_zipWith, List.getElem?_eq_getElem h, ts_get h, Nat.zero_add]
    show some (D.lst ((tabV (unV (numV C xs[i])) (topP m (i : Int).toNat).toNat).map (numV C))) = _
    rw [unV_num (hw _ (List.getElem_mem h)), Int.toNat_natCast]; rfl
  · rw [List.getElem?_eq_none (by rw [nums_len, List.length_map]; omega), List.getElem?_eq_none (by rw [List.length_zipWith]; omega)]; rfl
/-- what else the top tells of Poly -/
structure Pg (T : List (Addr × Str)) (P : Program) (w : World) (K : PySem.W.Frag) (mg : Str → Option Value) (base : Heap) (C PC : Addr) : Prop where
  V : Pf T P w K mg base C PC
  mgP : mg "Poly" = some (.ref PC)
  pP : PySem.W.kitOne K (.ref PC) (.ref PC) = some true
  isi : FD T P w K mg base "is_int" 1 1 (pIsInt C PC)
  isn : FD T P w K mg base "is_number" 1 2 (pIsNum C PC)
  plain : FD T P w K mg base "plain" 1 1 (pPlain C)
  pn : FD T P w K mg base "_is_poly_or_number" 1 1 (pIsPN PC)
  prod : FD T P w K mg base "_product_of_terms" 2 4 (pProd C)
  pows : FD T P w K mg base "_powers" 3 4 (pPows C)
  value : FD T P w K mg base "_value" 3 4 (pVal C)
  to : ∃ f, OwnM T P w K mg base PC "_terms_of" 2 3 (pPTerms C PC) f
  mkP : MD T P w K mg base "Poly" PC 2 6 (pPInit C)
theorem num_d {j : Nat} {v : V3} (h : Bq j j v.1) (hj : j ≤ 4400) : Bn 4400 v.1 := h.bn hj hj
section
variable {T : List (Addr × Str)} {P : Program} {w : World} {K : PySem.W.Frag} {mg : Str → Option Value} {base : Heap} {C PC f : Addr} {fd : FuncData} {cdv : Value}
theorem names_pd {fs : List Str} (h : Nms fs) : Pd (.tup (fs.map D.str)) (.tuple (fs.map PyData.str)) 1 := Pd.tup (PdL.strs fun z hz => (nm_ok (h.ok z hz)).2)
theorem ok_isPN (F : Fun K "_is_poly_or_number" "_is_poly_or_number" sIsPN f fd) (R : Rt K mg C PC) (mgP : mg "Poly" = some (.ref PC)) (pP : PySem.W.kitOne K (.ref PC) (.ref PC) = some true) : FnOk P w K mg base CX0 1 f fd ["thing"] (spD T K 1 (pIsPN PC)) := by
  refine fd_ok F scIsPN rfl fun cdv A outer s H E ds d hr _ ⟨ns, xs, e1, e2⟩ => ?_
  subst e1; subst e2
  exact svs_one (sv_ret (EV.cast (ev_orB (t := true) (u := false) (ev_isO (ev_var 0 rfl) rfl R.ikP pP mgP R.bIs) fun z => nomatch z) rfl) rfl)
theorem ok_terms (F : Fun K "_terms_of" "Poly._terms_of" sPTerms f fd) (R : Rt K mg C PC) (nf : NoAttr K PC "fields") (nt : NoAttr K PC "_terms") (isn : FD T P w K mg base "is_number" 1 2 (pIsNum C PC)) : FnOk P w K mg base CX0 3 f fd ["self", "other"] (spD T K 2 (pPTerms C PC)) := by
  refine fd_ok F scPTerms rfl fun cdv A outer s H E ds d hr _ ⟨fs, a, b, e1, hf, e2⟩ => ?_
  subst e1; subst e2
  have pd := names_pd hf
  refine svs_cons (sv_if (t := false) (tv_of (EV.cast (ev_call isn hr (evs_cons (ev_var 1 rfl) evs_nil) ⟨_, rfl, .inr (.inl ⟨_, _, rfl⟩), rfl⟩) ?_)) (fun z => nomatch z) fun _ => svs_nil ?_)
  · show D.bl (PC == C) = _
    rw [R.ne]
  refine svs_cons (sv_if (t := false) (TV.cast (tv_neD hr (ev_fld (ev_var 1 rfl) R.ikP.cl nf 0 rfl rfl (by decide)) (ev_fld (ev_var 0 rfl) R.ikP.cl nf 0 rfl rfl (by decide)) pd.py pd.py pd.shaped pd.shaped) (by rw [eqv_self pd]; rfl)) (fun z => nomatch z) fun _ => svs_nil ?_)
  exact svs_one (sv_ret (ev_fld (ev_var 1 rfl) R.ikP.cl nt 1 rfl rfl (by decide)) rfl)
theorem ok_prod (F : Fun K "_product_of_terms" "_product_of_terms" sProd f fd) (B : Bl K mg) (O : Ra T P w K mg base C PC) : FnOk P w K mg base CX0 4 f fd ["one", "other"] (spD T K 2 (pProd C)) := by
  refine fd_ok F scProd rfl fun cdv A outer s H E ds d hr _ ⟨a, b, n, e1, ha, hb, hn, e2⟩ => ?_
  subst e1; subst e2
  have hbA := fun q (hq : q ∈ b) => hb.at hq
  refine svs_cons (sv_newT 2 ?_ scProd.nd)
  refine svs_cons (sv_for (.many [3, 4]) (fun i ss => i ≤ a.length ∧ ∃ s3 s4 s5 s6 s7 s8 s9, ss = [.d (dM (numP C) a), .d (dM (numP C) b), .dicT (dks ((a.take i).foldl (rowP b) [])) (dxs (numV C) ((a.take i).foldl (rowP b) [])), s3, s4, s5, s6, s7, s8, s9]) (iv_itemsT (ev_var 0 rfl)) (pg_tup rfl (pgs_cons (pg_name (i := 3) scProd.nd rfl (Or.inl rfl)) (pgs_cons (pg_name (i := 4) scProd.nd rfl (Or.inl rfl)) pgs_nil))) ⟨Nat.zero_le _, _, _, _, _, _, _, _, rfl⟩ ?_ ?_)
  · rintro i x ss' hx ⟨hi, s3, s4, s5, s6, s7, s8, s9, rfl⟩
    rw [pairs_M, List.getElem?_map] at hx
    obtain ⟨q, hq1, rfl⟩ := Option.map_eq_some_iff.mp hx
    have hlt : i < a.length := (List.getElem?_eq_some_iff.mp hq1).1
    have hqm := List.mem_of_getElem? hq1
    have et : a.take (i + 1) = a.take i ++ [q] := by rw [List.take_add_one, hq1]; rfl
    have eo : (a.take (i + 1)).foldl (rowP b) [] = b.foldl (stepP q) ((a.take i).foldl (rowP b) []) := by rw [et, List.foldl_append]; rfl
    obtain ⟨pa, _⟩ := prod_go hb (a := a.take i) (fun q hq => ha.at (List.mem_of_mem_take hq)) (pa0 n)
    rw [List.length_take, Nat.zero_add] at pa
    rw [eo]
    have li : b.length * min i a.length ≤ 4 * 3 := Nat.mul_le_mul hb.len (by have := ha.len; omega)
    have pa' := pa.up li
    generalize (a.take i).foldl (rowP b) [] = ac at pa'
    clear pa eo
    refine ⟨rfl, svs_one (sv_for (.many [5, 6]) (fun j ss => j ≤ b.length ∧ ∃ s5 s6 s7 s8 s9, ss = [.d (dM (numP C) a), .d (dM (numP C) b), .dicT (dks ((b.take j).foldl (stepP q) ac)) (dxs (numV C) ((b.take j).foldl (stepP q) ac)), .d (tkI q.1), .d (numP C q.2), s5, s6, s7, s8, s9]) (iv_itemsT (ev_var 1 rfl)) (pg_tup rfl (pgs_cons (pg_name (i := 5) scProd.nd rfl (Or.inl rfl)) (pgs_cons (pg_name (i := 6) scProd.nd rfl (Or.inl rfl)) pgs_nil))) ⟨Nat.zero_le _, _, _, _, _, _, rfl⟩ ?_ ?_)⟩
    · rintro j x ss' hx ⟨hj, s5, s6, s7, s8, s9, rfl⟩
      rw [pairs_M, List.getElem?_map] at hx
      obtain ⟨r, hr1, rfl⟩ := Option.map_eq_some_iff.mp hx
      have hlt2 : j < b.length := (List.getElem?_eq_some_iff.mp hr1).1
      have hrm := List.mem_of_getElem? hr1
      have et2 : b.take (j + 1) = b.take j ++ [r] := by rw [List.take_add_one, hr1]; rfl
      obtain ⟨pb, _⟩ := row_go (ha.at hqm) (b := b.take j) (fun z hz => hb.at (List.mem_of_mem_take hz)) pa'
      rw [List.length_take] at pb
      have pb' := pb.up (show 4 * 3 + min j b.length ≤ 15 by have := hb.len; omega)
      have es : (b.take (j + 1)).foldl (stepP q) ac = stepP q ((b.take j).foldl (stepP q) ac) r := by rw [et2, List.foldl_append]; rfl
      generalize (b.take j).foldl (stepP q) ac = ad at pb' es
      obtain ⟨g1, g2⟩ := pb'.get (addK q.1 r.1)
      have mb : Bq 8 6 (mulQ q.2 r.2) := mulQ_bq (ha.bq q hqm).raw (hb.bq r hrm).raw
      have lk : q.1.length = n := (ha.at hqm).1.1
      refine ⟨rfl, svs_cons (sv_set 7 (ev_tupKey (k := addK q.1 r.1) (EV.cast (ev_lc [("power", 8), ("added", 9)] (.many [8, 9]) (fun _ => true) addD (iv_zipTT (EV.cast (d' := .tup (q.1.map D.int)) (ev_tk (ks := iK q.1) (ev_var 3 rfl)) (by rw [List.map_map]; rfl)) (EV.cast (d' := .tup (r.1.map D.int)) (ev_tk (ks := iK r.1) (ev_var 5 rfl)) (by rw [List.map_map]; rfl)) B.zip) (id (α := BlkOk ["one", "other", "total", "powers", "number", "more", "factor", "term", "power", "added"] (defScope sProd) _ [("power", 8), ("added", 9)]) ⟨rfl, by decide +kernel, by decide +kernel, by decide +kernel, by decide +kernel⟩)
        (fun s H C cl fp => pg_tup rfl (pgs_cons (pg_name (i := 8) scProd.nd rfl (Or.inl rfl)) (pgs_cons (pg_name (i := 9) scProd.nd rfl (Or.inl rfl)) pgs_nil))) (fun s H C' cl fp y hy => ts_nil) (fun s H C' cl fp y hy hk => ?_) scProd.nd (fun y hy => by obtain ⟨z1, z2, rfl⟩ := ints_zip hy; rfl) (by rw [zips_len, List.length_map]; omega)) (congrArg D.lst (outs_add q.1 r.1))) B.tuple) ?_ scProd.nd)⟩
      · obtain ⟨z1, z2, rfl⟩ := ints_zip hy
        exact ev_add (ev_var 8 rfl) (ev_var 9 rfl)
      refine svs_one (sv_putT (kk := iK (addK q.1 r.1)) 2 rfl hr (e_add O hr g1 (w_mul (w_pl q.2) (w_pl r.2)) (g2.bn (by omega) (by omega)) (mb.bn (by decide) (by decide)) (ev_getOD (kk := iK (addK q.1 r.1)) 2 rfl hr (ev_var 7 rfl) ev_int (getV_D C ad _)) (e_mul O hr (w_pl q.2) (w_pl r.2) ((ha.bq q hqm).bn (by decide) (by decide)) ((hb.bq r hrm).bn (by decide) (by decide)) (ev_var 4 rfl) (ev_var 6 rfl))) (ev_var 7 rfl) ⟨hlt2, .d (tkI r.1), .d (numP C r.2), .d (tkI (addK q.1 r.1)), s8, s9, ?_⟩ ?_)
      · rw [es, putKs_M, putXs_M]; rfl
      · rw [len_dks]; have := pb'.len; omega
    · rintro ss' ⟨_, s5, s6, s7, s8, s9, rfl⟩
      have e : (pairsT (dks b) (dxs (numP C) b)).length = b.length := by rw [pairs_M, List.length_map]
      rw [e, List.take_length]
      exact ⟨hlt, _, _, _, _, _, _, _, rfl⟩
  · rintro ss' ⟨_, s3, s4, s5, s6, s7, s8, s9, rfl⟩
    have e : (pairsT (dks a) (dxs (numP C) a)).length = a.length := by rw [pairs_M, List.length_map]
    rw [e, List.take_length]
    exact svs_freezeT 2 rfl (svs_one (sv_ret (ev_var 2 rfl) rfl))
theorem ok_pows (F : Fun K "_powers" "_powers" sPows f fd) (B : Bl K mg) (O : Ra T P w K mg base C PC) : FnOk P w K mg base CX0 4 f fd ["one", "base", "top"] (spD T K 3 (pPows C)) := by
  refine fd_ok F scPows rfl fun cdv A outer s H E ds d hr _ ⟨x, t, e1, wx, bx, ht, e2⟩ => ?_
  subst e1; subst e2
  refine svs_cons (sv_setOwn 3 (evs_cons (ev_var 0 rfl) evs_nil) ?_ scPows.nd)
  refine svs_cons (sv_for (.one 4) (fun i ss => ∃ s4, ss = [.d (.int 1), .d (numV C x), .d (.int (t : Nat)), .own ((tabV x i).map (numV C)), s4]) (iv_range1 (n := ((t : Nat) : Int)) (ev_var 2 rfl) (by omega) B.range) (pg_name (i := 4) scPows.nd rfl (Or.inl rfl)) ⟨_, rfl⟩ ?_ ?_)
  · rintro i y ss' hy ⟨s4, rfl⟩
    have hi : i < t := by
      have := (List.getElem?_eq_some_iff.mp hy).1
      rw [rng_len, Int.toNat_natCast] at this; exact this
    obtain ⟨c1, c2, _⟩ := powV_ok wx bx i
    have et : ∀ j, (tabV x j).map (numV C) = ((List.range j).map (powV x)).map (numV C) ++ [numV C (powV x j)] := fun j => by unfold tabV; rw [List.range_succ, List.map_append, List.map_append]; rfl
    refine ⟨rfl, svs_one (sv_append 3 rfl (d := numV C (powV x (i + 1))) (e_mul O hr c1 wx (c2.bn (by omega) (by omega)) (bx.bn (by decide) (by decide)) (ev_lastO (xs := ((List.range i).map (powV x)).map (numV C)) 3 (by rw [← et]; rfl)) (ev_var 1 rfl)) ⟨.d y, ?_⟩ (by unfold tabV; simp; omega))⟩
    rw [et (i + 1)]; rfl
  · rintro ss' ⟨s4, rfl⟩
    rw [rng_len, Int.toNat_natCast]
    exact svs_freeze 3 rfl (svs_one (sv_ret (ev_var 3 rfl) rfl))
theorem ok_value (F : Fun K "_value" "_value" sVal f fd) (B : Bl K mg) (O : Ra T P w K mg base C PC) : FnOk P w K mg base CX0 4 f fd ["terms", "tables", "zero"] (spD T K 3 (pVal C)) := by
  refine fd_ok F scVal rfl fun cdv A outer s H E ds d hr _ ⟨m, xs, ts, e1, hv, e2⟩ => ?_
  subst e1; subst e2
  have each : ∀ q ∈ m, W3 (worth q (List.zipWith tabV xs ts)) ∧ Bq (120 + (70 * 6 + 1) * 2) (97 + (4 * 6 + 1) * 2) (worth q (List.zipWith tabV xs ts)).1 ∧ R (worth q (List.zipWith tabV xs ts)).1 = R q.2 * mono q.1 (xs.map fun x => R x.1) := fun q hq => by
    obtain ⟨h1, h2, h3⟩ := hv.tb q hq
    obtain ⟨w1, w2, w3⟩ := worth_go h1 (w_pl q.2) (show Bq 120 97 (pl q.2).1 from h3)
    have l1 : (70 * 6 + 1) * q.1.length ≤ (70 * 6 + 1) * 2 := Nat.mul_le_mul_left _ h2
    have l2 : (4 * 6 + 1) * q.1.length ≤ (4 * 6 + 1) * 2 := Nat.mul_le_mul_left _ h2
    exact ⟨w1, w2.up (by omega) (by omega), w3⟩
  refine svs_cons (sv_set 3 (ev_var 2 rfl) ?_ scVal.nd)
  refine svs_cons (sv_for (.many [4, 5]) (fun i ss => i ≤ m.length ∧ ∃ s4 s5 s6 s7 s8, ss = [.d (dM (numP C) m), .d (.lst (tabsD C xs ts)), .d (.int 0), .d (numV C (valV (m.take i) (List.zipWith tabV xs ts))), s4, s5, s6, s7, s8]) (iv_itemsT (ev_var 0 rfl)) (pg_tup rfl (pgs_cons (pg_name (i := 4) scVal.nd rfl (Or.inl rfl)) (pgs_cons (pg_name (i := 5) scVal.nd rfl (Or.inl rfl)) pgs_nil))) ⟨Nat.zero_le _, _, _, _, _, _, rfl⟩ ?_ ?_)
  · rintro i x ss' hx ⟨hi, s4, s5, s6, s7, s8, rfl⟩
    rw [pairs_M, List.getElem?_map] at hx
    obtain ⟨q, hq1, rfl⟩ := Option.map_eq_some_iff.mp hx
    have hlt : i < m.length := (List.getElem?_eq_some_iff.mp hq1).1
    have hqm := List.mem_of_getElem? hq1
    obtain ⟨h1, h2, h3⟩ := hv.tb q hqm
    obtain ⟨a1, a2, _⟩ := valV_ok (n := 70) (m := 4) (a := 120) (b := 97) (l := m.take i) (fun z hz => hv.tb z (List.mem_of_mem_take hz)) (by decide) (by rw [List.length_take]; have := hv.len; omega)
    have et : valV (m.take (i + 1)) (List.zipWith tabV xs ts) = addV (valV (m.take i) (List.zipWith tabV xs ts)) (worth q (List.zipWith tabV xs ts)) := by
      unfold valV
      rw [List.take_add_one, hq1, List.foldl_append]; rfl
    obtain ⟨b1, b2, _⟩ := each q hqm
    refine ⟨rfl, svs_cons (sv_set 6 (ev_var 5 rfl) ?_ scVal.nd)⟩
    refine svs_cons (sv_for (.many [7, 8]) (fun j ss => j ≤ (q.1.zip (List.zipWith tabV xs ts)).length ∧ ∃ s7 s8, ss = [.d (dM (numP C) m), .d (.lst (tabsD C xs ts)), .d (.int 0), .d (numV C (valV (m.take i) (List.zipWith tabV xs ts))), .d (tkI q.1), .d (numP C q.2), .d (numV C (((q.1.zip (List.zipWith tabV xs ts)).take j).foldl stepW (pl q.2))), s7, s8]) (iv_zipTL (EV.cast (d' := .tup (q.1.map D.int)) (ev_tk (ks := iK q.1) (ev_var 4 rfl)) (by rw [List.map_map]; rfl)) (ev_var 1 rfl) B.zip) (pg_tup rfl (pgs_cons (pg_name (i := 7) scVal.nd rfl (Or.inl rfl)) (pgs_cons (pg_name (i := 8) scVal.nd rfl (Or.inl rfl)) pgs_nil))) ⟨Nat.zero_le _, _, _, rfl⟩ ?_ ?_)
    · rintro j y ss' hy ⟨hj, s7, s8, rfl⟩
      have hzl : (zips (q.1.map D.int) (tabsD C xs ts)).length = (q.1.zip (List.zipWith tabV xs ts)).length := by rw [zips_len, List.length_zip]; unfold tabsD; rw [List.length_map, List.length_map]
      have hlt2 : j < (q.1.zip (List.zipWith tabV xs ts)).length := by rw [← hzl]; exact (List.getElem?_eq_some_iff.mp hy).1
      have hz := List.getElem?_eq_getElem hlt2
      generalize (q.1.zip (List.zipWith tabV xs ts))[j] = z at hz
      obtain ⟨p, t⟩ := z
      obtain ⟨p0, p6, x, u, rfl, pu, wx, bx⟩ := h1.get hz
      have hy2 : (zips (q.1.map D.int) (tabsD C xs ts))[j]? = some (.tup [.int p, .lst ((tabV x u).map (numV C))]) := by
        obtain ⟨z1, z2⟩ := List.getElem?_zip_eq_some.mp hz
        refine zips_get ?_ ?_
        · rw [List.getElem?_map, z1]; rfl
        · unfold tabsD; rw [List.getElem?_map, z2]; rfl
      rw [hy2] at hy
      obtain rfl := Option.some.inj hy
      have ej : ((q.1.zip (List.zipWith tabV xs ts)).take (j + 1)).foldl stepW (pl q.2) = stepW (((q.1.zip (List.zipWith tabV xs ts)).take j).foldl stepW (pl q.2)) (p, tabV x u) := by rw [List.take_add_one, hz, List.foldl_append]; rfl
      have wk : W3 (((q.1.zip (List.zipWith tabV xs ts)).take j).foldl stepW (pl q.2)) ∧ Bq (120 + (70 * 6 + 1) * 2) (97 + (4 * 6 + 1) * 2) (((q.1.zip (List.zipWith tabV xs ts)).take j).foldl stepW (pl q.2)).1 := by
        have hw := worth_go (h1.take j) (w_pl q.2) (show Bq 120 97 (pl q.2).1 from h3)
        rw [take_zip2, List.take_zipWith]
        have l0 : (q.1.take j).length ≤ 2 := by rw [List.length_take]; omega
        have l1 : (70 * 6 + 1) * (q.1.take j).length ≤ (70 * 6 + 1) * 2 := Nat.mul_le_mul_left _ l0
        have l2 : (4 * 6 + 1) * (q.1.take j).length ≤ (4 * 6 + 1) * 2 := Nat.mul_le_mul_left _ l0
        exact ⟨hw.1, hw.2.1.up (by omega) (by omega)⟩
      generalize ((q.1.zip (List.zipWith tabV xs ts)).take j).foldl stepW (pl q.2) = v at ej wk
      obtain ⟨c1, c2, _⟩ := powV_ok wx bx p.toNat
      refine ⟨rfl, svs_one (sv_if (tv_gt (ev_var 7 rfl) ev_int) (fun h => ?_) fun h => svs_nil ⟨hlt2, .d (.int p), .d (.lst ((tabV x u).map (numV C))), ?_⟩)⟩
      · have h0 := of_decide_eq_true h
        have es : stepW v (p, tabV x u) = mulV v (powV x p.toNat) := by unfold stepW; rw [if_pos h0, List.getD_eq_getElem?_getD, tabV_get pu]; rfl
        refine svs_one (sv_set 6 (d := numV C (mulV v (powV x p.toNat))) (e_mul O hr wk.1 c1 (wk.2.bn (by decide) (by decide)) (c2.bn (by omega) (by omega)) (ev_var 6 rfl) (ev_ixL ⟨p.toNat, by omega, by rw [List.getElem?_map, tabV_get pu]; rfl⟩ (ev_var 8 rfl) (ev_var 7 rfl))) ⟨hlt2, .d (.int p), .d (.lst ((tabV x u).map (numV C))), ?_⟩ scVal.nd)
        rw [ej, es]; rfl
      · have h0 := of_decide_eq_false h
        have es : stepW v (p, tabV x u) = v := if_neg h0
        rw [ej, es]; rfl
    · rintro ss' ⟨_, s7, s8, rfl⟩
      have hzl : (zips (q.1.map D.int) (tabsD C xs ts)).length = (q.1.zip (List.zipWith tabV xs ts)).length := by rw [zips_len, List.length_zip]; unfold tabsD; rw [List.length_map, List.length_map]
      rw [hzl, List.take_length]
      refine svs_one (sv_set 3 (d := numV C (addV (valV (m.take i) (List.zipWith tabV xs ts)) (worth q (List.zipWith tabV xs ts)))) (e_add O hr a1 b1 (a2.bn (by decide) (by decide)) (b2.bn (by decide) (by decide)) (ev_var 3 rfl) (ev_var 6 rfl)) ⟨hlt, .d (tkI q.1), .d (numP C q.2), .d (numV C (worth q (List.zipWith tabV xs ts))), s7, s8, ?_⟩ scVal.nd)
      rw [et]; rfl
  · rintro ss' ⟨_, s4, s5, s6, s7, s8, rfl⟩
    have e : (pairsT (dks m) (dxs (numP C) m)).length = m.length := by rw [pairs_M, List.length_map]
    rw [e, List.take_length]
    exact svs_one (sv_ret (ev_var 3 rfl) rfl)
theorem ok_pmul (F : Fun K "__mul__" "Poly.__mul__" sPMul f fd) (G : Pg T P w K mg base C PC) : FnOk P w K mg base CX0 8 f fd ["self", "other"] (spD T K 2 (pPMul C PC)) := by
  refine fd_ok F scPMul rfl fun cdv A outer s H E ds d hr _ ⟨fs, a, b, e1, hf, ha, hb, e2⟩ => ?_
  subst e1; subst e2
  have R := G.V.O.R
  obtain ⟨g, M⟩ := G.to
  obtain ⟨pa, _⟩ := prod_ok ha hb
  refine svs_cons (sv_if (t := false) (TV.cast (tv_not (k := true) (tv_of (ev_call G.pn (hr.mono (by decide)) (evs_cons (ev_var 1 rfl) evs_nil) ⟨_, _, rfl, rfl⟩))) rfl) (fun z => nomatch z) fun _ => svs_nil ?_)
  exact svs_one (sv_ret (ev_make G.mkP hr (evs_cons (ev_fld (ev_var 0 rfl) R.ikP.cl G.V.nf 0 rfl rfl (by decide)) (evs_cons (ev_call G.prod (hr.mono (by decide)) (evs_cons (ev_fld (ev_var 0 rfl) R.ikP.cl G.V.nt 1 rfl rfl (by decide)) (evs_cons (ev_meth (ev_var 0 rfl) R.ikP.cl M (hr.mono (by decide)) (evs_cons (ev_var 1 rfl) evs_nil) ⟨fs, a, b, rfl, hf, rfl⟩ (by decide)) evs_nil)) ⟨a, b, _, rfl, ha, hb, hf.len, rfl⟩) evs_nil)) ⟨fs, prodV a b, .tup (fs.map D.str), rfl, .inr rfl, hf, ⟨pa.nd, fun k hk => ⟨(pa.key k hk).1, fun p hp => ((pa.key k hk).2 p hp).1⟩, pa.w, fun q hq => (pa.bq q hq).bn (by decide) (by decide), by have := pa.len; omega⟩, rfl, rfl⟩) rfl)
theorem thI (C PC : Addr) (k : Int) : Th C PC (.int k) := .inr (.inr ⟨"int", by decide, rfl, trivial⟩)
theorem ok_ppower (F : Fun K "power" "Poly.power" sPPower f fd) (G : Pg T P w K mg base C PC) : FnOk P w K mg base CX0 2 f fd ["self", "k"] (spD T K 2 (pPPower C PC)) := by
  refine fd_ok F scPPower rfl fun cdv A outer s H E ds d hr _ ⟨fs, m, k, e1, hk, hf, hm, e2⟩ => ?_
  subst e1; subst e2
  have R := G.V.O.R
  have B := G.V.B
  have el : D.len (.tup (fs.map D.str)) = some fs.length := by show some _ = _; rw [List.length_map]
  refine svs_cons (sv_if (t := false) (TV.cast (TW.tv (tw_orB (t := false) (tv_not (k := true) (tv_of (ev_call G.isi hr (evs_cons (ev_var 1 rfl) evs_nil) ⟨_, rfl, thI C PC _, rfl⟩))) fun _ => tw_or1 (tv_not (tv_chain (f := fun i j => decide (i ≤ j)) (g := fun i j => decide (i < j)) op_le op_lt ev_int (ev_var 1 rfl) (ev_len el (ev_fld (ev_var 0 rfl) R.ikP.cl G.V.nf 0 rfl rfl (by decide)) B.len))))) ?_) (fun h => nomatch h) fun _ => svs_nil ?_)
  · show (false || !(decide ((0 : Int) ≤ (k : Int)) && decide ((k : Int) < (fs.length : Int)))) = false
    rw [decide_eq_true (by omega), decide_eq_true (by omega)]; rfl
  refine svs_one (sv_ret (ev_maxD (zs := m.map fun q => q.1.getD k 0) (EV.cast (ev_lc [("term", 2)] (.one 2) (fun _ => true) (onK .non fun z => .int (z.getD k 0)) (iv_keysT (ev_fld (d := dM (numP C) m) (ev_var 0 rfl) R.ikP.cl G.V.nt 1 rfl rfl (by decide))) (id (α := BlkOk ["self", "k", "term"] (defScope sPPower) _ [("term", 2)]) ⟨rfl, by decide +kernel, by decide +kernel, by decide +kernel, by decide +kernel⟩)
    (fun s H C cl fp => pg_name (i := 2) scPPower.nd rfl (Or.inl rfl)) (fun s H C' cl fp y hy => ts_nil) (fun s H C' cl fp y hy _ => ?_) scPPower.nd (fun _ _ => rfl) ?_) ?_) B.max) rfl)
  · rw [dks_ks, List.map_map] at hy
    obtain ⟨z, hz, rfl⟩ := List.mem_map.mp hy
    obtain ⟨q, hq, rfl⟩ := List.mem_map.mp hz
    obtain ⟨l, _⟩ := hm.key q hq
    show EV T _ _ _ (onK .non _ (tkI q.1))
    rw [onK_tk]
    refine ev_ixT (xs := q.1.map D.int) ⟨k, rfl, ?_⟩ (EV.cast (ev_tk (ks := iK q.1) (ev_var 2 rfl)) (by rw [List.map_map]; rfl)) (ev_var 1 rfl)
    rw [List.getElem?_map, List.getD_eq_getElem?_getD, List.getElem?_eq_getElem (show k < q.1.length by omega)]; rfl
  · rw [dks_ks, List.map_map, List.length_map]
    have := hm.len
    unfold ksM
    rw [List.length_map]; omega
  · show D.lst _ = D.lst _
    unfold outs
    rw [List.filter_eq_self.mpr fun _ _ => rfl, dks_ks, List.map_map, List.map_map, List.map_map]
    unfold ksM
    rw [List.map_map]
    exact congrArg D.lst (List.map_congr_left fun q _ => by show onK D.non (fun z => D.int (z.getD k 0)) (tkI q.1) = D.int (q.1.getD k 0); rw [onK_tk])
end
theorem nums_mem {zs : List D} {y : D} (h : y ∈ nums 0 zs) : ∃ (i : Nat) (x : D), zs[i]? = some x ∧ y = .tup [.int (i : Nat), x] := by
  obtain ⟨i, hi, e⟩ := List.mem_iff_getElem.mp h
  have hi2 : i < zs.length := by rw [← nums_len zs 0]; exact hi
  have := nums_get zs 0 i _ (List.getElem?_eq_getElem hi2)
  rw [List.getElem?_eq_getElem hi, e, Nat.zero_add] at this
  exact ⟨i, _, List.getElem?_eq_getElem hi2, Option.some.inj this⟩
section
variable {T : List (Addr × Str)} {X : Cx} {ss : SS} {e : Expr} {p pos tpos : Pos} {elts : List Expr} {kk : Nat} {y : D} {zs : List D}
theorem iv_enumLT (h : y = .lst zs ∨ y = .tup zs) (ha : EV T X e ss y) (hm : X.mg "enumerate" = none) (hg : Gl X "enumerate" := by rfl) (hs : starEach [e] X.env = [(false, eval e X.env)] := by rfl) : IV T X (.Tuple elts kk tpos) (.Call (.Name "enumerate" p) [e] [] pos) ss (nums 0 zs) := by
  rcases h with rfl | rfl
  · exact iv_enum ha hm hg hs
  · exact iv_enumT ha hm hg hs
theorem len_LT (h : y = .lst zs ∨ y = .tup zs) : D.len y = some zs.length := by
  rcases h with rfl | rfl <;> rfl
end
def pPAtE (C PC : Addr) (ds : List D) (d : D) : Prop := ∃ fs m y zs, ds = [polyD C PC fs m, y] ∧ (y = .lst zs ∨ y = .tup zs) ∧ zs.length ≠ fs.length ∧ d = .int (zs.length : Nat)
def pPPowerE (C PC : Addr) (ds : List D) (d : D) : Prop := ∃ fs m, ∃ k : Int, ds = [polyD C PC fs m, .int k] ∧ ¬ (0 ≤ k ∧ k < fs.length) ∧ d = .int k
/-- the classes of errors, as the top has made them -/
structure Er (P : Program) (K : PySem.W.Frag) (mg : Str → Option Value) (x : Str) (f : Str) (CE : Addr) : Prop where
  mgE : mg x = some (.ref CE)
  ex : ∃ fI cc cda, ExCls P K mg CE fI cc cda ∧ ExFn1 K CE fI cc cda f f
  be : PySem.W.subIn K (.ref CE) (.type "BaseException") = some true
  ty : PySem.W.typeIn K (.ref CE) = some (.type "type")
section
variable {T : List (Addr × Str)} {P : Program} {w : World} {K : PySem.W.Frag} {mg : Str → Option Value} {base : Heap} {C PC CW f : Addr} {fd : FuncData} {cdv : Value}
theorem ok_pat (F : Fun K "at" "Poly.at" sPAt f fd) (G : Pg T P w K mg base C PC) {fp : Addr} (MP : OwnM T P w K mg base PC "power" 2 2 (pPPower C PC) fp) : FnOk P w K mg base CX0 5 f fd ["self", "numbers"] (spD T K 2 (pPAt C PC)) := by
  refine fd_ok F scPAt rfl fun cdv A outer s H E ds d hr _ ⟨fs, m, xs, y, e1, hy, hf, hm, hx, e2⟩ => ?_
  subst e1; subst e2
  have R := G.V.O.R
  have B := G.V.B
  have el : D.len (.tup (fs.map D.str)) = some fs.length := by show some _ = _; rw [List.length_map]
  have ely : D.len y = some xs.length := by rw [len_LT hy, List.length_map]
  have hr2 := hr.mono (show 2 ≤ 4 by decide)
  have hr1 := hr.mono (show 1 ≤ 4 by decide)
  have vok := vok_of hf.len hm hx
  obtain ⟨v1, _, _⟩ := valV_ok (n := 70) (m := 4) (a := 120) (b := 97) vok.tb (by decide) vok.len
  refine svs_cons (sv_if (t := false) (TV.cast (tv_neI (ev_len ely (ev_var 1 rfl) B.len) (ev_len el (ev_fld (ev_var 0 rfl) R.ikP.cl G.V.nf 0 rfl rfl (by decide)) B.len)) (by rw [hx.1, decide_eq_true rfl]; rfl)) (fun h => nomatch h) fun _ => svs_nil ?_)
  refine svs_cons (sv_lcOwn 2 [("k", 3), ("number", 4)] (.many [3, 4]) (fun _ => true) (tabF C m) (iv_enumLT hy (ev_var 1 rfl) B.enum) (id (α := BlkOk ["self", "numbers", "tables", "k", "number"] (defScope sPAt) _ [("k", 3), ("number", 4)]) ⟨rfl, by decide +kernel, by decide +kernel, by decide +kernel, by decide +kernel⟩)
    (fun s H C cl fp => pg_tup rfl (pgs_cons (pg_name (i := 3) scPAt.nd rfl (Or.inl rfl)) (pgs_cons (pg_name (i := 4) scPAt.nd rfl (Or.inl rfl)) pgs_nil))) (fun s H C' cl fp y hy => ts_nil) (fun s H C' cl fp y hy _ => ?_) ?_ scPAt.nd (fun y hy => by obtain ⟨i, x, _, rfl⟩ := nums_mem hy; rfl) (by rw [nums_len, List.length_map, hx.1]; have := hf.len; omega) (sw_true rfl rfl rfl (by decide +kernel)))
  · obtain ⟨i, x, h1, rfl⟩ := nums_mem hy
    rw [List.getElem?_map] at h1
    obtain ⟨z, hz, rfl⟩ := Option.map_eq_some_iff.mp h1
    have hi : i < fs.length := by rw [← hx.1]; exact (List.getElem?_eq_some_iff.mp hz).1
    obtain ⟨wz, bz⟩ := hx.2 z (List.mem_of_getElem? hz)
    obtain ⟨_, t1, t2⟩ := topP_le hm hi
    refine EV.cast (ev_call G.pows hr (evs_cons ev_int (evs_cons (ev_var 4 rfl) (evs_cons (EV.cast (d' := .int ((topP m i).toNat : Nat)) (ev_meth (ev_var 0 rfl) R.ikP.cl MP hr2 (evs_cons (ev_var 3 rfl) evs_nil) ⟨fs, m, i, rfl, hi, hf, hm, rfl⟩ (by decide)) (by rw [Int.toNat_of_nonneg t1])) evs_nil))) ⟨z, _, rfl, wz, bz, by omega, rfl⟩) ?_
    show _ = D.lst ((tabV (unV (numV C z)) (topP m (i : Int).toNat).toNat).map (numV C))
    rw [unV_num wz, Int.toNat_natCast]
  · rw [outs_tab (fun x h => (hx.2 x h).1), hx.1]
    refine svs_freeze 2 rfl (svs_one (sv_ret (EV.cast (ev_call G.plain hr1 (evs_cons (ev_call G.value hr (evs_cons (ev_fld (d := dM (numP C) m) (ev_var 0 rfl) R.ikP.cl G.V.nt 1 rfl rfl (by decide)) (evs_cons (ev_var 2 rfl) (evs_cons ev_int evs_nil))) ⟨m, xs, _, rfl, vok, rfl⟩) evs_nil) ⟨_, _, _, rfl, nuV v1, rfl⟩) (plain_V v1)) rfl))
theorem ok_patE (F : FunZ K "at" "Poly.at" sPAt f fd cdv) (G : Pg T P w K mg base C PC) (eC : Er P K mg "WrongCount" "count" CW) : FnOk P w K mg base (L2.CX P w) 2 f fd ["self", "numbers"] (spE T K CW "count" 2 (pPAtE C PC)) := by
  obtain ⟨fI, cc, cda, EC, Fn⟩ := eC.ex
  refine fe_ok F scPAt rfl fun A outer s H E ds d hr _ ⟨fs, m, y, zs, e1, hy, hne, e2⟩ tk => ?_
  subst e1; subst e2
  have R := G.V.O.R
  have B := G.V.B
  have el : D.len (.tup (fs.map D.str)) = some fs.length := by show some _ = _; rw [List.length_map]
  exact re_ifT (TV.cast (tv_neI (ev_len (len_LT hy) (ev_var 1 rfl) B.len) (ev_len el (ev_fld (ev_var 0 rfl) R.ikP.cl G.V.nf 0 rfl rfl (by decide)) B.len)) (by rw [decide_eq_false (by omega)]; rfl)) (re_raise tk EC Fn (raises_own eC.be eC.ty) hr eC.mgE (ev_len (len_LT hy) (ev_var 1 rfl) B.len))
theorem ok_ppowerE (F : FunZ K "power" "Poly.power" sPPower f fd cdv) (G : Pg T P w K mg base C PC) (eC : Er P K mg "WrongCount" "count" CW) : FnOk P w K mg base (L2.CX P w) 2 f fd ["self", "k"] (spE T K CW "count" 2 (pPPowerE C PC)) := by
  obtain ⟨fI, cc, cda, EC, Fn⟩ := eC.ex
  refine fe_ok F scPPower rfl fun A outer s H E ds d hr _ ⟨fs, m, k, e1, hk, e2⟩ tk => ?_
  subst e1; subst e2
  have R := G.V.O.R
  have B := G.V.B
  have el : D.len (.tup (fs.map D.str)) = some fs.length := by show some _ = _; rw [List.length_map]
  refine re_ifT (TV.cast (TW.tv (tw_orB (t := false) (tv_not (k := true) (tv_of (ev_call G.isi hr (evs_cons (ev_var 1 rfl) evs_nil) ⟨_, rfl, thI C PC _, rfl⟩))) fun _ => tw_or1 (tv_not (tv_chain (f := fun i j => decide (i ≤ j)) (g := fun i j => decide (i < j)) op_le op_lt ev_int (ev_var 1 rfl) (ev_len el (ev_fld (ev_var 0 rfl) R.ikP.cl G.V.nf 0 rfl rfl (by decide)) B.len))))) ?_) (re_raise tk EC Fn (raises_own eC.be eC.ty) hr eC.mgE (ev_var 1 rfl))
  show (false || !(decide ((0 : Int) ≤ k) && decide (k < (fs.length : Int)))) = true
  rw [← Bool.decide_and, decide_eq_false hk]; rfl
end
end K42

set_option Elab.async false
set_option linter.all false
set_option maxRecDepth 100000
set_option maxHeartbeats 4000000
/-! K42f: the law's cells, rows, fractions. -/
namespace K42
open PySem PySem.Spec PyProof.Rows L2 Fd
def pCell (ds : List D) (d : D) : Prop := ∃ (ns : List Int) (i : Nat), ds = [.rdl (ns.map D.int), .int (i : Nat)] ∧ ns.length ≤ 63 ∧ d = .int (ns.getD i 0)
theorem scCell : FnScope ["_law_script", "_law_k"] ["_law_script", "_law_k"] (defScope sCell) := ⟨rfl, rfl, rfl, by decide +kernel, rfl, by decide +kernel, by decide +kernel⟩
/-- the great cell by mixed radix -/
def rowBig (c : Int) : List Int → List Int
  | [] => []
  | z :: zs => c % z :: rowBig (c / z) zs
def mix (s : Int) (k : Nat) (z : Int) : Int := ((s + 7919 * (k : Int) + 104729) ^ 5 % 2147483647 + (k : Int)) * 40692 % 2147483629 % z
def rowSm (s : Int) : Nat → List Int → List Int
  | _, [] => []
  | k, z :: zs => mix s k z :: rowSm s (k + 1) zs
def rowL (c : Int) (zs : List Int) : List Int := if 10 ^ 18 ≤ c then rowBig c zs else rowSm (c % 2147483647) 0 zs
def pRow (ds : List D) (d : D) : Prop := ∃ (c : Int) (zs : List Int), ds = [.int c, .lst (zs.map D.int)] ∧ zs.length ≤ 1000 ∧ (∀ z ∈ zs, 0 < z ∧ z ≤ 10 ^ 30) ∧ d = .lst ((rowL c zs).map D.int)
theorem scRow : FnScope ["_law_cell_here", "_law_sizes", "_law_out", "_law_size", "_law_seed", "_law_k", "_law_mixed"] ["_law_cell_here", "_law_sizes"] (defScope sRow) := ⟨rfl, rfl, rfl, by decide +kernel, rfl, by decide +kernel, by decide +kernel⟩
def cAt (c : Int) (zs : List Int) (i : Nat) : Int := (zs.take i).foldl (· / ·) c
theorem rowBig_get : ∀ (zs : List Int) (c : Int) (i : Nat) (z : Int), zs[i]? = some z → (rowBig c zs)[i]? = some (cAt c zs i % z)
  | [], _, _, _, h => by simp at h
  | y :: ys, c, 0, z, h => by
    simp at h; subst h; rfl
  | y :: ys, c, i + 1, z, h => by
    simp at h
    have := rowBig_get ys (c / y) i z h
    simpa [rowBig, cAt] using this
theorem rowBig_len : ∀ (zs : List Int) (c : Int), (rowBig c zs).length = zs.length
  | [], _ => rfl
  | y :: ys, c => by simp [rowBig, rowBig_len ys]
theorem cAt_succ {c : Int} {zs : List Int} {i : Nat} {z : Int} (h : zs[i]? = some z) : cAt c zs (i + 1) = cAt c zs i / z := by
  unfold cAt
  rw [List.take_add_one, h, List.foldl_append]
  rfl
theorem rowSm_get (s : Int) : ∀ (zs : List Int) (k i : Nat) (z : Int), zs[i]? = some z → (rowSm s k zs)[i]? = some (mix s (k + i) z)
  | [], _, _, _, h => by simp at h
  | y :: ys, k, 0, z, h => by
    simp at h; subst h; rfl
  | y :: ys, k, i + 1, z, h => by
    simp at h
    have := rowSm_get s ys (k + 1) i z h
    have e : k + 1 + i = k + (i + 1) := by omega
    rw [e] at this
    simpa [rowSm] using this
theorem rowSm_len (s : Int) : ∀ (zs : List Int) (k : Nat), (rowSm s k zs).length = zs.length
  | [], _ => rfl
  | y :: ys, k => by simp [rowSm, rowSm_len s ys]
section
variable {T : List (Addr × Str)} {P : Program} {w : World} {K : PySem.W.Frag} {mg : Str → Option Value} {base : Heap} {C f : Addr} {fd : FuncData}
theorem ok_cell (F : Fun K "_law_cell" "_law_cell" sCell f fd) (hL : mg "len" = none) : FnOk P w K mg base CX0 1 f fd ["_law_script", "_law_k"] (spD T K 2 pCell) := by
  refine fd_ok F scCell rfl fun cdv A outer s H E ds d hr _ ⟨ns, i, e1, e3, e2⟩ => ?_
  subst e1; subst e2
  refine svs_cons (sv_if (tv_lt (ev_var 1 rfl) (ev_len (n := ns.length) (by simp [D.len]) (ev_var 0 rfl) hL)) (fun h => ?_) (fun h => ?_))
  · have hlt : i < ns.length := by simpa using h
    refine svs_one (sv_ret (ev_ixR ⟨i, rfl, ?_⟩ (ev_var 0 rfl) (ev_var 1 rfl)) rfl)
    rw [List.getElem?_map, List.getElem?_eq_getElem hlt, List.getD_eq_getElem?_getD, List.getElem?_eq_getElem hlt]
    rfl
  · have hlt : ns.length ≤ i := by simpa using h
    refine svs_nil (svs_one (sv_ret ev_int ?_))
    show D.int 0 = D.int (ns.getD i 0)
    rw [List.getD_eq_getElem?_getD, List.getElem?_eq_none hlt]
    rfl
theorem ok_row (F : Fun K "_law_row" "_law_row" sRow f fd) (hI : mg "int" = none) (hR : mg "range" = none) (hL : mg "len" = none) : FnOk P w K mg base CX0 1 f fd ["_law_cell_here", "_law_sizes"] (spD T K 2 pRow) := by
  refine fd_ok F scRow rfl fun cdv A outer s H E ds d hr _ ⟨c, zs, e1, hlen, hz, e2⟩ => ?_
  subst e1; subst e2
  have hm : ∀ {l : List Int} {i : Nat} {z : Int}, l[i]? = some z → (l.map D.int)[i]? = some (.int z) := fun h => by rw [List.getElem?_map, h]; rfl
  refine svs_cons (sv_setOwn 2 evs_nil ?_ scRow.nd)
  refine svs_cons (sv_if (tv_ge (ev_var 0 rfl) (ev_pow ⟨by decide, by decide, by decide⟩ ev_int ev_int)) (fun h => ?_) (fun h => ?_))
  · have hc : 10 ^ 18 ≤ c := by simpa using h
    have er : rowL c zs = rowBig c zs := if_pos hc
    refine svs_cons (sv_for (.one 3) (fun i ss => i ≤ zs.length ∧ ∃ s3, ss = [.d (.int (cAt c zs i)), .d (.lst (zs.map D.int)), .own (((rowBig c zs).take i).map D.int), s3, .no, .no, .no]) (iv_list (ev_var 1 rfl)) (pg_name (i := 3) scRow.nd rfl (Or.inl rfl)) ⟨Nat.zero_le _, _, rfl⟩ ?_ ?_)
    · rintro i x ss' hx ⟨hi, s3, rfl⟩
      obtain ⟨z, hz1, rfl⟩ : ∃ z, zs[i]? = some z ∧ D.int z = x := by
        rw [List.getElem?_map] at hx
        exact Option.map_eq_some_iff.mp hx
      have hlt : i < zs.length := (List.getElem?_eq_some_iff.mp hz1).1
      obtain ⟨p1, p2⟩ := hz z (List.mem_of_getElem? hz1)
      refine ⟨rfl, svs_cons (sv_append 2 rfl (ev_mod p1 (ev_int1 (ev_var 0 rfl) hI) (ev_var 3 rfl)) ?_ (by simp [rowBig_len]; omega))⟩
      refine svs_one (sv_set 0 (ev_fdivW ⟨p1, sm_log (Nat.lt_of_le_of_lt (show z.natAbs ≤ 10 ^ 30 by omega) (by decide +kernel))⟩ (ev_var 0 rfl) (ev_var 3 rfl)) ⟨hlt, .d (.int z), ?_⟩ scRow.nd)
      rw [cAt_succ hz1, ← take_snoc (rowBig_get zs c i z hz1), List.map_append]
      rfl
    rintro ss' ⟨_, s3, rfl⟩
    refine svs_freeze 2 rfl (svs_one (sv_ret (ev_var 2 rfl) ?_))
    show D.lst _ = D.lst _
    rw [er, List.length_map, List.take_of_length_le (by rw [rowBig_len]; exact Nat.le_refl _)]
  · have hc : ¬ 10 ^ 18 ≤ c := by simpa using h
    have er : rowL c zs = rowSm (c % 2147483647) 0 zs := if_neg hc
    refine svs_nil (svs_cons (sv_set 4 (ev_mod (by decide) (ev_int1 (ev_var 0 rfl) hI) ev_int) ?_ scRow.nd))
    generalize hs : c % 2147483647 = sd
    have hsd : 0 ≤ sd ∧ sd < 2147483647 := by omega
    rw [hs] at er
    refine svs_cons (sv_for (.one 5) (fun i ss => i ≤ zs.length ∧ ∃ s5 s6, ss = [.d (.int c), .d (.lst (zs.map D.int)), .own (((rowSm sd 0 zs).take i).map D.int), .no, .d (.int sd), s5, s6]) (iv_range1 (n := zs.length) (ev_len (n := zs.length) (by simp [D.len]) (ev_var 1 rfl) hL) (by omega) hR) (pg_name (i := 5) scRow.nd rfl (Or.inl rfl)) ⟨Nat.zero_le _, _, _, rfl⟩ ?_ ?_)
    · rintro i x ss' hx ⟨hi, s5, s6, rfl⟩
      have hlt : i < zs.length := by
        have := (List.getElem?_eq_some_iff.mp hx).1
        simpa [rng_len] using this
      have hx : (rng 0 zs.length)[i]? = some x := hx
      rw [rng_get hlt, Int.zero_add] at hx
      obtain rfl : D.int (i : Int) = x := Option.some.inj hx
      have hz1 : zs[i]? = some zs[i] := List.getElem?_eq_getElem hlt
      generalize zs[i] = z at hz1
      obtain ⟨p1, p2⟩ := hz z (List.mem_of_getElem? hz1)
      have hb : (sd + 7919 * (i : Int) + 104729).natAbs < 2 ^ 64 := by omega
      refine ⟨rfl, svs_cons (sv_set 6 (ev_add (ev_mod (by decide) (ev_int1 (ev_pow ⟨by decide, by decide, hb⟩ (ev_add (ev_add (ev_var 4 rfl) (ev_mul (.inl (by decide)) ev_int (ev_var 5 rfl))) ev_int) ev_int) hI) ev_int) (ev_var 5 rfl)) ?_ scRow.nd)⟩
      refine svs_one (sv_append 2 rfl (ev_mod p1 (ev_int1 (ev_mod (by decide) (ev_int1 (ev_mul (.inr (by decide)) (ev_var 6 rfl) ev_int) hI) ev_int) hI) (ev_ixL ⟨i, rfl, hm hz1⟩ (ev_var 1 rfl) (ev_var 5 rfl))) ⟨hlt, .d (.int (i : Nat)), .d (.int ((sd + 7919 * (i : Int) + 104729) ^ (5 : Int).toNat % 2147483647 + (i : Int))), ?_⟩ (by simp [rowSm_len]; omega))
      have := rowSm_get sd zs 0 i z hz1
      rw [Nat.zero_add] at this
      rw [← take_snoc this, List.map_append]
      rfl
    rintro ss' ⟨_, s5, s6, rfl⟩
    refine svs_freeze 2 rfl (svs_one (sv_ret (ev_var 2 rfl) ?_))
    show D.lst _ = D.lst _
    rw [er, rng_len, List.take_of_length_le (by rw [rowSm_len]; exact Nat.le_refl _)]
end
/-- the draws are below their sizes -/
theorem rowL_at (c : Int) {zs : List Int} {i : Nat} {z : Int} (h : zs[i]? = some z) (hz : 0 < z) : ∃ v : Nat, (rowL c zs)[i]? = some (v : Int) ∧ (v : Int) < z := by
  unfold rowL
  split
  · have h1 := Int.emod_nonneg (cAt c zs i) (show z ≠ 0 by omega)
    have h2 := Int.emod_lt_of_pos (cAt c zs i) hz
    refine ⟨(cAt c zs i % z).toNat, ?_, by omega⟩
    rw [rowBig_get zs c i z h, Int.toNat_of_nonneg h1]
  · have e := rowSm_get (c % 2147483647) zs 0 i z h
    rw [Nat.zero_add] at e
    have h1 := Int.emod_nonneg (((c % 2147483647 + 7919 * (i : Int) + 104729) ^ 5 % 2147483647 + (i : Int)) * 40692 % 2147483629) (show z ≠ 0 by omega)
    have h2 := Int.emod_lt_of_pos (((c % 2147483647 + 7919 * (i : Int) + 104729) ^ 5 % 2147483647 + (i : Int)) * 40692 % 2147483629) hz
    refine ⟨(mix (c % 2147483647) i z).toNat, ?_, by show ((mix _ i z).toNat : Int) < z; unfold mix; omega⟩
    rw [e, Int.toNat_of_nonneg (by unfold mix; exact h1)]
theorem rowL_len (c : Int) (zs : List Int) : (rowL c zs).length = zs.length := by
  unfold rowL
  split
  · exact rowBig_len _ _
  · exact rowSm_len _ _ _

/-! ### fractions -/
def prQ (q : Q2) : D := .tup [.int q.1, .int q.2]
def pGcd (ds : List D) (d : D) : Prop := ∃ a b : Int, ds = [.int a, .int b] ∧ d = .int ((Nat.gcd a.natAbs b.natAbs : Nat) : Int)
def pLow (ds : List D) (d : D) : Prop := ∃ t b : Int, ds = [prQ (t, b)] ∧ b ≠ 0 ∧ b.natAbs.log2 < 9000 ∧ d = prQ (lowF t b)
def pLadd (ds : List D) (d : D) : Prop := ∃ p q, ds = [prQ p, prQ q] ∧ Bn 4400 p ∧ Bn 4400 q ∧ d = prQ (addQ p q)
def pLtim (ds : List D) (d : D) : Prop := ∃ p q, ds = [prQ p, prQ q] ∧ Raw 4400 4400 p ∧ Raw 4400 4400 q ∧ d = prQ (mulQ p q)
def hd (b : Bool) (q : Q2) : V3 := (q, !(decide (q.2 = 1) && b))
theorem w_hd (b : Bool) (q : Q2) : W3 (hd b q) := fun h => by
  have h' : (!(decide (q.2 = 1) && b)) = false := h
  have h2 : q.2 = 1 ∧ b = true := by simpa using h'
  exact h2.1
def pMade (C : Addr) (ds : List D) (d : D) : Prop := ∃ q b, ds = [prQ q, .bl b] ∧ Raw 4400 4400 q ∧ d = numV C (hd b (lowF q.1 q.2))
def pLint (C PC : Addr) (ds : List D) (d : D) : Prop := ∃ x, ds = [x] ∧ Th C PC x ∧ d = .bl (isI x)
def pLpl (C : Addr) (ds : List D) (d : D) : Prop := ∃ q, ds = [numP C q, prQ q] ∧ Bn 4400 q ∧ d = .bl true
def FLD : List (List Str) := [["x", "y"], ["x"], [], ["price", "many"], ["b", "a"], ["zz"]]
def fld (r : Nat) : List Str := FLD.getD (r % 6) []
def pFields (ds : List D) (d : D) : Prop := ∃ r : Nat, ds = [.int (r : Nat)] ∧ d = .lst ((fld r).map D.str)
theorem scGcd : FnScope ["_law_a", "_law_b"] ["_law_a", "_law_b"] (defScope sGcd) := ⟨rfl, rfl, rfl, by decide +kernel, rfl, by decide +kernel, by decide +kernel⟩
theorem scLow : FnScope ["_law_pair", "_law_top", "_law_bottom", "_law_by"] ["_law_pair"] (defScope sLow) := ⟨rfl, rfl, rfl, by decide +kernel, rfl, by decide +kernel, by decide +kernel⟩
theorem scLadd : FnScope ["_law_one", "_law_two"] ["_law_one", "_law_two"] (defScope sLadd) := ⟨rfl, rfl, rfl, by decide +kernel, rfl, by decide +kernel, by decide +kernel⟩
theorem scLtim : FnScope ["_law_one", "_law_two"] ["_law_one", "_law_two"] (defScope sLtim) := ⟨rfl, rfl, rfl, by decide +kernel, rfl, by decide +kernel, by decide +kernel⟩
theorem scMade : FnScope ["_law_pair", "_law_is_bare", "_law_top", "_law_bottom"] ["_law_pair", "_law_is_bare"] (defScope sMade) := ⟨rfl, rfl, rfl, by decide +kernel, rfl, by decide +kernel, by decide +kernel⟩
theorem scFields : FnScope ["_law_draw"] ["_law_draw"] (defScope sFields) := ⟨rfl, rfl, rfl, by decide +kernel, rfl, by decide +kernel, by decide +kernel⟩
theorem fld_get (r : Nat) : FLD[r % 6]? = some (fld r) := by
  have h : r % 6 < 6 := Nat.mod_lt _ (by decide)
  unfold fld
  rw [List.getD_eq_getElem?_getD, List.getElem?_eq_getElem (show r % 6 < FLD.length from h)]; rfl
theorem nms_all : ∀ l, l ∈ FLD → l.length ≤ 2 ∧ l.all nmOk = true ∧ l.Nodup := by decide +kernel
theorem fld_nms (r : Nat) : Nms (fld r) := by
  obtain ⟨h1, h2, h3⟩ := nms_all _ (List.mem_of_getElem? (fld_get r))
  exact ⟨h1, List.all_eq_true.mp h2, h3⟩
theorem scLint : FnScope ["_law_thing"] ["_law_thing"] (defScope sLint) := ⟨rfl, rfl, rfl, by decide +kernel, rfl, by decide +kernel, by decide +kernel⟩
theorem scLpl : FnScope ["_law_thing", "_law_due", "_law_top", "_law_bottom"] ["_law_thing", "_law_due"] (defScope sLpl) := ⟨rfl, rfl, rfl, by decide +kernel, rfl, by decide +kernel, by decide +kernel⟩
theorem lowF_ne {t b : Int} (h : b ≠ 0) : (lowF t b).2 ≠ 0 := (lowF_lo h).ne
section
variable {T : List (Addr × Str)} {P : Program} {w : World} {K : PySem.W.Frag} {mg : Str → Option Value} {base : Heap} {C PC f : Addr} {fd : FuncData}
theorem ok_gcd (F : Fun K "_law_gcd" "_law_gcd" sGcd f fd) (hA : mg "abs" = none) : FnOk P w K mg base CX0 1 f fd ["_law_a", "_law_b"] (spD T K 2 pGcd) := by
  refine fd_ok F scGcd rfl fun cdv A outer s H E ds d hr _ ⟨a, b, e1, e2⟩ => ?_
  subst e1; subst e2
  have ha : ∀ z : Int, (if z < 0 then -z else z) = (z.natAbs : Int) := fun z => by split <;> omega
  refine svs_cons (sv_par 0 1 (evs_cons (ev_abs (ev_var 0 rfl) hA) (evs_cons (ev_abs (ev_var 1 rfl) hA) evs_nil)) ?_ scGcd.nd)
  rw [ha, ha]
  refine svs_cons (sv_while (fun ss => ∃ m n : Nat, ss = [.d (.int m), .d (.int n)] ∧ Nat.gcd m n = Nat.gcd a.natAbs b.natAbs) (fun ss => match ss with | [_, .d (.int n)] => n.toNat | _ => 0) ⟨_, _, rfl, rfl⟩ ?_)
  rintro ss' ⟨m, n, rfl, hg⟩
  refine ⟨_, tv_gt (ev_var 1 rfl) ev_int, fun h => ?_, fun h => ?_⟩
  · have hn : 0 < n := by simpa using h
    refine svs_one (sv_par 0 1 (evs_cons (ev_var 1 rfl) (evs_cons (ev_mod (by omega) (ev_var 0 rfl) (ev_var 1 rfl)) evs_nil)) ?_ scGcd.nd)
    refine ⟨⟨n, m % n, rfl, ?_⟩, ?_⟩
    · rw [← hg, Nat.gcd_comm m n, Nat.gcd_rec n m, Nat.gcd_comm]
    · show ((m : Int) % (n : Int)).toNat < (n : Int).toNat
      have := Nat.mod_lt m hn
      omega
  · have hn : n = 0 := by simpa using h
    subst hn
    refine svs_one (sv_ret (ev_var 0 rfl) ?_)
    show D.int (m : Int) = D.int _
    rw [← hg, Nat.gcd_zero_right]
theorem ok_low (F : Fun K "_law_low" "_law_low" sLow f fd) (G : FD T P w K mg base "_law_gcd" 2 1 pGcd) : FnOk P w K mg base CX0 2 f fd ["_law_pair"] (spD T K 1 pLow) := by
  refine fd_ok F scLow rfl fun cdv A outer s H E ds d hr _ ⟨t, b, e1, hb, hl, e2⟩ => ?_
  subst e1; subst e2
  obtain ⟨h1, h2⟩ := dv_ok (t := t) hb hl
  refine svs_cons (sv_tg (.many [1, 2]) (ev_var 0 rfl) (pg_tup rfl (pgs_cons (pg_name (i := 1) scLow.nd rfl (Or.inl rfl)) (pgs_cons (pg_name (i := 2) scLow.nd rfl (Or.inl rfl)) pgs_nil))) rfl ?_)
  refine svs_cons (sv_set 3 (ev_call G hr (evs_cons (ev_var 1 rfl) (evs_cons (ev_var 2 rfl) evs_nil)) ⟨t, b, rfl, rfl⟩) ?_ scLow.nd)
  refine svs_cons (sv_if (tv_lt (ev_var 2 rfl) ev_int) (fun z => ?_) (fun z => ?_))
  · have hneg : b < 0 := by simpa using z
    have ed : dv t b = -((Nat.gcd t.natAbs b.natAbs : Nat) : Int) := if_pos hneg
    refine svs_one (sv_set 3 (d := .int (dv t b)) (EV.cast (ev_sub ev_int (ev_var 3 rfl)) (by rw [ed, Int.zero_sub])) ?_ scLow.nd)
    exact svs_one (sv_ret (ev_tup (evs_cons (ev_fdivX ⟨h1, h2⟩ (ev_var 1 rfl) (ev_var 3 rfl)) (evs_cons (ev_fdivX ⟨h1, h2⟩ (ev_var 2 rfl) (ev_var 3 rfl)) evs_nil))) rfl)
  · have hpos : ¬ b < 0 := by simpa using z
    have ed : dv t b = ((Nat.gcd t.natAbs b.natAbs : Nat) : Int) := if_neg hpos
    refine svs_nil ?_
    rw [← ed]
    exact svs_one (sv_ret (ev_tup (evs_cons (ev_fdivX ⟨h1, h2⟩ (ev_var 1 rfl) (ev_var 3 rfl)) (evs_cons (ev_fdivX ⟨h1, h2⟩ (ev_var 2 rfl) (ev_var 3 rfl)) evs_nil))) rfl)
theorem ok_ladd (F : Fun K "_law_add" "_law_add" sLadd f fd) (G : FD T P w K mg base "_law_low" 1 2 pLow) : FnOk P w K mg base CX0 3 f fd ["_law_one", "_law_two"] (spD T K 2 pLadd) := by
  refine fd_ok F scLadd rfl fun cdv A outer s H E ds d hr _ ⟨p, q, e1, bp, bq, e2⟩ => ?_
  subst e1; subst e2
  exact svs_one (sv_ret (ev_call G hr (evs_cons (ev_tup (evs_cons (ev_add (ev_mulW (sm_mul bp.t bq.b) (ev_ixT ⟨0, rfl, rfl⟩ (ev_var 0 rfl) ev_int) (ev_ixT ⟨1, rfl, rfl⟩ (ev_var 1 rfl) ev_int)) (ev_mulW (sm_mul bq.t bp.b) (ev_ixT ⟨0, rfl, rfl⟩ (ev_var 1 rfl) ev_int) (ev_ixT ⟨1, rfl, rfl⟩ (ev_var 0 rfl) ev_int)))
    (evs_cons (ev_mulW (sm_mul bp.b bq.b) (ev_ixT ⟨1, rfl, rfl⟩ (ev_var 0 rfl) ev_int) (ev_ixT ⟨1, rfl, rfl⟩ (ev_var 1 rfl) ev_int)) evs_nil))) evs_nil) ⟨_, _, rfl, mul_ne bp.lo bq.lo, sm_log2 bp.b bq.b, rfl⟩) rfl)
theorem ok_ltim (F : Fun K "_law_times" "_law_times" sLtim f fd) (G : FD T P w K mg base "_law_low" 1 2 pLow) : FnOk P w K mg base CX0 3 f fd ["_law_one", "_law_two"] (spD T K 2 pLtim) := by
  refine fd_ok F scLtim rfl fun cdv A outer s H E ds d hr _ ⟨p, q, e1, bp, bq, e2⟩ => ?_
  subst e1; subst e2
  exact svs_one (sv_ret (ev_call G hr (evs_cons (ev_tup (evs_cons (ev_mulW (sm_mul bp.t bq.t) (ev_ixT ⟨0, rfl, rfl⟩ (ev_var 0 rfl) ev_int) (ev_ixT ⟨0, rfl, rfl⟩ (ev_var 1 rfl) ev_int))
    (evs_cons (ev_mulW (sm_mul bp.b bq.b) (ev_ixT ⟨1, rfl, rfl⟩ (ev_var 0 rfl) ev_int) (ev_ixT ⟨1, rfl, rfl⟩ (ev_var 1 rfl) ev_int)) evs_nil))) evs_nil) ⟨_, _, rfl, Int.mul_ne_zero bp.ne bq.ne, sm_log2 bp.b bq.b, rfl⟩) rfl)
theorem ok_lint (F : Fun K "_law_is_int" "_law_is_int" sLint f fd) (R : Rt K mg C PC) : FnOk P w K mg base CX0 1 f fd ["_law_thing"] (spD T K 1 (pLint C PC)) := by
  refine fd_ok F scLint rfl fun cdv A outer s H E ds d hr _ ⟨x, e1, hx, e2⟩ => ?_
  subst e1; subst e2
  obtain ⟨t, b1, b2, b3, k1, k2, k3, k4, k5, k6⟩ := hx.ty R
  exact svs_one (sv_ret (EV.cast (ev_andB (ev_isT (ev_var 0 rfl) k1 (hx.cls R) k2 R.bInt (by decide +kernel) R.bIs) fun _ => ev_one (ev_not (ev_isT (ev_var 0 rfl) k1 (hx.cls R) k3 R.bBool (by decide +kernel) R.bIs))) (by rw [k5])) rfl)
theorem ok_lpl (F : Fun K "_law_is_plain" "_law_is_plain" sLpl f fd) (R : Rt K mg C PC) (G : FD T P w K mg base "_law_low" 1 2 pLow) (GI : FD T P w K mg base "_law_is_int" 1 1 (pLint C PC)) : FnOk P w K mg base CX0 3 f fd ["_law_thing", "_law_due"] (spD T K 2 (pLpl C)) := by
  refine fd_ok F scLpl rfl fun cdv A outer s H E ds d hr _ ⟨q, e1, bq, e2⟩ => ?_
  subst e1; subst e2
  have hr1 := hr.mono (show 1 ≤ 2 by decide)
  refine svs_cons (sv_tg (d := prQ q) (.many [2, 3]) (EV.cast (ev_call G hr (evs_cons (ev_var 1 rfl) evs_nil) ⟨q.1, q.2, rfl, bq.lo.ne, sm_log1 bq.b, rfl⟩) (by rw [lowF_self bq.lo])) (pg_tup rfl (pgs_cons (pg_name (i := 2) scLpl.nd rfl (Or.inl rfl)) (pgs_cons (pg_name (i := 3) scLpl.nd rfl (Or.inl rfl)) pgs_nil))) rfl ?_)
  refine svs_cons (sv_if (tv_eqI (ev_var 3 rfl) ev_int) (fun h => ?_) fun h => svs_nil ?_)
  · have h2 := of_decide_eq_true h
    have e1 : numP C q = .int q.1 := numV_int (v := pl q) (show (!decide (q.2 = 1)) = false by rw [decide_eq_true h2]; rfl)
    rw [e1]
    exact svs_one (sv_ret (EV.cast (ev_andB (t := true) (u := true) (EV.cast (ev_call GI hr1 (evs_cons (ev_var 0 rfl) evs_nil) ⟨.int q.1, rfl, .inr (.inr ⟨"int", by decide, rfl, trivial⟩), rfl⟩) rfl) fun _ => ev_one (EV.cast (ev_eqI (ev_var 0 rfl) (ev_var 2 rfl)) (by rw [decide_eq_true rfl]))) rfl) rfl)
  · have h2 := of_decide_eq_false h
    have e1 : numP C q = rat C q.1 q.2 := numV_rat (v := pl q) (show (!decide (q.2 = 1)) = true by rw [decide_eq_false h2]; rfl)
    rw [e1]
    exact svs_one (sv_ret (EV.cast (ev_andB (t := true) (u := true) (ev_isO (ev_var 0 rfl) rfl R.ik R.kR R.mgR R.bIs) fun _ => EV.cast (ev_andB (t := true) (u := true) (EV.cast (ev_eqI (ev_fld (d := .int q.1) (ev_var 0 rfl) R.ik.cl R.nt 0 rfl rfl (by decide)) (ev_var 2 rfl)) (by rw [decide_eq_true rfl])) fun _ => ev_one (EV.cast (ev_eqI (ev_fld (d := .int q.2) (ev_var 0 rfl) R.ik.cl R.nb 1 rfl rfl (by decide)) (ev_var 3 rfl)) (by rw [decide_eq_true rfl]))) rfl) rfl) rfl)
theorem ok_made (F : Fun K "_law_made" "_law_made" sMade f fd) (G : FD T P w K mg base "_law_low" 1 2 pLow) (M : MD T P w K mg base "Ratio" C 2 1 pInitR) : FnOk P w K mg base CX0 3 f fd ["_law_pair", "_law_is_bare"] (spD T K 2 (pMade C)) := by
  refine fd_ok F scMade rfl fun cdv A outer s H E ds d hr _ ⟨q, b, e1, bq, e2⟩ => ?_
  subst e1; subst e2
  have lo := lowF_lo (t := q.1) bq.ne
  have lb := Nat.lt_of_le_of_lt (lowF_le (t := q.1) bq.ne).2 bq.b
  refine svs_cons (sv_tg (d := prQ (lowF q.1 q.2)) (.many [2, 3]) (ev_call G hr (evs_cons (ev_var 0 rfl) evs_nil) ⟨q.1, q.2, rfl, bq.ne, sm_log1 bq.b, rfl⟩) (pg_tup rfl (pgs_cons (pg_name (i := 2) scMade.nd rfl (Or.inl rfl)) (pgs_cons (pg_name (i := 3) scMade.nd rfl (Or.inl rfl)) pgs_nil))) rfl ?_)
  generalize lowF q.1 q.2 = r at lo lb
  refine svs_one (sv_ret (d := numV C (hd b r)) (ev_if (TW.tv (tw_andB (tv_eqI (ev_var 3 rfl) ev_int) fun _ => tw_and1 (tv_of (ev_var 1 rfl)))) (fun h => ?_) fun h => ?_) rfl)
  · rw [numV_int (v := hd b r) (by show (!(decide (r.2 = 1) && b)) = false; rw [h]; rfl)]
    exact ev_var 2 rfl
  · rw [numV_rat (v := hd b r) (by show (!(decide (r.2 = 1) && b)) = true; rw [h]; rfl)]
    refine EV.cast (ev_make M hr (evs_cons (ev_var 2 rfl) (evs_cons (ev_var 3 rfl) evs_nil)) ⟨r.1, r.2, rfl, lo.ne, sm_log1 lb, rfl, rfl⟩ rfl) ?_
    show ratL C r.1 r.2 = rat C r.1 r.2
    rw [ratL_lo, lowF_self lo]
theorem ok_fields (F : Fun K "_law_fields" "_law_fields" sFields f fd) : FnOk P w K mg base CX0 1 f fd ["_law_draw"] (spD T K 1 pFields) := by
  refine fd_ok F scFields rfl fun cdv A outer s H E ds d hr _ ⟨r, e1, e2⟩ => ?_
  subst e1; subst e2
  refine svs_one (sv_ret (ev_ixL (xs := FLD.map fun l => .lst (l.map D.str)) (i := (r : Int) % 6) ⟨r % 6, by omega, ?_⟩ (EV.cast (ev_lst (evs_cons (ev_lst (evs_cons ev_str (evs_cons ev_str evs_nil))) (evs_cons (ev_lst (evs_cons ev_str evs_nil)) (evs_cons (ev_lst evs_nil) (evs_cons (ev_lst (evs_cons ev_str (evs_cons ev_str evs_nil))) (evs_cons (ev_lst (evs_cons ev_str (evs_cons ev_str evs_nil))) (evs_cons (ev_lst (evs_cons ev_str evs_nil)) evs_nil))))))) rfl) (ev_mod (by decide) (ev_var 0 rfl) ev_int)) rfl)
  rw [List.getElem?_map, fld_get]; rfl
end
end K42

set_option Elab.async false
set_option linter.all false
set_option maxRecDepth 100000
set_option maxHeartbeats 4000000
/-! K42g: the law's terms: drawn, without noughts, handed, added. -/
namespace K42
open PySem PySem.Spec PyProof.Rows L2 Fd
theorem scTerms : FnScope ["_law_draws", "_law_fields_here", "_law_out", "_law_k", "_law_one", "_law_two", "_law_top", "_law_bottom"] ["_law_draws", "_law_fields_here"] (defScope sTerms) := ⟨rfl, rfl, rfl, by decide +kernel, rfl, by decide +kernel, by decide +kernel⟩
theorem scKept : FnScope ["_law_terms_here", "_law_powers"] ["_law_terms_here"] (defScope sKept) := ⟨rfl, rfl, rfl, by decide +kernel, rfl, by decide +kernel, by decide +kernel⟩
theorem scHand : FnScope ["_law_terms_here", "_law_is_bare", "_law_powers"] ["_law_terms_here", "_law_is_bare"] (defScope sHand) := ⟨rfl, rfl, rfl, by decide +kernel, rfl, by decide +kernel, by decide +kernel⟩
/-- one group of four draws -/
def grp (n : Nat) (rs : List Int) (acc : KL Q2) (i : Nat) : KL Q2 := match (rs.drop (4 * i)).take 4 with
  | [a, b, c, d] => putM acc ([a, b].take n) (lowF (c - 9) (1 + d))
  | _ => acc
def drawn (n : Nat) (rs : List Int) (i : Nat) : KL Q2 := (List.range i).foldl (grp n rs) []
theorem drawn_succ (n : Nat) (rs : List Int) (i : Nat) : drawn n rs (i + 1) = grp n rs (drawn n rs i) i := by
  unfold drawn
  rw [List.range_succ, List.foldl_append]; rfl
theorem four : ∀ {l : List Int}, 4 ≤ l.length → ∃ a b c d, l.take 4 = [a, b, c, d]
  | [], h => by simp at h
  | [_], h => by simp at h
  | [_, _], h => by simp at h
  | [_, _, _], h => by simp at h
  | a :: b :: c :: d :: r, _ => ⟨a, b, c, d, rfl⟩
theorem four_at {rs : List Int} {i : Nat} (h : 4 * i + 4 ≤ rs.length) : ∃ a b c d, (rs.drop (4 * i)).take 4 = [a, b, c, d] ∧ ∀ z ∈ [a, b, c, d], z ∈ rs := by
  obtain ⟨a, b, c, d, e⟩ := four (l := rs.drop (4 * i)) (by rw [List.length_drop]; omega)
  refine ⟨a, b, c, d, e, fun z hz => ?_⟩
  rw [← e] at hz
  exact List.mem_of_mem_drop (List.mem_of_mem_take hz)
/-- the draws, group by group -/
def Dr (rs : List Int) : Prop := rs.length ≤ 16 ∧ ∀ (i : Nat) (a b c d : Int), (rs.drop (4 * i)).take 4 = [a, b, c, d] → (0 ≤ a ∧ a < 4) ∧ (0 ≤ b ∧ b < 4) ∧ (0 ≤ c ∧ c < 19) ∧ (0 ≤ d ∧ d < 5)
theorem FOk.put {n : Nat} {m : KL Q2} {k : List Int} {v : Q2} (h : FOk n m) (hk : k.length = n ∧ ∀ p ∈ k, 0 ≤ p ∧ p ≤ 3) (hv : Bq 4 3 v) (hl : m.length < 4) : FOk n (putM m k v) := ⟨nd_put h.nd, fun k' h' => by
  rw [ks_put] at h'
  split at h'
  · exact h.key k' h'
  · rcases List.mem_append.mp h' with z | z
    · exact h.key k' z
    · rw [List.mem_singleton.mp z]; exact hk, fun q hq => by
  rcases mem_put hq with rfl | hq
  · exact hv
  · exact h.bq q hq, by
  unfold putM
  split
  · rw [List.length_map]; omega
  · rw [List.length_append]; exact hl⟩
theorem bq_draw {c d : Int} (hc : 0 ≤ c ∧ c < 19) (hd : 0 ≤ d ∧ d < 5) : Bq 4 3 (lowF (c - 9) (1 + d)) :=
  bq_low (by omega) (show (c - 9).natAbs < 16 by omega) (show (1 + d).natAbs < 8 by omega)
theorem drawn_ok {n : Nat} {rs : List Int} (h : Dr rs) (hn : n ≤ 2) : ∀ i, 4 * i ≤ rs.length → FOk n (drawn n rs i) ∧ (drawn n rs i).length ≤ i
  | 0, _ => ⟨⟨List.nodup_nil, fun _ z => (nomatch z), fun _ z => (nomatch z), Nat.zero_le _⟩, Nat.zero_le _⟩
  | i + 1, hi => by
    obtain ⟨ih, il⟩ := drawn_ok h hn i (by omega)
    obtain ⟨a, b, c, d, e, hm⟩ := four_at (rs := rs) (i := i) (by omega)
    obtain ⟨za, zb, zc, zd⟩ := h.2 i a b c d e
    rw [drawn_succ]
    unfold grp
    rw [e]
    have := h.1
    refine ⟨ih.put ⟨by rw [List.length_take]; exact Nat.min_eq_left hn, fun p hp => ?_⟩ (bq_draw zc zd) (by omega), ?_⟩
    · have := List.mem_of_mem_take hp
      simp at this
      rcases this with rfl | rfl
      · omega
      · omega
    · show (putM _ _ _).length ≤ _
      unfold putM
      split
      · rw [List.length_map]; omega
      · rw [List.length_append]; exact Nat.add_le_add_right il 1
def pTerms (ds : List D) (ks : List (List Key)) (xs : List D) : Prop := ∃ (rs : List Int) (fs : List Str), ds = [.lst (rs.map D.int), .lst (fs.map D.str)] ∧ Dr rs ∧ fs.length ≤ 2 ∧ ks = dks (drawn fs.length rs (rs.length / 4)) ∧ xs = dxs prQ (drawn fs.length rs (rs.length / 4))
def pKept (ds : List D) (d : D) : Prop := ∃ m, ds = [dM prQ m] ∧ (ksM m).Nodup ∧ m.length ≤ 1000 ∧ d = dM prQ (kept m)
def hdM (b : Bool) (m : KL Q2) : KL V3 := m.map fun q => (q.1, hd b q.2)
theorem toQ_hd (b : Bool) (m : KL Q2) : toQ (hdM b m) = m := by
  unfold toQ hdM
  rw [List.map_map]
  exact List.map_id' _
theorem ks_hd (b : Bool) (m : KL Q2) : ksM (hdM b m) = ksM m := by rw [← ks_toQ, toQ_hd]
def pHand (C : Addr) (ds : List D) (d : D) : Prop := ∃ m b, ds = [dM prQ m, .bl b] ∧ (ksM m).Nodup ∧ BnM 4400 m ∧ m.length ≤ 1000 ∧ d = dM (numV C) (hdM b m)
/-- what a comprehension over the keys makes -/
theorem tk_dks {α : Type} (m : KL α) : (dks m).map D.tk = (ksM m).map tkI := by rw [dks_ks, List.map_map]; rfl
theorem pairs_D {α : Type} (e : α → D) (m : KL α) : m.map (fun q => D.tup [tkI q.1, e q.2]) = pairsD (m.map fun q => (iK q.1, e q.2)) := by
  unfold pairsD
  rw [List.map_map]; rfl
theorem kept_ks {m : KL Q2} (nd : (ksM m).Nodup) (f : List Int → D) (g : List Int × Q2 → D) (h : ∀ q ∈ m, f q.1 = g q) : ((ksM m).filter fun k => nz (gt m k)).map f = (kept m).map g := by
  have e : (ksM m).filter (fun k => nz (gt m k)) = (kept m).map (·.1) := by
    unfold ksM kept
    rw [List.filter_map]
    congr 1
    exact List.filter_congr fun q hq => by show nz (gt m q.1) = nz q.2; rw [gt_of nd hq]
  rw [e, List.map_map]
  exact List.map_congr_left fun q hq => h q (List.mem_filter.mp hq).1
section
variable {T : List (Addr × Str)} {P : Program} {w : World} {K : PySem.W.Frag} {mg : Str → Option Value} {base : Heap} {C PC f : Addr} {fd : FuncData}
theorem ok_terms2 (F : Fun K "_law_terms" "_law_terms" sTerms f fd) (B : Bl K mg) (G : FD T P w K mg base "_law_low" 1 2 pLow) : FnOk P w K mg base CX0 3 f fd ["_law_draws", "_law_fields_here"] (spT T K 2 pTerms) := by
  refine fdt_ok F scTerms rfl fun cdv A outer s H E ds ks xs hr _ ⟨rs, fs, e1, hd, hf, e2, e3⟩ => ?_
  subst e1; subst e2; subst e3
  have el : D.len (.lst (rs.map D.int)) = some rs.length := by show some _ = _; rw [List.length_map]
  have ef : D.len (.lst (fs.map D.str)) = some fs.length := by show some _ = _; rw [List.length_map]
  refine rt_cons (sv_newT 2 ?_ scTerms.nd)
  refine rt_cons (sv_for (.one 3) (fun i ss => i ≤ rs.length / 4 ∧ ∃ s3 s4 s5 s6 s7, ss = [.d (.lst (rs.map D.int)), .d (.lst (fs.map D.str)), .dicT (dks (drawn fs.length rs i)) (dxs prQ (drawn fs.length rs i)), s3, s4, s5, s6, s7]) (iv_range1 (n := ((rs.length / 4 : Nat) : Int)) (EV.cast (ev_fdivW ⟨by decide, by decide +kernel⟩ (ev_len el (ev_var 0 rfl) B.len) ev_int) (by rw [show ((rs.length : Nat) : Int) / 4 = ((rs.length / 4 : Nat) : Int) by omega])) (by have := hd.1; omega) B.range) (pg_name (i := 3) scTerms.nd rfl (Or.inl rfl)) ⟨Nat.zero_le _, _, _, _, _, _, rfl⟩ ?_ ?_)
  · rintro i x ss' hx ⟨hi, s3, s4, s5, s6, s7, rfl⟩
    have hlt : i < rs.length / 4 := by
      have := (List.getElem?_eq_some_iff.mp hx).1
      rw [rng_len] at this; omega
    have hx' : (rng 0 (rs.length / 4))[i]? = some x := by
      have e : ((rs.length / 4 : Nat) : Int).toNat = rs.length / 4 := Int.toNat_natCast _
      rw [e] at hx; exact hx
    rw [rng_get hlt, Int.zero_add] at hx'
    obtain rfl : D.int (i : Int) = x := Option.some.inj hx'
    obtain ⟨a, b, c, d, e, hm⟩ := four_at (rs := rs) (i := i) (by omega)
    obtain ⟨za, zb, cc, cd⟩ := hd.2 i a b c d e
    have hcut : Fd.cutD (rs.map D.int) (some (4 * (i : Int))) (some (4 * (i : Int) + 4)) = [.int a, .int b, .int c, .int d] := by
      unfold Fd.cutD
      rw [show (4 * (i : Int)) = ((4 * i : Nat) : Int) by omega, show (((4 * i : Nat) : Int) + 4) = ((4 * i + 4 : Nat) : Int) by omega, HT.sIx_nat, HT.sIx_nat, List.length_map, Nat.min_eq_left (by omega), Nat.min_eq_left (by omega), show 4 * i + 4 - 4 * i = 4 by omega, ← List.map_drop, ← List.map_take, e]
      rfl
    obtain ⟨ok1, ok2⟩ := drawn_ok (n := fs.length) hd hf i (by omega)
    refine ⟨rfl, svs_cons (sv_tg (.manyL [4, 5, 6, 7]) (EV.cast (ev_cutL (.inl rfl) (ev_var 0 rfl) (pv_some (ev_mul (.inl (by decide)) ev_int (ev_var 3 rfl))) (pv_some (ev_add (ev_mul (.inl (by decide)) ev_int (ev_var 3 rfl)) ev_int))) (congrArg D.lst hcut)) (pg_unl rfl (pgs_cons (pg_name (i := 4) scTerms.nd rfl (Or.inl rfl)) (pgs_cons (pg_name (i := 5) scTerms.nd rfl (Or.inl rfl)) (pgs_cons (pg_name (i := 6) scTerms.nd rfl (Or.inl rfl)) (pgs_cons (pg_name (i := 7) scTerms.nd rfl (Or.inl rfl)) pgs_nil))))) rfl ?_)⟩
    refine svs_one (sv_putT (kk := iK ([a, b].take fs.length)) (d := prQ (lowF (c - 9) (1 + d))) 2 rfl hr (ev_call G hr (evs_cons (ev_tup (evs_cons (ev_sub (ev_var 6 rfl) ev_int) (evs_cons (ev_add ev_int (ev_var 7 rfl)) evs_nil))) evs_nil) ⟨c - 9, 1 + d, rfl, by omega, sm_log1 (Nat.lt_of_lt_of_le (show (1 + d).natAbs < 2 ^ 10 by omega) (Nat.pow_le_pow_right (by decide) (by decide))), rfl⟩) (EV.cast (ev_cutK (k := iK [a, b]) (n := fs.length) (ev_key (ks := iK [a, b]) (evs_cons (ev_var 4 rfl) (evs_cons (ev_var 5 rfl) evs_nil))) (ev_len ef (ev_var 1 rfl) B.len) hf) (by rw [← List.map_take])) ⟨by omega, .d (.int (i : Nat)), .d (.int a), .d (.int b), .d (.int c), .d (.int d), ?_⟩ ?_)
    · rw [drawn_succ]
      unfold grp
      rw [e, putKs_M, putXs_M]; rfl
    · rw [len_dks]; have := hd.1; omega
  · rintro ss' ⟨_, s3, s4, s5, s6, s7, rfl⟩
    have e : (rng 0 ((rs.length / 4 : Nat) : Int).toNat).length = rs.length / 4 := by rw [rng_len]; exact Int.toNat_natCast _
    rw [e]
    exact rt_ret 2 rfl
theorem ok_kept (F : Fun K "_law_kept" "_law_kept" sKept f fd) (B : Bl K mg) : FnOk P w K mg base CX0 2 f fd ["_law_terms_here"] (spD T K 1 pKept) := by
  refine fd_ok F scKept rfl fun cdv A outer s H E ds d hr _ ⟨m, e1, nd, hl, e2⟩ => ?_
  subst e1; subst e2
  have hmem : ∀ x, x ∈ (dks m).map D.tk → ∃ k v, x = tkI k ∧ (k, v) ∈ m ∧ lkM m k = some v ∧ gt m k = v := fun x hx => by
    rw [tk_dks] at hx
    obtain ⟨k, hk, rfl⟩ := List.mem_map.mp hx
    obtain ⟨v, h1, h2⟩ := mem_ks hk
    exact ⟨k, v, rfl, h1, h2, by unfold gt; rw [h2]; rfl⟩
  have ge : ∀ {X : Cx} {ss : SS} {k : List Int} {v : Q2} {e1 e2 : Expr} {pos : Pos}, lkM m k = some v → Room 1 X.A → EV T X e1 ss (dM prQ m) → EV T X e2 ss (tkI k) → NoSl e2 → EV T X (.Subscript e1 e2 pos) ss (prQ v) := fun h hr h1 h2 h3 => ev_getT hr h1 h2 (by rw [look_M, h]; rfl) h3
  refine svs_one (sv_ret (EV.cast (ev_dictPT (l := (kept m).map fun q => (iK q.1, prQ q.2)) hr ?_ (EV.cast (ev_lc [("_law_powers", 1)] (.one 1) (onK false fun k => nz (gt m k)) (onK .non fun k => .tup [tkI k, prQ (gt m k)]) (iv_keysT (ev_var 0 rfl)) (id (α := BlkOk ["_law_terms_here", "_law_powers"] (defScope sKept) _ [("_law_powers", 1)]) ⟨rfl, by decide +kernel, by decide +kernel, by decide +kernel, by decide +kernel⟩)
    (fun s H C cl fp => pg_name (i := 1) scKept.nd rfl (Or.inl rfl)) (fun s H C' cl fp y hy => ?_) (fun s H C' cl fp y hy hk => ?_) scKept.nd (fun _ _ => rfl) ?_) ?_) B.dict) ?_) rfl)
  · rw [List.map_map]
    exact nd_dks (nd_kept nd)
  · obtain ⟨k, v, rfl, h1, h2, h3⟩ := hmem y hy
    rw [onK_tk, h3]
    refine ts_one (TV.cast (tv_neI (ev_ixT (d := .int v.1) ⟨0, rfl, rfl⟩ (ge h2 hr (ev_var 0 rfl) (ev_var 1 rfl) fun _ _ => rfl) ev_int) ev_int) ?_)
    unfold nz
    by_cases z : v.1 = 0
    · rw [decide_eq_true z, decide_eq_false (fun q => q z)]; rfl
    · rw [decide_eq_false z, decide_eq_true z]; rfl
  · obtain ⟨k, v, rfl, h1, h2, h3⟩ := hmem y hy
    rw [onK_tk, h3]
    exact ev_tup (evs_cons (ev_var 1 rfl) (evs_cons (ge h2 hr (ev_var 0 rfl) (ev_var 1 rfl) fun _ _ => rfl) evs_nil))
  · rw [tk_dks, List.length_map]
    unfold ksM
    rw [List.length_map]; omega
  · rw [tk_dks, outs_tk, ← pairs_D]
    exact congrArg D.lst (kept_ks nd _ _ fun q hq => by rw [gt_of nd hq])
  · rw [List.map_map, List.map_map]; rfl
theorem ok_hand (F : Fun K "_law_handed" "_law_handed" sHand f fd) (B : Bl K mg) (G : FD T P w K mg base "_law_made" 2 3 (pMade C)) : FnOk P w K mg base CX0 4 f fd ["_law_terms_here", "_law_is_bare"] (spD T K 2 (pHand C)) := by
  refine fd_ok F scHand rfl fun cdv A outer s H E ds d hr _ ⟨m, b, e1, nd, bn, hl, e2⟩ => ?_
  subst e1; subst e2
  have hmem : ∀ x, x ∈ (dks m).map D.tk → ∃ k v, x = tkI k ∧ (k, v) ∈ m ∧ lkM m k = some v ∧ gt m k = v := fun x hx => by
    rw [tk_dks] at hx
    obtain ⟨k, hk, rfl⟩ := List.mem_map.mp hx
    obtain ⟨v, h1, h2⟩ := mem_ks hk
    exact ⟨k, v, rfl, h1, h2, by unfold gt; rw [h2]; rfl⟩
  refine svs_one (sv_ret (EV.cast (ev_dictPT (l := m.map fun q => (iK q.1, numV C (hd b q.2))) hr ?_ (EV.cast (ev_lc [("_law_powers", 2)] (.one 2) (fun _ => true) (onK .non fun k => .tup [tkI k, numV C (hd b (gt m k))]) (iv_keysT (ev_var 0 rfl)) (id (α := BlkOk ["_law_terms_here", "_law_is_bare", "_law_powers"] (defScope sHand) _ [("_law_powers", 2)]) ⟨rfl, by decide +kernel, by decide +kernel, by decide +kernel, by decide +kernel⟩)
    (fun s H C cl fp => pg_name (i := 2) scHand.nd rfl (Or.inl rfl)) (fun s H C' cl fp y hy => ts_nil) (fun s H C' cl fp y hy hk => ?_) scHand.nd (fun _ _ => rfl) ?_) ?_) B.dict) ?_) rfl)
  · rw [List.map_map]
    exact nd_dks nd
  · obtain ⟨k, v, rfl, h1, h2, h3⟩ := hmem y hy
    rw [onK_tk, h3]
    exact ev_tup (evs_cons (ev_var 2 rfl) (evs_cons (EV.cast (ev_call G hr (evs_cons (ev_getT hr (d := prQ v) (ev_var 0 rfl) (ev_var 2 rfl) (by rw [look_M, h2]; rfl)) (evs_cons (ev_var 1 rfl) evs_nil)) ⟨v, b, rfl, ⟨(bn _ h1).lo.ne, (bn _ h1).t, (bn _ h1).b⟩, rfl⟩) (by rw [show lowF v.1 v.2 = v from lowF_self (bn _ h1).lo])) evs_nil))
  · rw [tk_dks, List.length_map]
    unfold ksM
    rw [List.length_map]; omega
  · unfold outs
    rw [List.filter_eq_self.mpr fun _ _ => rfl, tk_dks, List.map_map, pairsD, List.map_map]
    unfold ksM
    rw [List.map_map]
    refine congrArg D.lst (List.map_congr_left fun q hq => ?_)
    show onK D.non (fun k => D.tup [tkI k, numV C (hd b (gt m k))]) (tkI q.1) = D.tup [tkI q.1, numV C (hd b q.2)]
    rw [onK_tk, gt_of nd hq]
  · rw [List.map_map, List.map_map]
    unfold dM dks dxs hdM
    rw [List.map_map, List.map_map]; rfl
end
end K42

set_option Elab.async false
set_option linter.all false
set_option maxRecDepth 100000
set_option maxHeartbeats 4000000
/-! K42h: the law's own powers and values. -/
namespace K42
open PySem PySem.Spec PyProof.Rows L2 Fd
theorem scLpow : FnScope ["_law_number", "_law_power_here", "_law_out", "_law_k"] ["_law_number", "_law_power_here"] (defScope sLpow) := ⟨rfl, rfl, rfl, by decide +kernel, rfl, by decide +kernel, by decide +kernel⟩
theorem scLval : FnScope ["_law_terms_here", "_law_numbers", "_law_total", "_law_powers", "_law_value", "_law_number", "_law_power_here"] ["_law_terms_here", "_law_numbers"] (defScope sLval) := ⟨rfl, rfl, rfl, by decide +kernel, rfl, by decide +kernel, by decide +kernel⟩
def lpow (x : Q2) : Nat → Q2
  | 0 => (1, 1)
  | j + 1 => mulQ (lpow x j) x
theorem lpow_ok {x : Q2} (h : Raw 70 4 x) : ∀ j, Bq (70 * j + 1) (4 * j + 1) (lpow x j) ∧ R (lpow x j) = pwr (R x) j
  | 0 => ⟨bq11, R_one⟩
  | j + 1 => by
    obtain ⟨b, c⟩ := lpow_ok h j
    refine ⟨(mulQ_bq b.raw h).up (by omega) (by omega), ?_⟩
    show R (mulQ (lpow x j) x) = pwr (R x) j * R x
    rw [R_mul b.lo.ne h.ne, c]
def lstep (v : Q2) (z : Q2 × Int) : Q2 := mulQ v (lpow z.1 z.2.toNat)
def lworth (xs : List Q2) (q : List Int × Q2) : Q2 := (xs.zip q.1).foldl lstep q.2
def lval (m : KL Q2) (xs : List Q2) : Q2 := m.foldl (fun t q => addQ t (lworth xs q)) (0, 1)
theorem lstep_ok {v : Q2} {x : Q2} {p : Int} {a b : Nat} (hv : Bq a b v) (hx : Raw 70 4 x) (hp : 0 ≤ p ∧ p ≤ 3) : Bq (a + 211) (b + 13) (lstep v (x, p)) ∧ R (lstep v (x, p)) = R v * pwr (R x) p.toNat := by
  obtain ⟨c1, c2⟩ := lpow_ok hx p.toNat
  refine ⟨(mulQ_bq hv.raw c1.raw).up (by omega) (by omega), ?_⟩
  show R (mulQ v (lpow x p.toNat)) = _
  rw [R_mul hv.lo.ne c1.lo.ne, c2]
theorem lworth_go : ∀ {xs : List Q2} {k : List Int} {v : Q2} {a b : Nat}, xs.length = k.length → (∀ x ∈ xs, Raw 70 4 x) → (∀ p ∈ k, 0 ≤ p ∧ p ≤ 3) → Bq a b v →
    Bq (a + 211 * k.length) (b + 13 * k.length) ((xs.zip k).foldl lstep v) ∧ R ((xs.zip k).foldl lstep v) = R v * mono k (xs.map R)
  | [], [], v, a, b, _, _, _, hv => ⟨hv.up (by omega) (by omega), by show R v = R v * 1; grind⟩
  | x :: xs, p :: k, v, a, b, h, hx, hk, hv => by
    obtain ⟨s1, s2⟩ := lstep_ok hv (hx x List.mem_cons_self) (hk p List.mem_cons_self)
    obtain ⟨r1, r2⟩ := lworth_go (xs := xs) (k := k) (by simpa using h) (fun y hy => hx y (List.mem_cons_of_mem _ hy)) (fun y hy => hk y (List.mem_cons_of_mem _ hy)) s1
    refine ⟨r1.up (by rw [List.length_cons]; omega) (by rw [List.length_cons]; omega), ?_⟩
    show R ((xs.zip k).foldl lstep (lstep v (x, p))) = R v * (pwr (R x) p.toNat * mono k (xs.map R))
    rw [r2, s2]; grind
  | [], _ :: _, _, _, _, h, _, _, _ => by simp at h
  | _ :: _, [], _, _, _, h, _, _, _ => by simp at h
theorem fold_pair (f : List Int × Q2 → Q2) : ∀ (l : KL Q2) (t : Q2), (l.foldl (fun t q => addV t (f q, true)) (t, true)).1 = l.foldl (fun t q => addQ t (f q)) t
  | [], _ => rfl
  | q :: l, t => fold_pair f l (addQ t (f q))
/-- the raw numbers of a script -/
def Rs (n : Nat) (xs : List Q2) : Prop := xs.length = n ∧ ∀ x ∈ xs, Raw 70 4 x
theorem lworth_ok {n : Nat} {m : KL Q2} {xs : List Q2} (hn : n ≤ 2) (h : FOk n m) (hx : Rs n xs) {q : List Int × Q2} (hq : q ∈ m) : Bq 426 29 (lworth xs q) ∧ R (lworth xs q) = R q.2 * mono q.1 (xs.map R) := by
  obtain ⟨⟨l, r⟩, b⟩ := h.at hq
  obtain ⟨r1, r2⟩ := lworth_go (by rw [hx.1, l]) hx.2 r b
  exact ⟨r1.up (by omega) (by omega), r2⟩
theorem lval_ok {n : Nat} {m l : KL Q2} {xs : List Q2} (hn : n ≤ 2) (h : FOk n m) (hx : Rs n xs) (hl : ∀ q ∈ l, q ∈ m) (hl4 : l.length ≤ 4) : Bq 546 117 (lval l xs) ∧ R (lval l xs) = val l (xs.map R) := by
  obtain ⟨_, r2, r3⟩ := sum_go (A := 426) (B := 29) (f := fun q => (lworth xs q, true)) (xs := xs.map R) (l := l) (t := ((0, 1), true)) (i := 0) (fun q hq => ⟨fun z => (nomatch z), (lworth_ok hn h hx (hl q hq)).1, (lworth_ok hn h hx (hl q hq)).2⟩) (fun z => (nomatch z)) (bq01.up (by omega) (by omega)) (by decide)
  rw [fold_pair] at r2 r3
  have hm := Nat.mul_le_mul_left 29 (show 0 + l.length ≤ 4 by omega)
  refine ⟨r2.up (by omega) (by omega), ?_⟩
  rw [show lval l xs = l.foldl (fun t q => addQ t (lworth xs q)) (0, 1) from rfl, r3, R_zero]
  grind
def pLpow (ds : List D) (d : D) : Prop := ∃ (x : Q2) (j : Nat), ds = [prQ x, .int (j : Nat)] ∧ Raw 70 4 x ∧ j ≤ 3 ∧ d = prQ (lpow x j)
def pLval (ds : List D) (d : D) : Prop := ∃ m xs n, ds = [dM prQ m, .lst (xs.map prQ)] ∧ FOk n m ∧ n ≤ 2 ∧ Rs n xs ∧ d = prQ (lval m xs)
section
variable {T : List (Addr × Str)} {P : Program} {w : World} {K : PySem.W.Frag} {mg : Str → Option Value} {base : Heap} {C PC f : Addr} {fd : FuncData}
theorem ok_lpow (F : Fun K "_law_power" "_law_power" sLpow f fd) (B : Bl K mg) (G : FD T P w K mg base "_law_times" 2 3 pLtim) : FnOk P w K mg base CX0 4 f fd ["_law_number", "_law_power_here"] (spD T K 2 pLpow) := by
  refine fd_ok F scLpow rfl fun cdv A outer s H E ds d hr _ ⟨x, j, e1, hx, hj, e2⟩ => ?_
  subst e1; subst e2
  refine svs_cons (sv_set 2 (d := prQ (1, 1)) (ev_tup (evs_cons ev_int (evs_cons ev_int evs_nil))) ?_ scLpow.nd)
  refine svs_cons (sv_for (.one 3) (fun i ss => ∃ s3, ss = [.d (prQ x), .d (.int (j : Nat)), .d (prQ (lpow x i)), s3]) (iv_range1 (n := ((j : Nat) : Int)) (ev_var 1 rfl) (by omega) B.range) (pg_name (i := 3) scLpow.nd rfl (Or.inl rfl)) ⟨_, rfl⟩ ?_ ?_)
  · rintro i y ss' hy ⟨s3, rfl⟩
    have hi : i < j := by
      have := (List.getElem?_eq_some_iff.mp hy).1
      rw [rng_len, Int.toNat_natCast] at this; exact this
    obtain ⟨c1, _⟩ := lpow_ok hx i
    exact ⟨rfl, svs_one (sv_set 2 (d := prQ (lpow x (i + 1))) (ev_call G hr (evs_cons (ev_var 2 rfl) (evs_cons (ev_var 0 rfl) evs_nil)) ⟨_, _, rfl, ⟨c1.lo.ne, up2 c1.t (by omega), up2 c1.b (by omega)⟩, ⟨hx.ne, up2 hx.t (by omega), up2 hx.b (by omega)⟩, rfl⟩) ⟨_, rfl⟩ scLpow.nd)⟩
  · rintro ss' ⟨s3, rfl⟩
    rw [rng_len, Int.toNat_natCast]
    exact svs_one (sv_ret (ev_var 2 rfl) rfl)
theorem ok_lval (F : Fun K "_law_value_of" "_law_value_of" sLval f fd) (B : Bl K mg) (GA : FD T P w K mg base "_law_add" 2 3 pLadd) (GT : FD T P w K mg base "_law_times" 2 3 pLtim) (GP : FD T P w K mg base "_law_power" 2 4 pLpow) : FnOk P w K mg base CX0 5 f fd ["_law_terms_here", "_law_numbers"] (spD T K 2 pLval) := by
  refine fd_ok F scLval rfl fun cdv A outer s H E ds d hr _ ⟨m, xs, n, e1, hm, hn, hx, e2⟩ => ?_
  subst e1; subst e2
  have hr3 := hr.mono (show 3 ≤ 4 by decide)
  refine svs_cons (sv_set 2 (d := prQ (0, 1)) (ev_tup (evs_cons ev_int (evs_cons ev_int evs_nil))) ?_ scLval.nd)
  refine svs_cons (sv_for (.one 3) (fun i ss => i ≤ m.length ∧ ∃ s3 s4 s5 s6, ss = [.d (dM prQ m), .d (.lst (xs.map prQ)), .d (prQ (lval (m.take i) xs)), s3, s4, s5, s6]) (iv_keysT (ev_var 0 rfl)) (pg_name (i := 3) scLval.nd rfl (Or.inl rfl)) ⟨Nat.zero_le _, _, _, _, _, rfl⟩ ?_ ?_)
  · rintro i y ss' hy ⟨hi, s3, s4, s5, s6, rfl⟩
    unfold dks at hy
    rw [List.map_map, List.getElem?_map] at hy
    obtain ⟨q, hq1, rfl⟩ := Option.map_eq_some_iff.mp hy
    have hlt : i < m.length := (List.getElem?_eq_some_iff.mp hq1).1
    have hqm := List.mem_of_getElem? hq1
    obtain ⟨⟨lk, rk⟩, bq⟩ := hm.at hqm
    have et : lval (m.take (i + 1)) xs = addQ (lval (m.take i) xs) (lworth xs q) := by
      unfold lval
      rw [List.take_add_one, hq1, List.foldl_append]; rfl
    obtain ⟨v1, _⟩ := lval_ok hn hm hx (l := m.take i) (fun z hz => List.mem_of_mem_take hz) (by rw [List.length_take]; have := hm.len; omega)
    obtain ⟨w1, _⟩ := lworth_ok hn hm hx hqm
    rw [et]
    generalize lval (m.take i) xs = t at v1
    refine ⟨rfl, svs_cons (sv_set 4 (d := prQ q.2) (ev_getT hr (ev_var 0 rfl) (ev_var 3 rfl) (by rw [look_M, lk_of hm.nd hqm]; rfl)) ?_ scLval.nd)⟩
    refine svs_cons (sv_for (.many [5, 6]) (fun j ss => j ≤ (xs.zip q.1).length ∧ ∃ s5 s6, ss = [.d (dM prQ m), .d (.lst (xs.map prQ)), .d (prQ t), .d (tkI q.1), .d (prQ (((xs.zip q.1).take j).foldl lstep q.2)), s5, s6]) (iv_zipLT (ev_var 1 rfl) (EV.cast (d' := .tup (q.1.map D.int)) (ev_tk (ks := iK q.1) (ev_var 3 rfl)) (by rw [List.map_map]; rfl)) B.zip) (pg_tup rfl (pgs_cons (pg_name (i := 5) scLval.nd rfl (Or.inl rfl)) (pgs_cons (pg_name (i := 6) scLval.nd rfl (Or.inl rfl)) pgs_nil))) ⟨Nat.zero_le _, _, _, rfl⟩ ?_ ?_)
    · rintro j y ss' hy ⟨hj, s5, s6, rfl⟩
      have hzl : (zips (xs.map prQ) (q.1.map D.int)).length = (xs.zip q.1).length := by rw [zips_len, List.length_zip, List.length_map, List.length_map]
      have hlt2 : j < (xs.zip q.1).length := by rw [← hzl]; exact (List.getElem?_eq_some_iff.mp hy).1
      have hz := List.getElem?_eq_getElem hlt2
      generalize (xs.zip q.1)[j] = z at hz
      obtain ⟨x, p⟩ := z
      obtain ⟨z1, z2⟩ := List.getElem?_zip_eq_some.mp hz
      have hy2 : (zips (xs.map prQ) (q.1.map D.int))[j]? = some (.tup [prQ x, .int p]) := zips_get (by rw [List.getElem?_map, z1]; rfl) (by rw [List.getElem?_map, z2]; rfl)
      rw [hy2] at hy
      obtain rfl := Option.some.inj hy
      have hxx := hx.2 x (List.mem_of_getElem? z1)
      have hp := rk p (List.mem_of_getElem? z2)
      have ej : ((xs.zip q.1).take (j + 1)).foldl lstep q.2 = lstep (((xs.zip q.1).take j).foldl lstep q.2) (x, p) := by rw [List.take_add_one, hz, List.foldl_append]; rfl
      have wk : Bq 426 29 (((xs.zip q.1).take j).foldl lstep q.2) := by
        rw [take_zip2]
        have hw := lworth_go (xs := xs.take j) (k := q.1.take j) (by rw [List.length_take, List.length_take, hx.1, lk]) (fun y hy => hx.2 y (List.mem_of_mem_take hy)) (fun y hy => rk y (List.mem_of_mem_take hy)) bq
        have l0 : (q.1.take j).length ≤ 2 := by rw [List.length_take]; omega
        exact hw.1.up (by omega) (by omega)
      obtain ⟨c1, _⟩ := lpow_ok hxx p.toNat
      rw [ej]
      generalize ((xs.zip q.1).take j).foldl lstep q.2 = v at wk
      exact ⟨rfl, svs_one (sv_set 4 (d := prQ (lstep v (x, p))) (ev_call GT hr3 (evs_cons (ev_var 4 rfl) (evs_cons (ev_call GP hr (evs_cons (ev_var 5 rfl) (evs_cons (EV.cast (d := .int p) (d' := .int (p.toNat : Nat)) (ev_var 6 rfl) (by rw [Int.toNat_of_nonneg hp.1])) evs_nil)) ⟨x, p.toNat, rfl, hxx, by omega, rfl⟩) evs_nil)) ⟨_, _, rfl, ⟨wk.lo.ne, up2 wk.t (by decide), up2 wk.b (by decide)⟩, ⟨c1.lo.ne, up2 c1.t (by omega), up2 c1.b (by omega)⟩, rfl⟩) ⟨hlt2, _, _, rfl⟩ scLval.nd)⟩
    · rintro ss' ⟨_, s5, s6, rfl⟩
      have hzl : (zips (xs.map prQ) (q.1.map D.int)).length = (xs.zip q.1).length := by rw [zips_len, List.length_zip, List.length_map, List.length_map]
      rw [hzl, List.take_length]
      exact svs_one (sv_set 2 (d := prQ (addQ t (lworth xs q))) (ev_call GA hr3 (evs_cons (ev_var 2 rfl) (evs_cons (ev_var 4 rfl) evs_nil)) ⟨_, _, rfl, v1.bn (by decide) (by decide), w1.bn (by decide) (by decide), rfl⟩) ⟨hlt, _, _, _, _, rfl⟩ scLval.nd)
  · rintro ss' ⟨_, s3, s4, s5, s6, rfl⟩
    have e : ((dks m).map D.tk).length = m.length := by rw [List.length_map, len_dks]
    rw [e, List.take_length]
    exact svs_one (sv_ret (ev_var 2 rfl) rfl)
end
/-! ### what the two sides make -/
theorem FOk.m {n : Nat} {m : KL Q2} (h : FOk n m) (b : Bool) : MOk n (hdM b m) := ⟨by rw [ks_hd]; exact h.nd, fun k hk => by
  rw [ks_hd] at hk
  exact ⟨(h.key k hk).1, fun p hp => ((h.key k hk).2 p hp).1⟩, fun q hq => by
  obtain ⟨r, _, rfl⟩ := List.mem_map.mp hq
  exact w_hd b r.2, fun q hq => by
  obtain ⟨r, hr, rfl⟩ := List.mem_map.mp hq
  exact (h.bq r hr).bn (by decide) (by decide), by unfold hdM; rw [List.length_map]; have := h.len; omega⟩
theorem FOk.bn {n : Nat} {m : KL Q2} (h : FOk n m) : BnM 4400 m := fun q hq => (h.bq q hq).bn (by decide) (by decide)
theorem FOk.lo {n : Nat} {m : KL Q2} (h : FOk n m) : LoM m := fun q hq => (h.bq q hq).lo
theorem can_mem {m : KL Q2} {q : List Int × Q2} (nd : (ksM m).Nodup) (h : q ∈ can m) : q ∈ m := (List.mem_filter.mp ((can_perm nd).mem_iff.mp h)).1
theorem FOk.can {n : Nat} {m : KL Q2} (h : FOk n m) : FOk n (can m) := ⟨can_nd h.nd, fun k hk => h.key k (can_sub hk), fun q hq => h.bq q (can_mem h.nd hq), Nat.le_trans (can_len m) h.len⟩
theorem FOk.ma {n : Nat} {m : KL Q2} (h : FOk n m) : MA n m := ⟨fun q hq => by
  obtain ⟨⟨l, r⟩, _⟩ := h.at hq
  exact ⟨l, fun p hp => by have := r p hp; omega⟩, fun q hq => (h.bq q hq).up (by decide) (by decide), by have := h.len; omega⟩
theorem prod_ma {n : Nat} {a b : KL Q2} (ha : FOk n a) (hb : FOk n b) : MA n (can (toQ (prodV a b))) ∧ (∀ xs, val (can (toQ (prodV a b))) xs = val a xs * val b xs) := by
  obtain ⟨pa, pv⟩ := prod_ok ha hb
  have nd : (ksM (toQ (prodV a b))).Nodup := by rw [ks_toQ]; exact pa.nd
  have el : (toQ (prodV a b)).length = (prodV a b).length := List.length_map _
  refine ⟨⟨fun q hq => ?_, fun q hq => ?_, ?_⟩, fun xs => by rw [val_can nd, pv]⟩
  · have := List.mem_map_of_mem (f := (·.1)) (can_mem nd hq)
    have h2 : q.1 ∈ ksM (prodV a b) := by rw [← ks_toQ]; exact this
    exact pa.key _ h2
  · obtain ⟨r, hr, rfl⟩ := List.mem_map.mp (can_mem nd hq)
    exact (pa.bq r hr).up (by decide) (by decide)
  · have := can_len (toQ (prodV a b))
    have := pa.len
    omega
/-- the numbers put in, and their rational values -/
def numsOf (b : Bool) (xs : List Q2) : List V3 := xs.map fun x => hd b (lowF x.1 x.2)
theorem nums_xs {n : Nat} {b : Bool} {xs : List Q2} (h : Rs n xs) : Xs n (numsOf b xs) := ⟨by unfold numsOf; rw [List.length_map]; exact h.1, fun v hv => by
  obtain ⟨x, hx, rfl⟩ := List.mem_map.mp hv
  have r := h.2 x hx
  exact ⟨w_hd _ _, bq_low r.ne r.t r.b⟩⟩
theorem nums_R {n : Nat} {b : Bool} {xs : List Q2} (h : Rs n xs) : (numsOf b xs).map (fun v => R v.1) = xs.map R := by
  unfold numsOf
  rw [List.map_map]
  exact List.map_congr_left fun x hx => R_low (h.2 x hx).ne
/-- at tells the law's value -/
theorem at_same {n : Nat} {m : KL Q2} {xs : List Q2} {b : Bool} {v : Q2} (hn : n ≤ 2) (h : MA n m) (hx : Rs n xs) (lo : Lo v) (e : R v = val m (xs.map R)) : (valV m (List.zipWith tabV (numsOf b xs) (tsOf m n))).1 = v := by
  have vok := vok_of hn h (nums_xs (b := b) hx)
  obtain ⟨_, v2, v3⟩ := valV_ok (n := 70) (m := 4) (a := 120) (b := 97) vok.tb (by decide) vok.len
  refine R_inj v2.lo lo ?_
  rw [v3, nums_R hx, e]
/-- the greatest power, either way -/
theorem mx_perm {a b : List Int} (h : a.Perm b) : mx a = mx b := by
  by_cases e : a = []
  · subst e
    rw [List.nil_perm.mp h]
  · obtain ⟨h1, h2⟩ := mx_in e
    exact mx_of (h.mem_iff.mp h1) fun y hy => h2 y (h.mem_iff.mpr hy)
theorem mx_zero {a : List Int} (h : ∀ y ∈ a, 0 ≤ y) : mx (0 :: a) = mx a := by
  cases a with
  | nil => rfl
  | cons z zs =>
    obtain ⟨h1, h2⟩ := mx_in (zs := z :: zs) (fun q => nomatch q)
    refine (mx_of (List.mem_cons_of_mem _ h1) fun y hy => ?_).symm
    rcases List.mem_cons.mp hy with rfl | hy
    · exact h _ h1
    · exact h2 y hy
theorem top_same {n : Nat} {m : KL Q2} {k : Nat} (h : FOk n m) (hk : k < n) : mx (0 :: (kept m).map fun q => q.1.getD k 0) = topP (can m) k := by
  have p := (can_perm h.nd).map fun q => q.1.getD k 0
  unfold topP
  rw [mx_perm p]
  refine mx_zero fun y hy => ?_
  obtain ⟨q, hq, rfl⟩ := List.mem_map.mp hy
  obtain ⟨⟨l, r⟩, _⟩ := h.at (List.mem_filter.mp hq).1
  rw [List.getD_eq_getElem?_getD, List.getElem?_eq_getElem (show k < q.1.length by omega)]
  exact (r _ (List.getElem_mem _)).1
end K42

set_option Elab.async false
set_option linter.all false
set_option maxRecDepth 100000
set_option maxHeartbeats 8000000
/-! K42i: the law. -/
namespace K42
open PySem PySem.Spec PyProof.Rows L2 Fd PySem.ExS
abbrev lN : List Str := ["_law_script", "_law_row_here", "_law_fields_here", "_law_one", "_law_two", "_law_p", "_law_q", "_law_pairs", "_law_numbers", "_law_pair", "_law_first", "_law_second", "_law_k", "_law_due", "_law_powers", "_law_many", "_law_counts"]
theorem scLaw : FnScope lN ["_law_script"] (defScope sLaw) := ⟨rfl, rfl, rfl, by decide +kernel, rfl, by decide +kernel, by decide +kernel⟩
theorem scCount : FnScope ["_law_way", "e"] ["_law_way"] (defScope sCount) := ⟨rfl, rfl, rfl, by decide +kernel, rfl, by decide +kernel, by decide +kernel⟩
/-- the def that tells what WrongCount holds -/
structure Cn (K : PySem.W.Frag) (mg : Str → Option Value) (CW : Addr) : Prop where
  ex : ∃ g fdg cdg, FunZ K "_law_count" "_law_count" sCount g fdg cdg ∧ mg "_law_count" = some (.ref g) ∧ Binds K fdg ["_law_way"] []
  mgE : mg "WrongCount" = some (.ref CW)
  em : PySem.W.exmOne K (.ref CW) (.ref CW) = some true
  xf : XfC K CW
  no : PySem.W.findIn K (.ref CW) "count" = some none
/-- a maker of lambdas: its code object at cA, the table at Pt, its lambdas' name -/
structure Mkr (T : List (Addr × Str)) (mg : Str → Option Value) (base : Heap) (cA Pt : Addr) (q : Str) : Prop where
  tb : LamX.TabB base mg cA Pt
  mem : (Pt, q) ∈ T
  only : ∀ p ∈ T, p.1 = Pt → p.2 = q
section
variable {T : List (Addr × Str)} {X : Cx} {ss : SS} {p pos lpos : Pos} {k : Nat} {cA Pt CW : Addr} {params : Arguments} {body : Expr} {scope : Scope} {d : D}
theorem e_count (R : Cn X.K X.mg CW) (M : Mkr T X.mg X.base cA Pt (X.env.qual ++ "<lambda>")) (hcode : X.env.code = .ref cA) (hr : Room (k + 2) X.A) (L : LamX.LamS X.env.scope scope)
    (hbody : ∀ (A : Around) (outer : List Env) (s : Shared) (H : Hp) (E : XK) (f cc : Addr), Room k (A.deeper (LamX.lamEnv X scope s.heap.objs.size f cc)) → Passes (L2.CX X.prog X.w) (LamX.lamCx X A outer s H E scope f cc) E → XE' T (LamX.lamCx X A outer s H E scope f cc) body ss CW "count" d E)
    (hdef : defaultsOf params X.env = ([], []) := by rfl) (hbind : ∀ (q : Str) (cl : List (Str × Addr)) (pm cv ctv : Value), bindArgs (PySem.W.kla_fn "<lambda>" q params body scope cl pm cv ctv) ⟨[], []⟩ = pure [] := by exact fun _ _ _ _ _ => rfl)
    (hg : Gl X "_law_count" := by rfl) : EV T X (.Call (.Name "_law_count" p) [.Lambda params body scope lpos] [] pos) ss d := by
  obtain ⟨g, fdg, cdg, F, hm, hb⟩ := R.ex
  exact ev_lamV F hm hb scCount rfl (Or.inl rfl) (holds_gives (C := CW) (i := 1) rfl R.mgE (by decide) R.em R.xf R.no scCount.nd rfl rfl (by decide) (by decide) (fun _ => rfl) fun _ => rfl) M.tb hcode M.mem M.only hr L hdef hbind hbody hg
end
structure Lw (T : List (Addr × Str)) (P : Program) (w : World) (K : PySem.W.Frag) (mg : Str → Option Value) (base : Heap) (C PC CW cA Pt : Addr) : Prop where
  G : Pg T P w K mg base C PC
  mul : ∃ f, OwnM T P w K mg base PC (PySem.dunder (Operator.info .Mult).2) 2 8 (pPMul C PC) f
  sf : PySem.W.selfFirst K PC = true
  at_ : ∃ f, OwnM T P w K mg base PC "at" 2 5 (pPAt C PC) f
  power : ∃ f, OwnM T P w K mg base PC "power" 2 2 (pPPower C PC) f
  atE : OwnE T P w K mg base PC "at" CW "count" 2 2 (pPAtE C PC)
  powerE : OwnE T P w K mg base PC "power" CW "count" 2 2 (pPPowerE C PC)
  cell : FD T P w K mg base "_law_cell" 2 1 pCell
  row : FD T P w K mg base "_law_row" 2 1 pRow
  low : FD T P w K mg base "_law_low" 1 2 pLow
  times : FD T P w K mg base "_law_times" 2 3 pLtim
  isint : FD T P w K mg base "_law_is_int" 1 1 (pLint C PC)
  isplain : FD T P w K mg base "_law_is_plain" 2 3 (pLpl C)
  made : FD T P w K mg base "_law_made" 2 3 (pMade C)
  fields : FD T P w K mg base "_law_fields" 1 1 pFields
  terms : FDT T P w K mg base "_law_terms" 2 3 pTerms
  kept : FD T P w K mg base "_law_kept" 1 2 pKept
  hand : FD T P w K mg base "_law_handed" 2 4 (pHand C)
  value : FD T P w K mg base "_law_value_of" 2 5 pLval
  count : Cn K mg CW
  mkr : Mkr T mg base cA Pt ((envOfC "law" (defScope sLaw) 0 0 .none).qual ++ "<lambda>")
def SZ : List Int := [6, 2, 19, 5, 19, 5, 5, 5, 4] ++ (List.replicate 8 [(4 : Int), 4, 19, 5]).flatten
theorem sz_ok : ∀ z ∈ SZ, 0 < z ∧ z ≤ 19 := by decide
theorem sz_grp : ∀ s ∈ [9, 25], ∀ i ∈ List.range 4, SZ[s + 4 * i]? = some 4 ∧ SZ[s + 4 * i + 1]? = some 4 ∧ SZ[s + 4 * i + 2]? = some 19 ∧ SZ[s + 4 * i + 3]? = some 5 := by decide
theorem row_bd (c : Int) {j : Nat} {z v : Int} (h : SZ[j]? = some z) (e : (rowL c SZ)[j]? = some v) : 0 ≤ v ∧ v < z := by
  obtain ⟨u, e1, e2⟩ := rowL_at c h (sz_ok z (List.mem_of_getElem? h)).1
  rw [e] at e1
  cases e1
  omega
theorem dr_of (c : Int) {s r : Nat} (hs : s ∈ [9, 25]) (hr : r ≤ 4) : Dr (((rowL c SZ).drop s).take (4 * r)) := by
  refine ⟨by rw [List.length_take]; omega, fun i a b c' d e => ?_⟩
  have hl := congrArg List.length e
  rw [List.length_take, List.length_drop, List.length_take] at hl
  have h4 : [a, b, c', d].length = 4 := rfl
  rw [h4] at hl
  have hi : i < r := by omega
  have get : ∀ t, t < 4 → (rowL c SZ)[s + 4 * i + t]? = [a, b, c', d][t]? := fun t ht => by
    rw [← e, List.getElem?_take_of_lt ht, List.getElem?_drop, List.getElem?_take_of_lt (by omega), List.getElem?_drop, Nat.add_assoc]
  obtain ⟨z0, z1, z2, z3⟩ := sz_grp s hs i (List.mem_range.mpr (by omega))
  exact ⟨row_bd c z0 (get 0 (by decide)), row_bd c z1 (get 1 (by decide)), row_bd c z2 (get 2 (by decide)), row_bd c z3 (get 3 (by decide))⟩
theorem cutD_to (xs : List D) (n : Nat) : Fd.cutD xs none (some (n : Int)) = xs.take n := by
  unfold Fd.cutD
  rw [HT.sIx_none, HT.sIx_nat, List.drop_zero, Nat.sub_zero, List.take_eq_take_iff]
  omega
theorem cutD_last (xs : List D) : Fd.cutD xs none (some (-1)) = xs.take (xs.length - 1) := by
  have e : HT.sIx xs.length xs.length (some (-1)) = xs.length - 1 := by
    have h : HT.sIx xs.length xs.length (some (-1)) = ((-1 : Int) + (xs.length : Int)).toNat := by
      show (if (-1 : Int) < 0 then ((-1 : Int) + (xs.length : Int)).toNat else min (-1 : Int).toNat xs.length) = _
      rw [if_pos (by decide)]
    rw [h]; omega
  unfold Fd.cutD
  rw [HT.sIx_none, List.drop_zero, Nat.sub_zero, e]
def madeF (C : Addr) (b : Bool) : D → D
  | .tup [.int t, .int u] => numV C (hd b (lowF t u))
  | _ => .non
theorem outs_made (C : Addr) (b : Bool) (xs : List Q2) : outs (fun _ => true) (madeF C b) (xs.map prQ) = (numsOf b xs).map (numV C) := by
  unfold outs numsOf
  rw [List.filter_eq_self.mpr fun _ _ => rfl, List.map_map, List.map_map]
  exact List.map_congr_left fun _ _ => rfl
theorem outs_pow (m : KL Q2) (k : Nat) : outs (fun _ => true) (onK .non fun z => .int (z.getD k 0)) ((dks m).map D.tk) = (m.map fun q => q.1.getD k 0).map D.int := by
  unfold outs
  rw [List.filter_eq_self.mpr fun _ _ => rfl, tk_dks, List.map_map, List.map_map]
  unfold ksM
  rw [List.map_map]
  exact List.map_congr_left fun q _ => by show onK D.non (fun z => D.int (z.getD k 0)) (tkI q.1) = D.int (q.1.getD k 0); rw [onK_tk]
abbrev lX (P : Program) (w : World) (K : PySem.W.Frag) (mg : Str → Option Value) (base : Heap) (f cA : Addr) (A : Around) (outer : List Env) (s : Shared) (H : Hp) (E : XK) : Cx := bodyX CX0 P w K mg base lN "law" sLaw f (.ref cA) A outer s H E
section
variable {T : List (Addr × Str)} {P : Program} {w : World} {K : PySem.W.Frag} {mg : Str → Option Value} {base : Heap} {C PC CW f cA Pt : Addr} {fd : FuncData} {A : Around} {outer : List Env} {s : Shared} {H : Hp} {E : XK}
/-- from the counts on -/
theorem tail2 (L : Lw T P w K mg base C PC CW cA Pt) (hr : Room 8 (lX P w K mg base f cA A outer s H E).A) {fs : List Str} {m : KL Q2} {zs : List D} {s0 s1 s3 s4 s6 s7 s9 s10 s11 s12 s13 s14 s15 s16 : S} (nms : Nms fs) (hz : zs.length = fs.length) :
    SVs T (lX P w K mg base f cA A outer s H E) ((defBody sLaw).drop 12) [s0, s1, .d (.lst (fs.map D.str)), s3, s4, .d (polyD C PC fs m), s6, s7, .d (.lst zs), s9, s10, s11, s12, s13, s14, s15, s16] { nx := fun _ => D.bl true = .non, rt := fun d' => d' = .bl true } := by
  have B := L.G.V.B
  have cl := L.G.V.O.R.ikP.cl
  have hr4 := hr.mono (show 4 ≤ 8 by decide)
  have el : D.len (.lst (fs.map D.str)) = some fs.length := by show some _ = _; rw [List.length_map]
  have hf := nms.len
  refine svs_cons (sv_set 15 (ev_len el (ev_var 2 rfl) B.len) ?_ scLaw.nd)
  refine svs_cons (sv_setOwn 16 (evs_cons (e_count (d := .int ((zs ++ [D.int 1]).length : Nat)) (k := 2) L.count L.mkr rfl hr4 (LamX.lamS_by rfl) fun A outer s H E f cc hrb hx => ?_) evs_nil) ?_ scLaw.nd)
  · exact xe_meth (ev_var 5 rfl) cl (by decide) L.atE hx hrb (evs_cons (ev_cat (by rw [List.length_singleton]; omega) (ev_var 8 rfl) (ev_lst (evs_cons ev_int evs_nil))) evs_nil) ⟨fs, m, _, zs ++ [.int 1], rfl, .inl rfl, by rw [List.length_append, List.length_singleton]; omega, rfl⟩
  refine svs_cons (sv_append 16 rfl (e_count (d := .int (fs.length : Int)) (k := 2) L.count L.mkr rfl hr4 (LamX.lamS_by rfl) fun A outer s H E f cc hrb hx => ?_) ?_ (by show 1 ≤ 100000; decide))
  · exact xe_meth (ev_var 5 rfl) cl (by decide) L.powerE hx hrb (evs_cons (ev_var 15 rfl) evs_nil) ⟨fs, m, (fs.length : Int), rfl, by omega, rfl⟩
  refine svs_cons (sv_append 16 rfl (e_count (d := .int (-1)) (k := 2) L.count L.mkr rfl hr4 (LamX.lamS_by rfl) fun A outer s H E f cc hrb hx => ?_) ?_ (by show 2 ≤ 100000; decide))
  · exact xe_meth (ev_var 5 rfl) cl (by decide) L.powerE hx hrb (evs_cons (ev_neg ev_int) evs_nil) ⟨fs, m, -1, rfl, by omega, rfl⟩
  have pd : Pd (.lst [.int ((fs.length : Int) + 1), .int (fs.length : Int), .int (-1)]) (.list [.int ((fs.length : Int) + 1), .int (fs.length : Int), .int (-1)]) 1 := Pd.lst (.cons (.int _) (.cons (.int _) (.cons (.int _) .nil)))
  have e1 : ((zs ++ [D.int 1]).length : Int) = (fs.length : Int) + 1 := by rw [List.length_append, List.length_singleton, hz]; rfl
  rw [e1]
  refine svs_freeze 16 rfl (svs_cons (sv_if (t := false) (TV.cast (tv_neD (hr.mono (show 1 ≤ 8 by decide)) (ev_var 16 rfl) (ev_lst (evs_cons (ev_add (ev_var 15 rfl) ev_int) (evs_cons (ev_var 15 rfl) (evs_cons (ev_neg ev_int) evs_nil)))) pd.py pd.py pd.shaped pd.shaped) (by rw [eqv_self pd]; rfl)) (fun h => nomatch h) fun _ => svs_nil ?_))
  refine svs_one (sv_ret (EV.cast (ev_orB (t := decide ((fs.length : Int) = 0)) (u := decide (((fs.length - 1 : Nat) : Int) = (fs.length : Int) - 1)) (ev_eqI (ev_var 15 rfl) ev_int) fun h => ev_one (ev_eqI (e_count (d := .int ((fs.length - 1 : Nat) : Int)) (k := 2) L.count L.mkr rfl hr4 (LamX.lamS_by rfl) fun A outer s H E f cc hrb hx => ?_) (ev_sub (ev_var 15 rfl) ev_int))) ?_) rfl)
  · have h0 := of_decide_eq_false h
    have lz : (zs.take (zs.length - 1)).length = fs.length - 1 := by rw [List.length_take]; omega
    exact xe_meth (ev_var 5 rfl) cl (by decide) L.atE hx hrb (evs_cons (EV.cast (ev_cutL (.inl rfl) (ev_var 8 rfl) pv_none (pv_some (ev_neg ev_int))) (congrArg D.lst (cutD_last zs))) evs_nil) ⟨fs, m, _, zs.take (zs.length - 1), rfl, .inl rfl, by omega, by rw [lz]⟩
  · by_cases h0 : (fs.length : Int) = 0
    · rw [decide_eq_true h0]; rfl
    · rw [decide_eq_false h0, decide_eq_true (by omega)]; rfl
/-- from the numbers on -/
theorem tail (L : Lw T P w K mg base C PC CW cA Pt) (hr : Room 8 (lX P w K mg base f cA A outer s H E).A) {ns row : List Int} {fs : List Str} {m1 m2 : KL Q2} {xs : List Q2} {r1 : Int} (nms : Nms fs) (h1 : FOk fs.length m1) (h2 : FOk fs.length m2) (hx : Rs fs.length xs) (g1 : row[1]? = some r1) :
    SVs T (lX P w K mg base f cA A outer s H E) ((defBody sLaw).drop 7) [.d (.rdl (ns.map D.int)), .d (.lst (row.map D.int)), .d (.lst (fs.map D.str)), .d (dM prQ m1), .d (dM prQ m2), .d (polyD C PC fs (can m1)), .d (polyD C PC fs (can m2)), .own (xs.map prQ), .no, .no, .no, .no, .no, .no, .no, .no, .no] { nx := fun _ => D.bl true = .non, rt := fun d' => d' = .bl true } := by
  have B := L.G.V.B
  have R := L.G.V.O.R
  have cl := R.ikP.cl
  have hn := nms.len
  have hr1 := hr.mono (show 1 ≤ 8 by decide)
  have hr2 := hr.mono (show 2 ≤ 8 by decide)
  have hr3 := hr.mono (show 3 ≤ 8 by decide)
  have hr5 := hr.mono (show 5 ≤ 8 by decide)
  obtain ⟨fM, MM⟩ := L.mul
  obtain ⟨fT, MT⟩ := L.at_
  obtain ⟨fP, MP⟩ := L.power
  have el : D.len (.lst (fs.map D.str)) = some fs.length := by show some _ = _; rw [List.length_map]
  refine svs_freeze 7 rfl (svs_cons (sv_set 8 (EV.cast (ev_lc [("_law_pair", 9)] (.one 9) (fun _ => true) (madeF C (decide (r1 = 0))) (iv_list (ev_var 7 rfl)) (id (α := BlkOk lN (defScope sLaw) _ [("_law_pair", 9)]) ⟨rfl, by decide +kernel, by decide +kernel, by decide +kernel, by decide +kernel⟩)
    (fun s H C cl fp => pg_name (i := 9) scLaw.nd rfl (Or.inl rfl)) (fun s H C' cl fp y hy => ts_nil) (fun s H C' cl fp y hy _ => ?_) scLaw.nd (fun _ _ => rfl) (by rw [List.length_map, hx.1]; omega)) (congrArg D.lst (outs_made C (decide (r1 = 0)) xs))) ?_ scLaw.nd))
  · obtain ⟨x, hxm, rfl⟩ := List.mem_map.mp hy
    have rw_ := hx.2 x hxm
    exact ev_call L.made hr3 (evs_cons (ev_var 9 rfl) (evs_cons (ev_eqI (ev_ixL (d := .int r1) ⟨1, rfl, by rw [List.getElem?_map, g1]; rfl⟩ (ev_var 1 rfl) ev_int) ev_int) evs_nil)) ⟨x, _, rfl, ⟨rw_.ne, up2 rw_.t (by decide), up2 rw_.b (by decide)⟩, rfl⟩
  generalize decide (r1 = 0) = bare
  obtain ⟨v1, q1⟩ := lval_ok hn h1 hx (l := m1) (fun _ h => h) h1.len
  obtain ⟨v2, q2⟩ := lval_ok hn h2 hx (l := m2) (fun _ h => h) h2.len
  refine svs_cons (sv_par 10 11 (evs_cons (ev_call L.value hr5 (evs_cons (ev_var 3 rfl) (evs_cons (ev_var 7 rfl) evs_nil)) ⟨m1, xs, _, rfl, h1, hn, hx, rfl⟩) (evs_cons (ev_call L.value hr5 (evs_cons (ev_var 4 rfl) (evs_cons (ev_var 7 rfl) evs_nil)) ⟨m2, xs, _, rfl, h2, hn, hx, rfl⟩) evs_nil)) ?_ scLaw.nd)
  have a1 := at_same (b := bare) hn h1.can.ma hx v1.lo (by rw [q1, val_can h1.nd])
  have a2 := at_same (b := bare) hn h2.can.ma hx v2.lo (by rw [q2, val_can h2.nd])
  obtain ⟨pm, pv⟩ := prod_ma h1.can h2.can
  have v3 : Bq 1092 234 (mulQ (lval m1 xs) (lval m2 xs)) := mulQ_bq v1.raw v2.raw
  have a3 := at_same (b := bare) hn pm hx v3.lo (by rw [R_mul v1.lo.ne v2.lo.ne, q1, q2, pv, val_can h1.nd, val_can h2.nd])
  have xs_ok := nums_xs (b := bare) hx
  generalize lval m1 xs = f1 at v1 v3 a1 a3
  generalize lval m2 xs = f2 at v2 v3 a2 a3
  clear q1 q2
  refine svs_cons (sv_if (t := false) (TV.cast (TW.tv (tw_orB (t := false) (tv_not (k := true) (tv_of (ev_call L.isplain hr3 (evs_cons (EV.cast (ev_meth (ev_var 5 rfl) cl MT hr5 (evs_cons (ev_var 8 rfl) evs_nil) ⟨fs, can m1, numsOf bare xs, _, rfl, .inl rfl, nms, h1.can.ma, xs_ok, rfl⟩ (by decide)) (by rw [a1])) (evs_cons (ev_var 10 rfl) evs_nil)) ⟨f1, rfl, v1.bn (by decide) (by decide), rfl⟩))) fun _ => tw_or1 (tv_not (k := true) (tv_of (ev_call L.isplain hr3 (evs_cons (EV.cast (ev_meth (ev_var 6 rfl) cl MT hr5 (evs_cons (ev_tupOf (.inl rfl) (ev_var 8 rfl) B.tuple) evs_nil) ⟨fs, can m2, numsOf bare xs, _, rfl, .inr rfl, nms, h2.can.ma, xs_ok, rfl⟩ (by decide)) (by rw [a2])) (evs_cons (ev_var 11 rfl) evs_nil)) ⟨f2, rfl, v2.bn (by decide) (by decide), rfl⟩))))) rfl) (fun h => nomatch h) fun _ => svs_nil ?_)
  refine svs_cons (sv_if (t := false) (TV.cast (tv_not (k := true) (tv_of (ev_call L.isplain hr3 (evs_cons (EV.cast (ev_meth (ev_opD (bin_own MM hr L.sf) (ev_var 5 rfl) (ev_var 6 rfl) ⟨pN, _, pN, _, rfl, rfl, fs, can m1, can m2, rfl, nms, h1.can, h2.can, rfl⟩) cl MT hr5 (evs_cons (ev_var 8 rfl) evs_nil) ⟨fs, _, numsOf bare xs, _, rfl, .inl rfl, nms, pm, xs_ok, rfl⟩ (by decide)) (by rw [a3])) (evs_cons (ev_call L.times hr3 (evs_cons (ev_var 10 rfl) (evs_cons (ev_var 11 rfl) evs_nil)) ⟨f1, f2, rfl, ⟨v1.lo.ne, up2 v1.t (by decide), up2 v1.b (by decide)⟩, ⟨v2.lo.ne, up2 v2.t (by decide), up2 v2.b (by decide)⟩, rfl⟩) evs_nil)) ⟨_, rfl, v3.bn (by decide) (by decide), rfl⟩))) rfl) (fun h => nomatch h) fun _ => svs_nil ?_)
  refine svs_cons (sv_for (.one 12) (fun i ss => ∃ s12 s13 s14, ss = [.d (.rdl (ns.map D.int)), .d (.lst (row.map D.int)), .d (.lst (fs.map D.str)), .d (dM prQ m1), .d (dM prQ m2), .d (polyD C PC fs (can m1)), .d (polyD C PC fs (can m2)), .d (.lst (xs.map prQ)), .d (.lst ((numsOf bare xs).map (numV C))), .no, .d (prQ f1), .d (prQ f2), s12, s13, s14, .no, .no]) (iv_range1 (n := ((fs.length : Nat) : Int)) (ev_len el (ev_var 2 rfl) B.len) (by omega) B.range) (pg_name (i := 12) scLaw.nd rfl (Or.inr rfl)) ⟨_, _, _, rfl⟩ ?_ ?_)
  · rintro i y ss' hy ⟨s12, s13, s14, rfl⟩
    have hi : i < fs.length := by
      have := (List.getElem?_eq_some_iff.mp hy).1
      rw [rng_len, Int.toNat_natCast] at this; exact this
    rw [Int.toNat_natCast, rng_get hi, Int.zero_add] at hy
    obtain rfl := Option.some.inj hy
    have tp := top_same h1 hi
    refine ⟨rfl, svs_cons (sv_set 13 (d := .int (topP (can m1) i)) (EV.cast (ev_max (zs := 0 :: (kept m1).map fun q => q.1.getD i 0) (fun z => nomatch z) (EV.cast (ev_cat (xs := [.int 0]) (ys := ((kept m1).map fun q => q.1.getD i 0).map D.int) ?_ (ev_lst (evs_cons ev_int evs_nil)) (EV.cast (ev_lc [("_law_powers", 14)] (.one 14) (fun _ => true) (onK .non fun z => .int (z.getD i 0)) (iv_keysT (ev_call L.kept hr2 (evs_cons (ev_var 3 rfl) evs_nil) ⟨m1, rfl, h1.nd, by have := h1.len; omega, rfl⟩)) (id (α := BlkOk lN (defScope sLaw) _ [("_law_powers", 14)]) ⟨rfl, by decide +kernel, by decide +kernel, by decide +kernel, by decide +kernel⟩)
      (fun s H C cl fp => pg_name (i := 14) scLaw.nd rfl (Or.inl rfl)) (fun s H C' cl fp y hy => ts_nil) (fun s H C' cl fp y hy _ => ?_) scLaw.nd (fun _ _ => rfl) ?_) (congrArg D.lst (outs_pow (kept m1) i)))) rfl) B.max) (by rw [tp])) ?_ scLaw.nd)⟩
    · have := List.length_filter_le (fun q : List Int × Q2 => nz q.2) m1
      have := h1.len
      rw [List.length_map, List.length_map, List.length_singleton]
      unfold kept; omega
    · rw [tk_dks] at hy
      obtain ⟨k, hk, rfl⟩ := List.mem_map.mp hy
      obtain ⟨q, hq, rfl⟩ := List.mem_map.mp hk
      obtain ⟨⟨l, _⟩, _⟩ := h1.at (List.mem_filter.mp hq).1
      show EV T _ _ _ (onK .non _ (tkI q.1))
      rw [onK_tk]
      refine ev_int1 (ev_ixT (xs := q.1.map D.int) ⟨i, rfl, ?_⟩ (EV.cast (ev_tk (ks := iK q.1) (ev_var 14 rfl)) (by rw [List.map_map]; rfl)) (ev_var 12 rfl)) B.int
      rw [List.getElem?_map, List.getD_eq_getElem?_getD, List.getElem?_eq_getElem (show i < q.1.length by omega)]; rfl
    · have := List.length_filter_le (fun q : List Int × Q2 => nz q.2) m1
      have := h1.len
      rw [List.length_map, len_dks]
      unfold kept; omega
    · refine svs_one (sv_if (t := false) (TV.cast (TW.tv (tw_orB (t := false) (tv_not (k := true) (tv_of (ev_call L.isint hr1 (evs_cons (ev_meth (ev_var 5 rfl) cl MP hr2 (evs_cons (ev_var 12 rfl) evs_nil) ⟨fs, can m1, i, rfl, hi, nms, h1.can.ma, rfl⟩ (by decide)) evs_nil) ⟨_, rfl, thI C PC _, rfl⟩))) fun _ => tw_or1 (tv_neI (ev_meth (ev_var 5 rfl) cl MP hr2 (evs_cons (ev_var 12 rfl) evs_nil) ⟨fs, can m1, i, rfl, hi, nms, h1.can.ma, rfl⟩ (by decide)) (ev_var 13 rfl)))) (by rw [decide_eq_true rfl]; rfl)) (fun h => nomatch h) fun _ => svs_nil ⟨_, _, _, rfl⟩)
  · rintro ss' ⟨s12, s13, s14, rfl⟩
    exact tail2 L hr nms (by rw [List.length_map]; exact xs_ok.1)
theorem ok_law (F : FunZ K "law" "law" sLaw f fd (.ref cA)) (L : Lw T P w K mg base C PC CW cA Pt) : FnOk P w K mg base CX0 9 f fd ["_law_script"] (spD T K 1 pLaw) := by
  refine fdz_ok F scLaw rfl fun A outer s H E ds d hr _ ⟨ns, e1, hns, e2⟩ => ?_
  subst e1; subst e2
  have B := L.G.V.B
  have hr1 := hr.mono (show 1 ≤ 8 by decide)
  have hr3 := hr.mono (show 3 ≤ 8 by decide)
  have hr4 := hr.mono (show 4 ≤ 8 by decide)
  have hr7 := hr.mono (show 7 ≤ 8 by decide)
  refine svs_cons (sv_set 1 (d := .lst ((rowL (ns.getD 0 0) SZ).map D.int)) (ev_call L.row hr1 (evs_cons (ev_call L.cell hr1 (evs_cons (ev_var 0 rfl) (evs_cons ev_int evs_nil)) ⟨ns, 0, rfl, hns, rfl⟩) (evs_cons (EV.cast (d' := .lst (SZ.map D.int)) (ev_cat (by decide) (ev_lst (evs_cons ev_int (evs_cons ev_int (evs_cons ev_int (evs_cons ev_int (evs_cons ev_int (evs_cons ev_int (evs_cons ev_int (evs_cons ev_int (evs_cons ev_int evs_nil)))))))))) (ev_rep (by decide) (by decide) (ev_lst (evs_cons ev_int (evs_cons ev_int (evs_cons ev_int (evs_cons ev_int evs_nil))))) ev_int)) rfl) evs_nil)) ⟨_, SZ, rfl, by decide, fun z hz => ⟨(sz_ok z hz).1, by have := (sz_ok z hz).2; omega⟩, rfl⟩) ?_ scLaw.nd)
  obtain ⟨r0, g0, l0⟩ := rowL_at (ns.getD 0 0) (zs := SZ) (i := 0) (z := 6) rfl (by decide)
  obtain ⟨r1, g1, l1⟩ := rowL_at (ns.getD 0 0) (zs := SZ) (i := 1) (z := 2) rfl (by decide)
  obtain ⟨r2, g2, l2⟩ := rowL_at (ns.getD 0 0) (zs := SZ) (i := 2) (z := 19) rfl (by decide)
  obtain ⟨r3, g3, l3⟩ := rowL_at (ns.getD 0 0) (zs := SZ) (i := 3) (z := 5) rfl (by decide)
  obtain ⟨r4, g4, l4⟩ := rowL_at (ns.getD 0 0) (zs := SZ) (i := 4) (z := 19) rfl (by decide)
  obtain ⟨r5, g5, l5⟩ := rowL_at (ns.getD 0 0) (zs := SZ) (i := 5) (z := 5) rfl (by decide)
  obtain ⟨r6, g6, l6⟩ := rowL_at (ns.getD 0 0) (zs := SZ) (i := 6) (z := 5) rfl (by decide)
  obtain ⟨r7, g7, l7⟩ := rowL_at (ns.getD 0 0) (zs := SZ) (i := 7) (z := 5) rfl (by decide)
  obtain ⟨r8, g8, l8⟩ := rowL_at (ns.getD 0 0) (zs := SZ) (i := 8) (z := 4) rfl (by decide)
  have hlen : (rowL (ns.getD 0 0) SZ).length = 41 := rowL_len _ _
  have d1 := dr_of (ns.getD 0 0) (s := 9) (r := r6) (by decide) (by omega)
  have d2 := dr_of (ns.getD 0 0) (s := 25) (r := r7) (by decide) (by omega)
  generalize rowL (ns.getD 0 0) SZ = row at g0 g1 g2 g3 g4 g5 g6 g7 g8 hlen d1 d2
  have at_ : ∀ {i : Nat} {v : Int}, row[i]? = some v → (row.map D.int)[i]? = some (.int v) := fun h => by rw [List.getElem?_map, h]; rfl
  refine svs_cons (sv_set 2 (ev_call L.fields hr1 (evs_cons (ev_ixL ⟨0, rfl, at_ g0⟩ (ev_var 1 rfl) ev_int) evs_nil) ⟨r0, rfl, rfl⟩) ?_ scLaw.nd)
  have nms := fld_nms r0
  generalize fld r0 = fs at nms
  have hcut : ∀ {s r : Nat}, s + 4 * r ≤ 41 → Fd.cutD (row.map D.int) (some (s : Int)) (some ((s : Int) + 4 * (r : Int))) = ((row.drop s).take (4 * r)).map D.int := fun {s r} h => by
    unfold Fd.cutD
    rw [show ((s : Int) + 4 * (r : Int)) = ((s + 4 * r : Nat) : Int) by omega, HT.sIx_nat, HT.sIx_nat, List.length_map, Nat.min_eq_left (by omega), Nat.min_eq_left (by omega), show s + 4 * r - s = 4 * r by omega, ← List.map_drop, ← List.map_take]
  have rl1 : ((row.drop 9).take (4 * r6)).length = 4 * r6 := by rw [List.length_take, List.length_drop]; omega
  have rl2 : ((row.drop 25).take (4 * r7)).length = 4 * r7 := by rw [List.length_take, List.length_drop]; omega
  refine svs_cons (sv_setT 3 (evt_call L.terms hr3 (evs_cons (EV.cast (ev_cutL (.inl rfl) (ev_var 1 rfl) (pv_some ev_int) (pv_some (ev_add ev_int (ev_mul (.inl (by decide)) ev_int (ev_ixL ⟨6, rfl, at_ g6⟩ (ev_var 1 rfl) ev_int))))) (congrArg D.lst (hcut (s := 9) (r := r6) (by omega)))) (evs_cons (ev_var 2 rfl) evs_nil)) ⟨_, fs, rfl, d1, nms.len, rfl, rfl⟩) ?_ scLaw.nd)
  obtain ⟨h1, _⟩ := drawn_ok (n := fs.length) d1 nms.len (((row.drop 9).take (4 * r6)).length / 4) (by omega)
  generalize drawn fs.length ((row.drop 9).take (4 * r6)) (((row.drop 9).take (4 * r6)).length / 4) = m1 at h1
  refine svs_freezeT 3 rfl (svs_cons (sv_setT 4 (evt_call L.terms hr3 (evs_cons (EV.cast (ev_cutL (.inl rfl) (ev_var 1 rfl) (pv_some ev_int) (pv_some (ev_add ev_int (ev_mul (.inl (by decide)) ev_int (ev_ixL ⟨7, rfl, at_ g7⟩ (ev_var 1 rfl) ev_int))))) (congrArg D.lst (hcut (s := 25) (r := r7) (by omega)))) (evs_cons (ev_var 2 rfl) evs_nil)) ⟨_, fs, rfl, d2, nms.len, rfl, rfl⟩) ?_ scLaw.nd))
  obtain ⟨h2, _⟩ := drawn_ok (n := fs.length) d2 nms.len (((row.drop 25).take (4 * r7)).length / 4) (by omega)
  generalize drawn fs.length ((row.drop 25).take (4 * r7)) (((row.drop 25).take (4 * r7)).length / 4) = m2 at h2
  refine svs_freezeT 4 rfl (svs_cons (sv_tg (d := .tup [polyD C PC fs (can m1), polyD C PC fs (can m2)]) (.many [5, 6]) (ev_tup (evs_cons (EV.cast (ev_make L.G.mkP hr7 (evs_cons (ev_var 2 rfl) (evs_cons (ev_call L.hand hr4 (evs_cons (ev_var 3 rfl) (evs_cons ev_bl evs_nil)) ⟨m1, true, rfl, h1.nd, h1.bn, by have := h1.len; omega, rfl⟩) evs_nil)) ⟨fs, hdM true m1, _, rfl, .inl rfl, nms, h1.m true, rfl, rfl⟩ rfl) (by rw [toQ_hd]; rfl)) (evs_cons (EV.cast (ev_make L.G.mkP hr7 (evs_cons (ev_var 2 rfl) (evs_cons (ev_call L.hand hr4 (evs_cons (ev_var 4 rfl) (evs_cons ev_bl evs_nil)) ⟨m2, false, rfl, h2.nd, h2.bn, by have := h2.len; omega, rfl⟩) evs_nil)) ⟨fs, hdM false m2, _, rfl, .inl rfl, nms, h2.m false, rfl, rfl⟩ rfl) (by rw [toQ_hd]; rfl)) evs_nil))) (pg_tup rfl (pgs_cons (pg_name (i := 5) scLaw.nd rfl (Or.inr rfl)) (pgs_cons (pg_name (i := 6) scLaw.nd rfl (Or.inl rfl)) pgs_nil))) rfl ?_))
  have el : D.len (.lst (fs.map D.str)) = some fs.length := by show some _ = _; rw [List.length_map]
  have x0 : Raw 70 4 ((r2 : Int) - 9, 1 + (r3 : Int)) := ⟨by show 1 + (r3 : Int) ≠ 0; omega, up2 (n := 4) (show ((r2 : Int) - 9).natAbs < 16 by omega) (by decide), show (1 + (r3 : Int)).natAbs < 16 by omega⟩
  have x1 : Raw 70 4 ((r4 : Int) - 9, 1 + (r5 : Int)) := ⟨by show 1 + (r5 : Int) ≠ 0; omega, up2 (n := 4) (show ((r4 : Int) - 9).natAbs < 16 by omega) (by decide), show (1 + (r5 : Int)).natAbs < 16 by omega⟩
  have xb : Raw 70 4 (ns.getD 1 0 % 10 ^ 20, 1 + (r3 : Int)) := ⟨x0.ne, Nat.lt_of_lt_of_le (show (ns.getD 1 0 % 10 ^ 20).natAbs < 10 ^ 20 by omega) (by decide), x0.b⟩
  refine svs_cons (sv_cutO 7 (xs := [((r2 : Int) - 9, 1 + (r3 : Int)), ((r4 : Int) - 9, 1 + (r5 : Int))].map prQ) (.inl rfl) (ev_lst (evs_cons (ev_tup (evs_cons (ev_sub (ev_ixL ⟨2, rfl, at_ g2⟩ (ev_var 1 rfl) ev_int) ev_int) (evs_cons (ev_add ev_int (ev_ixL ⟨3, rfl, at_ g3⟩ (ev_var 1 rfl) ev_int)) evs_nil))) (evs_cons (ev_tup (evs_cons (ev_sub (ev_ixL ⟨4, rfl, at_ g4⟩ (ev_var 1 rfl) ev_int) ev_int) (evs_cons (ev_add ev_int (ev_ixL ⟨5, rfl, at_ g5⟩ (ev_var 1 rfl) ev_int)) evs_nil))) evs_nil))) pv_none (pv_some (ev_len el (ev_var 2 rfl) B.len)) ?_ scLaw.nd)
  rw [cutD_to, ← List.map_take]
  have xs0 : Rs fs.length ([((r2 : Int) - 9, 1 + (r3 : Int)), ((r4 : Int) - 9, 1 + (r5 : Int))].take fs.length) := ⟨by rw [List.length_take]; have := nms.len; exact Nat.min_eq_left this, fun x hx => by
    have := List.mem_of_mem_take hx
    simp only [List.mem_cons, List.not_mem_nil, or_false] at this
    rcases this with rfl | rfl
    · exact x0
    · exact x1⟩
  generalize [((r2 : Int) - 9, 1 + (r3 : Int)), ((r4 : Int) - 9, 1 + (r5 : Int))].take fs.length = xs at xs0
  have pdx : Pd (.lst (xs.map prQ)) (.list (xs.map fun x => .tuple [.int x.1, .int x.2])) 2 := Pd.lst (PdL.map (n := 1) fun x _ => Pd.tup (.cons (.int _) (.cons (.int _) .nil)))
  have eqn : PyData.eqv (.list (xs.map fun x => PyData.tuple [.int x.1, .int x.2])) (.list []) = decide (xs = []) := by
    cases xs with
    | nil => unfold PyData.eqv PyData.eqvAll; rfl
    | cons a r => rw [List.map_cons]; unfold PyData.eqv PyData.eqvAll; rw [decide_eq_false (fun z => nomatch z)]
  refine svs_cons (sv_if (t := !decide (xs = []) && decide ((r8 : Int) = 0)) (tv_lend 7 rfl (TV.cast (TW.tv (tw_andB (tv_neD hr1 (ev_var 7 rfl) (ev_lst evs_nil) pdx.py rfl pdx.shaped (by decide)) fun _ => tw_and1 (tv_eqI (ev_ixL ⟨8, rfl, at_ g8⟩ (ev_var 1 rfl) ev_int) ev_int))) (by rw [eqn]))) (fun h => ?_) fun h => svs_nil (tail L hr nms h1 h2 xs0 g1))
  obtain ⟨ha, _⟩ := Bool.and_eq_true_iff.mp h
  have hne : xs ≠ [] := by simpa using ha
  have hpos := List.length_pos_iff.mpr hne
  refine svs_one (sv_putL (n := 0) (d := prQ (ns.getD 1 0 % 10 ^ 20, 1 + (r3 : Int))) 7 rfl (ev_tup (evs_cons (ev_mod (j := 10 ^ 20) (by decide) (ev_int1 (ev_call L.cell hr1 (evs_cons (ev_var 0 rfl) (evs_cons ev_int evs_nil)) ⟨ns, 1, rfl, hns, rfl⟩) B.int) (ev_pow (i := 10) (j := 20) ⟨by decide, by decide, by decide⟩ ev_int ev_int)) (evs_cons (ev_add ev_int (ev_ixL ⟨3, rfl, at_ g3⟩ (ev_var 1 rfl) ev_int)) evs_nil))) ev_int (by rw [List.length_map]; exact hpos) ?_)
  have e9 : (xs.map prQ).set 0 (prQ (ns.getD 1 0 % 10 ^ 20, 1 + (r3 : Int))) = (xs.set 0 (ns.getD 1 0 % 10 ^ 20, 1 + (r3 : Int))).map prQ := by rw [List.map_set]
  rw [e9]
  exact tail L hr nms h1 h2 ⟨by rw [List.length_set]; exact xs0.1, fun x hx => (List.mem_or_eq_of_mem_set hx).elim (xs0.2 x) fun z => by rw [z]; exact xb⟩ g1
end
end K42

set_option Elab.async false
set_option linter.all false
set_option maxRecDepth 100000
set_option maxHeartbeats 8000000
/-! K42y: from the facts of the top to the law's contract (written by gen_fin.py). -/
namespace K42
open PySem PySem.Spec PyProof.Rows L2 Fd PySem.ExS
section
variable {P : Program} {w : World} {K : PySem.W.Frag} {mg : Str → Option Value} {C : Addr}
theorem own_mk {T : List (Addr × Str)} {base : Heap} {m qual : Str} {st : Stmt} {f : Addr} {cdv : Value} {n k : Nat} {ps : List Str} {pre : List D → D → Prop} (M : Mz K C m qual st f cdv) (hn : ps.length = n) (hb : ∀ fd, Fun K m qual st f fd → Binds K fd ps []) (ok : ∀ fd, Fun K m qual st f fd → FnOk P w K mg base CX0 k f fd ps (spD T K n pre)) : OwnM T P w K mg base C m n k pre f := by
  obtain ⟨fd, F, _⟩ := M.fn
  exact ⟨M.me.at_, M.me.fn, M.me.kp, fd, ps, hb fd F, hn, ok fd F⟩
theorem fd_mk {T : List (Addr × Str)} {base : Heap} {x : Str} {st : Stmt} {f : Addr} {cdv : Value} {n k : Nat} {ps : List Str} {pre : List D → D → Prop} (M : Dz K mg x st f cdv) (hn : ps.length = n) (hb : ∀ fd, Fun K x x st f fd → Binds K fd ps []) (ok : ∀ fd, Fun K x x st f fd → FnOk P w K mg base CX0 k f fd ps (spD T K n pre)) : FD T P w K mg base x n k pre := by
  obtain ⟨fd, F, _⟩ := M.fn
  exact FD.mk M.at_ F.kp (hb fd F) hn (ok fd F)
def bm (L : Addr) : List Value := [.ref L, .type "ValueError", .type "Exception", .type "BaseException", .type "object"]
/-- one class of errors, as the top has made it -/
structure One (prog : Program) (K : PySem.W.Frag) (mg : Str → Option Value) (L : Addr) (x : Str) (C fI cc cda : Addr) : Prop where
  mgC : mg x = some (.ref C)
  ex : ExCls prog K mg C fI cc cda
  is : ExIs K C
  cd : ∃ cd, PySem.W.clsIn K C = some cd ∧ cd.name = x ∧ cd.mro = .ref C :: bm L
  ty : PySem.W.typeIn K (.ref C) = some (.type "type")
section
variable {h : Heap} {L : Addr}
theorem one_mk (X : K.In h) (G : h.Ns mainGlobals mg) {x nq : Str} {C fI cc cda N : Addr} {bs : List Value} {sn : List Str} {sub : List Value} {ab : Bool} {col : Option Bool} {dd : Option Addr} {k0 k1 k2 k3 k5 : Option Value}
    {cl ccl : Value} {cld cdd : Option Addr} {csl ccs : Array (Option Value)} {vs : Array Value} {file : Str} {tf : Tok}
    (aC : PySem.W.nsIn K mainGlobals x = some (some (.ref C)))
    (xL : K.lookup C = some (excClassObj x nq C N bs (bm L) true sn sub ab col dd k0 k1 k2 k3 k5 "ValueError.__new__"))
    (sa : PySem.W.findIn K (.ref C) "__setattr__" = some (some (.builtin "object.__setattr__")))
    (ga : PySem.W.findIn K (.ref C) "__getattribute__" = some (some (.builtin "BaseException.__getattribute__")))
    (gg : PySem.W.findIn K (.ref C) "__getattr__" = some none)
    (iC : PySem.W.findIn K (.ref C) "__init__" = some (some (.ref fI))) (tI : PySem.W.typeIn K (.ref fI) = some (.type "function")) (kC : PySem.W.keepIn K (.ref C) = true) (ty : PySem.W.typeIn K (.ref C) = some (.type "type"))
    (ce : K.lookup cc = some ⟨cl, cld, .cell (some (.ref C)), csl⟩)
    (co : K.lookup cda = some ⟨ccl, cdd, .fields vs, ccs⟩) (v2 : vs[2]? = some (.str file tf)) (fi : ((P.main.file : Str) == file) = true)
    (sup : PySem.W.ks_superIn K C C "__init__" = some (some (.builtin "ValueError.__init__")))
    (opq : PySem.W.nsIn K cStatics "thirdparty.any" = some none) (mgs : PySem.W.nsIn K mainGlobals "super" = some none) (tp : (P.main.scope.names.lookup ("super" : Str)).isSome = false)
    (ca : PySem.W.findIn K (.ref C) "__class__" = some (some (.builtin "object.__class__")))
    (gd : PySem.W.specialIn K (.builtin "object.__class__") "__get__" = some (some (.builtin "getset_descriptor.__get__"))) (tk : PySem.W.takesIn K (.builtin "object.__class__") = some true) :
    One P K mg L x C fI cc cda := by
  have hcl : PySem.W.clsIn K C = some { name := x, bases := bs, mro := .ref C :: bm L, ns := N, qualname := nq, hasDict := true, slotNames := sn, subclasses := sub, abstract := ab, collection := col, hasDel := false } := by unfold PySem.W.clsIn; rw [xL] <;> rfl
  have hm : ∀ b, (Value.ref C :: bm L).contains b = true → PySem.W.mroIn K C b = some true := fun b q => by
    unfold PySem.W.mroIn
    rw [hcl]
    show (if (Value.ref C :: bm L).isEmpty then none else some ((Value.ref C :: bm L).contains b)) = some true
    rw [q]; rfl
  have c1 : PySem.W.mroIn K C (.type "BaseException") = some true := hm _ (by simp [bm])
  have c2 : PySem.W.mroIn K C (.type "ValueError") = some true := hm _ (by simp [bm])
  have c3 : PySem.W.mroIn K C (.type "object") = some true := hm _ (by simp [bm])
  have c4 : PySem.W.mroIn K C (.ref C) = some true := hm _ (by simp [bm])
  exact { mgC := PySem.W.mg_of X G aC, ty := ty, cd := ⟨_, hcl, rfl, rfl⟩
          ex := { cls := ⟨x, nq, N, bs, bm L, sn, sub, ab, col, dd, k0, k1, k2, k3, k5, xL, rfl⟩, sa := sa, ga := ga, gg := gg, iC := iC, tC := tI, kC := kC, exC := c1, veC := c2, seC := c4, tyC := ty, hdC := by unfold PySem.W.hasDictIn; rw [hcl] <;> rfl
                  cell := ⟨cl, cld, csl, ce⟩, code := ⟨ccl, cdd, vs, ccs, file, tf, co, v2, fi⟩, sup := sup, opq := opq, mgs := PySem.W.mg_none_of X G mgs, top := tp }
          is := { cl := by rw [hcl] <;> rfl, ga := ga, gg := gg, be := c1, ca := ca, gd := gd, tk := tk, ob := c3 } }
end
/-- what a parameter's name is asked for -/
structure YOk (y : Str) : Prop where
  ys : (("self" : Str) == y) = false
  yd : (y == ("__debug__" : Str)) = false
  nc : ∀ x ∈ (iS y).names, x.2 ≠ .cell
  l1 : (iS y).names.lookup ("self" : Str) = some .local
  l2 : (iS y).names.lookup y = some .local
  l3 : (iS y).names.lookup ("super" : Str) = some .globalImplicit
  l4 : (iS y).names.lookup ("__class__" : Str) = some .free
  bd : ∀ (qual : Str) (body : List Stmt) (doc pm : Value) (an : Option Addr) (cv ct : Value) (cc : Addr) (p1 p2 : Pos) (x : Addr) (v : Value), PySem.bindArgs (PySem.W.ksFn "__init__" qual (iA y p1 p2) body (iS y) .none .none doc pm an cv ct cc) ⟨[.ref x, v], []⟩ = pure [(("self" : Str), Value.ref x), (y, v)]

section
variable {K : PySem.W.Frag}
theorem fn1_mk {f y qual tx : Str} {j : Nat} {oc : Value} {od : Option Addr} {doc pm : Value} {an : Option Addr} {ct : Value} {osl : Array (Option Value)} {p1 p2 q1 q2 q3 q4 q5 q6 q7 q8 q9 qa : Pos} {C fI cc cda : Addr}
    (l1 : K.lookup fI = some ⟨oc, od, .func (PySem.W.ksFn "__init__" qual (iA y p1 p2) [supS tx j q1 q2 q3 q4 q5 q6, atS f y q7 q8 q9 qa] (iS y) .none .none doc pm an (.ref cda) ct cc), osl⟩) (cI : PySem.W.codeIn K (.ref cda) qual = true) (noN : PySem.W.findIn K (.ref C) f = some none) (Y : YOk y)
    (hev : ∀ L, eval (.Call (.Attribute (.Call (.Name "super" q1) [] [] q2) "__init__" q3) [.Constant (.str tx) j q4] [] q5) (PySem.W.ksEnv qual (iS y) L fI (.ref cda) cc) = (do
      let ov ← attributeBase (.Call (.Name "super" q1) [] [] q2) "__init__" (PySem.W.ksEnv qual (iS y) L fI (.ref cda) cc) (eval (.Call (.Name "super" q1) [] [] q2) (PySem.W.ksEnv qual (iS y) L fI (.ref cda) cc))
      standAt q3.atName
      let (f, first) ← holding [ov] (getMethod ov "__init__" (plS q1 q2 (PySem.W.ksEnv qual (iS y) L fI (.ref cda) cc)))
      callWith q5 f first (backTo q5 (starEach [.Constant (.str tx) j q4] (PySem.W.ksEnv qual (iS y) L fI (.ref cda) cc))) [])) : ExFn1 K C fI cc cda f y where
  fn := ⟨qual, tx, j, oc, od, doc, pm, an, ct, osl, p1, p2, q1, q2, q3, q4, q5, q6, q7, q8, q9, qa, l1, cI, fun _ => rfl, hev, fun _ => rfl⟩
  noN := noN
  ys := Y.ys
  yd := Y.yd
  nc := Y.nc
  l1 := Y.l1
  l2 := Y.l2
  l3 := Y.l3
  l4 := Y.l4
  bd := fun qual body doc pm an cv ct p1 p2 x v => Y.bd qual body doc pm an cv ct cc p1 p2 x v
end
theorem y_count : YOk "count" := ⟨by decide +kernel, by decide +kernel, by decide +kernel, by decide +kernel, by decide +kernel, by decide +kernel, by decide +kernel, fun _ _ _ _ _ _ _ _ _ _ _ _ => rfl⟩
theorem e_dA : PySem.dunder Operator.Add.info.2 = ("__add__" : Str) := by decide +kernel
theorem e_rA : dunderR Operator.Add.info.2 = ("__radd__" : Str) := by decide +kernel
theorem e_dM : PySem.dunder Operator.Mult.info.2 = ("__mul__" : Str) := by decide +kernel
theorem e_rM : dunderR Operator.Mult.info.2 = ("__rmul__" : Str) := by decide +kernel
theorem init_b0 {fI : Addr} {fdI : FuncData} {cI : Value} (I : Iz K C "Ratio.__init__" sRInit fI fdI cI) : Binds K fdI ["self", "top", "bottom"] [] := by
  obtain ⟨ds, v, b⟩ := FunD.binds1 (ps := ["self", "top", "bottom"]) I.d 3 1 (by simp) (by rfl) fun T kV doc pm an cdv ct us its l1 l2 => match us, its, l1, l2 with | [_, _, _], [_], _, _ => ⟨_, rfl, rfl⟩
  cases v
  exact b
theorem tys_all {Pr : String → Prop} (h1 : Pr "int") (h2 : Pr "bool") (h3 : Pr "str") (h4 : Pr "NoneType") (h5 : Pr "list") (h6 : Pr "tuple") (h7 : Pr "dict") : ∀ T, T ∈ tys → Pr T := fun T h => by
  unfold tys at h
  simp only [List.mem_cons, List.not_mem_nil, or_false] at h
  rcases h with rfl | rfl | rfl | rfl | rfl | rfl | rfl <;> assumption
end
/-- all that is known of the top -/
structure Tp (P : Program) (K : PySem.W.Frag) (mg : Str → Option Value) (C : Addr) (PC : Addr) (fI : Addr) (fdI : FuncData) (cI : Value) (L : Addr) (CW : Addr) (f1 : Addr) (c1 : Addr) (a1 : Addr) (cA : Addr) : Prop where
  mgR : mg "Ratio" = some (.ref C)
  mgP : mg "Poly" = some (.ref PC)
  ikR : InK K C
  ikP : InK K PC
  nt : NoAttr K C "top"
  nb : NoAttr K C "bottom"
  nf : NoAttr K PC "fields"
  n_t : NoAttr K PC "_terms"
  kI : PySem.W.kitOne K (.ref C) (.type "int") = some false
  kB : PySem.W.kitOne K (.ref C) (.type "bool") = some false
  kO : ∀ T, T ∈ tys → PySem.W.kitOne K (.type T) (.ref C) = some false
  kR : PySem.W.kitOne K (.ref C) (.ref C) = some true
  pI : PySem.W.kitOne K (.ref PC) (.type "int") = some false
  pB : PySem.W.kitOne K (.ref PC) (.type "bool") = some false
  pR : PySem.W.kitOne K (.ref PC) (.ref C) = some false
  pP : PySem.W.kitOne K (.ref PC) (.ref PC) = some true
  ne : (PC == C) = false
  b_isinstance : mg "isinstance" = none
  b_list : mg "list" = none
  b_tuple : mg "tuple" = none
  b_str : mg "str" = none
  b_len : mg "len" = none
  b_all : mg "all" = none
  b_enumerate : mg "enumerate" = none
  b_int : mg "int" = none
  b_range : mg "range" = none
  b_sorted : mg "sorted" = none
  b_dict : mg "dict" = none
  b_zip : mg "zip" = none
  b_abs : mg "abs" = none
  b_max : mg "max" = none
  b_bool : mg "bool" = none
  let_ : ∃ v tk, mg "LETTERS" = some v ∧ v = .str LET tk
  long : ∃ v tk, mg "LONGEST_NAME" = some v ∧ v = .int 8 tk
  kS : PySem.W.kitOne K (.type "str") (.type "str") = some true
  kT : PySem.W.kitOne K (.type "tuple") (.type "tuple") = some true
  gcd : mg "gcd" = some (.builtin "math.gcd")
  I : Iz K C "Ratio.__init__" sRInit fI fdI cI
  sfR : PySem.W.selfFirst K C = true
  nCR : PySem.W.notFirst K C (.ref C) = true
  fneR : PySem.W.findIn K (.ref C) "__ne__" = some (some (.builtin "object.__ne__"))
  fobR : PySem.W.subIn K (.ref C) (.type "object") = some true
  sfP : PySem.W.selfFirst K PC = true
  s1 : PySem.W.subIn K (.type "int") (.ref C) = some false
  s2 : PySem.W.subIn K (.ref C) (.type "int") = some false
  nI : PySem.W.notFirst K C (.type "int") = true
  m1 : ∃ f c, Mz K C "__add__" "Ratio.__add__" sRAdd f c
  m2 : ∃ f c, Mz K C "__radd__" "Ratio.__radd__" sRRadd f c
  m3 : ∃ f c, Mz K C "__mul__" "Ratio.__mul__" sRMul f c
  m6 : ∃ f c, Mz K C "__rmul__" "Ratio.__rmul__" sRRmul f c
  m4 : ∃ f c, Mz K C "__eq__" "Ratio.__eq__" sREq f c
  mkP : PySem.W.makesIn K PC = true
  kpP : PySem.W.keepIn K (.ref PC) = true
  q0 : ∃ f c, Mz K PC "__init__" "Poly.__init__" sPInit f c
  q1 : ∃ f c, Mz K PC "__mul__" "Poly.__mul__" sPMul f c
  q2 : ∃ f c, Mz K PC "at" "Poly.at" sPAt f c
  q3 : ∃ f c, Mz K PC "power" "Poly.power" sPPower f c
  q4 : ∃ f c, Mz K PC "_terms_of" "Poly._terms_of" sPTerms f c
  EW : One P K mg L "WrongCount" CW f1 c1 a1 ∧ ExFn1 K CW f1 c1 a1 "count" "count"
  em : PySem.W.exmOne K (.ref CW) (.ref CW) = some true
  d1 : ∃ f c, Dz K mg "is_int" sIsInt f c
  d2 : ∃ f c, Dz K mg "is_name" sIsName f c
  d3 : ∃ f c, Dz K mg "is_number" sIsNum f c
  d4 : ∃ f c, Dz K mg "top_of" sTopOf f c
  d5 : ∃ f c, Dz K mg "bottom_of" sBotOf f c
  d7 : ∃ f c, Dz K mg "plain" sPlain f c
  d13 : ∃ f c, Dz K mg "_is_poly_or_number" sIsPN f c
  d14 : ∃ f c, Dz K mg "_is_term" sIsTerm f c
  d15 : ∃ f c, Dz K mg "_one_form" sOne f c
  d16 : ∃ f c, Dz K mg "_product_of_terms" sProd f c
  d17 : ∃ f c, Dz K mg "_powers" sPows f c
  d18 : ∃ f c, Dz K mg "_value" sVal f c
  e1 : ∃ f c, Dz K mg "_law_cell" sCell f c
  e2 : ∃ f c, Dz K mg "_law_row" sRow f c
  e3 : ∃ f c, Dz K mg "_law_gcd" sGcd f c
  e4 : ∃ f c, Dz K mg "_law_low" sLow f c
  e5 : ∃ f c, Dz K mg "_law_add" sLadd f c
  e6 : ∃ f c, Dz K mg "_law_times" sLtim f c
  e15 : ∃ f c, Dz K mg "_law_is_int" sLint f c
  e16 : ∃ f c, Dz K mg "_law_is_plain" sLpl f c
  e7 : ∃ f c, Dz K mg "_law_made" sMade f c
  e8 : ∃ f c, Dz K mg "_law_fields" sFields f c
  e9 : ∃ f c, Dz K mg "_law_terms" sTerms f c
  e10 : ∃ f c, Dz K mg "_law_kept" sKept f c
  e11 : ∃ f c, Dz K mg "_law_handed" sHand f c
  e12 : ∃ f c, Dz K mg "_law_power" sLpow f c
  e13 : ∃ f c, Dz K mg "_law_value_of" sLval f c
  e14 : ∃ f c, Dz K mg "_law_count" sCount f c
  lw : ∃ f, Dz K mg "law" sLaw f (.ref cA)
section
variable {P : Program} {w : World} {K : PySem.W.Frag} {mg : Str → Option Value} {C : Addr} {PC : Addr} {fI : Addr} {fdI : FuncData} {cI : Value} {L : Addr} {CW : Addr} {f1 : Addr} {c1 : Addr} {a1 : Addr} {cA : Addr}
theorem all_le {T : List (Addr × Str)} {base : Heap} {Pt : Addr} (t : Tp P K mg C PC fI fdI cI L CW f1 c1 a1 cA) (ML : Mkr T mg base cA Pt ((envOfC "law" (defScope sLaw) 0 0 .none).qual ++ "<lambda>")) : Lw T P w K mg base C PC CW cA Pt := by
  obtain ⟨_, _, d1⟩ := t.d1
  obtain ⟨_, _, d2⟩ := t.d2
  obtain ⟨_, _, d3⟩ := t.d3
  obtain ⟨_, _, d4⟩ := t.d4
  obtain ⟨_, _, d5⟩ := t.d5
  obtain ⟨_, _, d7⟩ := t.d7
  obtain ⟨_, _, d13⟩ := t.d13
  obtain ⟨_, _, d14⟩ := t.d14
  obtain ⟨_, _, d15⟩ := t.d15
  obtain ⟨_, _, d16⟩ := t.d16
  obtain ⟨_, _, d17⟩ := t.d17
  obtain ⟨_, _, d18⟩ := t.d18
  obtain ⟨_, _, e1⟩ := t.e1
  obtain ⟨_, _, e2⟩ := t.e2
  obtain ⟨_, _, e3⟩ := t.e3
  obtain ⟨_, _, e4⟩ := t.e4
  obtain ⟨_, _, e5⟩ := t.e5
  obtain ⟨_, _, e6⟩ := t.e6
  obtain ⟨_, _, e15⟩ := t.e15
  obtain ⟨_, _, e16⟩ := t.e16
  obtain ⟨_, _, e7⟩ := t.e7
  obtain ⟨_, _, e8⟩ := t.e8
  obtain ⟨_, _, e9⟩ := t.e9
  obtain ⟨_, _, e10⟩ := t.e10
  obtain ⟨_, _, e11⟩ := t.e11
  obtain ⟨_, _, e12⟩ := t.e12
  obtain ⟨_, _, e13⟩ := t.e13
  obtain ⟨_, _, e14⟩ := t.e14
  obtain ⟨_, _, m1⟩ := t.m1
  obtain ⟨_, _, m2⟩ := t.m2
  obtain ⟨_, _, m3⟩ := t.m3
  obtain ⟨_, _, m4⟩ := t.m4
  obtain ⟨_, _, m6⟩ := t.m6
  obtain ⟨_, _, q0⟩ := t.q0
  obtain ⟨_, _, q1⟩ := t.q1
  obtain ⟨_, _, q2⟩ := t.q2
  obtain ⟨_, _, q3⟩ := t.q3
  obtain ⟨_, _, q4⟩ := t.q4
  have R : Rt K mg C PC := ⟨t.mgR, t.ikR, t.nt, t.nb, t.kI, t.kB, t.kO, t.kR, t.ikP, t.pI, t.pB, t.pR, t.ne, t.b_isinstance, t.b_int, t.b_bool⟩
  have B : Bl K mg := ⟨t.b_isinstance, t.b_list, t.b_tuple, t.b_str, t.b_len, t.b_all, t.b_enumerate, t.b_int, t.b_range, t.b_sorted, t.b_dict, t.b_zip, t.b_abs, t.b_max, t.let_, t.long, t.kS, t.kT⟩
  have I := t.I
  have b0 := init_b0 I
  have okI : FnOk P w K mg base CX0 1 fI fdI ["self", "top", "bottom"] (spM T K C 2 pInitR) := ok_initR I.z R.ik.cl R.nt R.nb t.gcd
  have MR : MD T P w K mg base "Ratio" C 2 1 pInitR := ⟨fI, fdI, _, R.mgR, I.mk', rfl, okI, b0⟩
  have GI : FD T P w K mg base "is_int" 1 1 (pIsInt C PC) := fd_mk d1 rfl (fun fd F => F.binds fun _ _ _ _ _ _ us hl => match us, hl with | [_], _ => rfl) fun fd F => ok_isInt F R
  have GM : FD T P w K mg base "is_name" 1 1 pIsName := fd_mk d2 rfl (fun fd F => F.binds fun _ _ _ _ _ _ us hl => match us, hl with | [_], _ => rfl) fun fd F => ok_isName F B
  have GN : FD T P w K mg base "is_number" 1 2 (pIsNum C PC) := fd_mk d3 rfl (fun fd F => F.binds fun _ _ _ _ _ _ us hl => match us, hl with | [_], _ => rfl) fun fd F => ok_isNum F R GI
  have GT : FD T P w K mg base "top_of" 1 1 (pTop C) := fd_mk d4 rfl (fun fd F => F.binds fun _ _ _ _ _ _ us hl => match us, hl with | [_], _ => rfl) fun fd F => ok_top F R
  have GB : FD T P w K mg base "bottom_of" 1 1 (pBot C) := fd_mk d5 rfl (fun fd F => F.binds fun _ _ _ _ _ _ us hl => match us, hl with | [_], _ => rfl) fun fd F => ok_bot F R
  have GP : FD T P w K mg base "plain" 1 1 (pPlain C) := fd_mk d7 rfl (fun fd F => F.binds fun _ _ _ _ _ _ us hl => match us, hl with | [_], _ => rfl) fun fd F => ok_plain F R
  have V : Env0 T P w K mg base C PC := ⟨R, MR, GN, GT, GB⟩
  have o1 := own_mk (P := P) (w := w) (mg := mg) (T := T) (base := base) m1 rfl (fun fd F => F.binds fun _ _ _ _ _ _ us hl => match us, hl with | [_, _], _ => rfl) fun fd F => ok_add F V
  have o2 := own_mk (P := P) (w := w) (mg := mg) (T := T) (base := base) m2 rfl (fun fd F => F.binds fun _ _ _ _ _ _ us hl => match us, hl with | [_, _], _ => rfl) fun fd F => ok_radd F V
  have o3 := own_mk (P := P) (w := w) (mg := mg) (T := T) (base := base) m3 rfl (fun fd F => F.binds fun _ _ _ _ _ _ us hl => match us, hl with | [_, _], _ => rfl) fun fd F => ok_mul F V
  have o6 := own_mk (P := P) (w := w) (mg := mg) (T := T) (base := base) m6 rfl (fun fd F => F.binds fun _ _ _ _ _ _ us hl => match us, hl with | [_, _], _ => rfl) fun fd F => ok_rmul F V
  have o4 := own_mk (P := P) (w := w) (mg := mg) (T := T) (base := base) m4 rfl (fun fd F => F.binds fun _ _ _ _ _ _ us hl => match us, hl with | [_, _], _ => rfl) fun fd F => ok_eq F V
  have O : Ra T P w K mg base C PC := ⟨R, ⟨_, by rw [e_dA]; exact o1⟩, ⟨_, by rw [e_rA]; exact o2⟩, ⟨_, by rw [e_dM]; exact o3⟩, ⟨_, by rw [e_rM]; exact o6⟩, ⟨_, o4, t.fneR, t.fobR⟩, t.sfR, ⟨some (.builtin "int.__add__"), by rw [e_dA]; kernel_rfl⟩, ⟨some (.builtin "int.__radd__"), by rw [e_rA]; kernel_rfl⟩, ⟨some (.builtin "int.__mul__"), by rw [e_dM]; kernel_rfl⟩, ⟨some (.builtin "int.__rmul__"), by rw [e_rM]; kernel_rfl⟩, t.s1, t.s2, t.nI, t.nCR, ⟨_, _, PySem.F.slot_int_add, PySem.F.entry_int_add, PySem.F.args_int_add_2, FdS.int_add_inst, PySem.F.fills_int_add⟩, ⟨_, _, PySem.F.slot_int_mul, PySem.F.entry_int_mul, PySem.F.args_int_mul_2, FdS.int_mul_inst, PySem.F.fills_int_mul⟩⟩
  have Y1 : FD T P w K mg base "_is_poly_or_number" 1 1 (pIsPN PC) := fd_mk d13 rfl (fun fd F => F.binds fun _ _ _ _ _ _ us hl => match us, hl with | [_], _ => rfl) fun fd F => ok_isPN F R t.mgP t.pP
  have Y2 : FD T P w K mg base "_is_term" 2 2 pIsTerm := fd_mk d14 rfl (fun fd F => F.binds fun _ _ _ _ _ _ us hl => match us, hl with | [_, _], _ => rfl) fun fd F => ok_isTerm F B GI
  have Y3 : FD T P w K mg base "_one_form" 1 5 (pOne C) := fd_mk d15 rfl (fun fd F => F.binds fun _ _ _ _ _ _ us hl => match us, hl with | [_], _ => rfl) fun fd F => ok_one F B O GP
  have Y4 : FD T P w K mg base "_product_of_terms" 2 4 (pProd C) := fd_mk d16 rfl (fun fd F => F.binds fun _ _ _ _ _ _ us hl => match us, hl with | [_, _], _ => rfl) fun fd F => ok_prod F B O
  have Y5 : FD T P w K mg base "_powers" 3 4 (pPows C) := fd_mk d17 rfl (fun fd F => F.binds fun _ _ _ _ _ _ us hl => match us, hl with | [_, _, _], _ => rfl) fun fd F => ok_pows F B O
  have Y6 : FD T P w K mg base "_value" 3 4 (pVal C) := fd_mk d18 rfl (fun fd F => F.binds fun _ _ _ _ _ _ us hl => match us, hl with | [_, _, _], _ => rfl) fun fd F => ok_value F B O
  have VP : Pf T P w K mg base C PC := ⟨B, O, t.nf, t.n_t, GM, Y2, Y3⟩
  obtain ⟨fd0, F0, Z0⟩ := q0.fn
  have bI : Binds K fd0 ["self", "fields", "terms"] [] := F0.binds fun _ _ _ _ _ _ us hl => match us, hl with | [_, _, _], _ => rfl
  have MP : MD T P w K mg base "Poly" PC 2 6 (pPInit C) := ⟨_, fd0, _, t.mgP, ⟨t.mkP, q0.me.at_, q0.me.fn, t.kpP⟩, rfl, ok_pinit Z0 VP, bI⟩
  have r4 := own_mk (P := P) (w := w) (mg := mg) (T := T) (base := base) q4 rfl (fun fd F => F.binds fun _ _ _ _ _ _ us hl => match us, hl with | [_, _], _ => rfl) fun fd F => ok_terms F R t.nf t.n_t GN
  have PG : Pg T P w K mg base C PC := ⟨VP, t.mgP, t.pP, GI, GN, GP, Y1, Y4, Y5, Y6, ⟨_, r4⟩, MP⟩
  have r1 := own_mk (P := P) (w := w) (mg := mg) (T := T) (base := base) q1 rfl (fun fd F => F.binds fun _ _ _ _ _ _ us hl => match us, hl with | [_, _], _ => rfl) fun fd F => ok_pmul F PG
  have r3 := own_mk (P := P) (w := w) (mg := mg) (T := T) (base := base) q3 rfl (fun fd F => F.binds fun _ _ _ _ _ _ us hl => match us, hl with | [_, _], _ => rfl) fun fd F => ok_ppower F PG
  have r2 := own_mk (P := P) (w := w) (mg := mg) (T := T) (base := base) q2 rfl (fun fd F => F.binds fun _ _ _ _ _ _ us hl => match us, hl with | [_, _], _ => rfl) fun fd F => ok_pat F PG r3
  have eC : Er P K mg "WrongCount" "count" CW := ⟨t.EW.1.mgC, ⟨_, _, _, t.EW.1.ex, t.EW.2⟩, t.EW.1.ex.exC, t.EW.1.ty⟩
  have rE2 : OwnE T P w K mg base PC "at" CW "count" 2 2 (pPAtE C PC) := by obtain ⟨fd, F, Z⟩ := q2.fn; exact ⟨_, fd, _, q2.me, ok_patE Z PG eC, F.binds fun _ _ _ _ _ _ us hl => match us, hl with | [_, _], _ => rfl⟩
  have rE3 : OwnE T P w K mg base PC "power" CW "count" 2 2 (pPPowerE C PC) := by obtain ⟨fd, F, Z⟩ := q3.fn; exact ⟨_, fd, _, q3.me, ok_ppowerE Z PG eC, F.binds fun _ _ _ _ _ _ us hl => match us, hl with | [_, _], _ => rfl⟩
  have L1 : FD T P w K mg base "_law_cell" 2 1 pCell := fd_mk e1 rfl (fun fd F => F.binds fun _ _ _ _ _ _ us hl => match us, hl with | [_, _], _ => rfl) fun fd F => ok_cell F B.len
  have L2 : FD T P w K mg base "_law_row" 2 1 pRow := fd_mk e2 rfl (fun fd F => F.binds fun _ _ _ _ _ _ us hl => match us, hl with | [_, _], _ => rfl) fun fd F => ok_row F B.int B.range B.len
  have L3 : FD T P w K mg base "_law_gcd" 2 1 pGcd := fd_mk e3 rfl (fun fd F => F.binds fun _ _ _ _ _ _ us hl => match us, hl with | [_, _], _ => rfl) fun fd F => ok_gcd F B.abs
  have L4 : FD T P w K mg base "_law_low" 1 2 pLow := fd_mk e4 rfl (fun fd F => F.binds fun _ _ _ _ _ _ us hl => match us, hl with | [_], _ => rfl) fun fd F => ok_low F L3
  have L5 : FD T P w K mg base "_law_add" 2 3 pLadd := fd_mk e5 rfl (fun fd F => F.binds fun _ _ _ _ _ _ us hl => match us, hl with | [_, _], _ => rfl) fun fd F => ok_ladd F L4
  have L6 : FD T P w K mg base "_law_times" 2 3 pLtim := fd_mk e6 rfl (fun fd F => F.binds fun _ _ _ _ _ _ us hl => match us, hl with | [_, _], _ => rfl) fun fd F => ok_ltim F L4
  have L15 : FD T P w K mg base "_law_is_int" 1 1 (pLint C PC) := fd_mk e15 rfl (fun fd F => F.binds fun _ _ _ _ _ _ us hl => match us, hl with | [_], _ => rfl) fun fd F => ok_lint F R
  have L16 : FD T P w K mg base "_law_is_plain" 2 3 (pLpl C) := fd_mk e16 rfl (fun fd F => F.binds fun _ _ _ _ _ _ us hl => match us, hl with | [_, _], _ => rfl) fun fd F => ok_lpl F R L4 L15
  have L7 : FD T P w K mg base "_law_made" 2 3 (pMade C) := fd_mk e7 rfl (fun fd F => F.binds fun _ _ _ _ _ _ us hl => match us, hl with | [_, _], _ => rfl) fun fd F => ok_made F L4 MR
  have L8 : FD T P w K mg base "_law_fields" 1 1 pFields := fd_mk e8 rfl (fun fd F => F.binds fun _ _ _ _ _ _ us hl => match us, hl with | [_], _ => rfl) fun fd F => ok_fields F
  have L9 : FDT T P w K mg base "_law_terms" 2 3 pTerms := by obtain ⟨fd, F, _⟩ := e9.fn; exact ⟨_, fd, _, e9.at_, F.kp, F.binds fun _ _ _ _ _ _ us hl => match us, hl with | [_, _], _ => rfl, rfl, ok_terms2 F B L4⟩
  have L10 : FD T P w K mg base "_law_kept" 1 2 pKept := fd_mk e10 rfl (fun fd F => F.binds fun _ _ _ _ _ _ us hl => match us, hl with | [_], _ => rfl) fun fd F => ok_kept F B
  have L11 : FD T P w K mg base "_law_handed" 2 4 (pHand C) := fd_mk e11 rfl (fun fd F => F.binds fun _ _ _ _ _ _ us hl => match us, hl with | [_, _], _ => rfl) fun fd F => ok_hand F B L7
  have L12 : FD T P w K mg base "_law_power" 2 4 pLpow := fd_mk e12 rfl (fun fd F => F.binds fun _ _ _ _ _ _ us hl => match us, hl with | [_, _], _ => rfl) fun fd F => ok_lpow F B L6
  have L13 : FD T P w K mg base "_law_value_of" 2 5 pLval := fd_mk e13 rfl (fun fd F => F.binds fun _ _ _ _ _ _ us hl => match us, hl with | [_, _], _ => rfl) fun fd F => ok_lval F B L5 L6 L12
  have LC : Cn K mg CW := by obtain ⟨fd, F, Z⟩ := e14.fn; exact ⟨⟨_, fd, _, Z, e14.at_, F.binds fun _ _ _ _ _ _ us hl => match us, hl with | [_], _ => rfl⟩, t.EW.1.mgC, t.em, ⟨t.EW.1.ex.ga, t.EW.1.ex.gg, t.EW.1.ex.exC, t.EW.1.ex.hdC⟩, t.EW.2.noN⟩
  exact ⟨PG, ⟨_, by rw [e_dM]; exact r1⟩, t.sfP, ⟨_, r2⟩, ⟨_, r3⟩, rE2, rE3, L1, L2, L4, L6, L15, L16, L7, L8, L9, L10, L11, L13, LC, ML⟩
def qL : Str := (envOfC "law" (defScope sLaw) 0 0 .none).qual ++ "<lambda>"
theorem fin {h : Heap} {fa Pt : Addr} (t : Tp P K mg C PC fI fdI cI L CW f1 c1 a1 cA) (hfa : mg "law" = some (.ref fa)) (t1 : h.get? Pt = some { cls := .none, data := .fields #[] }) (k1 : K.lookup Pt = none) (c1 : PySem.W.CodeHd h cA Pt) :
    ∃ (fd : FuncData) (cs : List (Addr × Addr)) (T : List (Addr × Str)), (∀ p ∈ cs, h.get? p.2 = some { cls := .none, data := .fields #[] }) ∧ (∀ p ∈ cs, K.lookup p.2 = none) ∧ (∀ p ∈ cs, PySem.W.CodeHd h p.1 p.2) ∧ (∀ p ∈ T, p.1 ∈ cs.map (·.2)) ∧
      (∀ (s : Shared) (u : Value), BindsTo s fd ⟨[u], []⟩ [("_law_script", u)]) ∧ ∀ base : Heap, K.In base → base.Ns mainGlobals mg → (∀ p ∈ cs, LamX.TabB base mg p.1 p.2) → FnOk P w K mg base CX0 9 fa fd ["_law_script"] (spD T K 1 pLaw) := by
  obtain ⟨f, g5⟩ := t.lw
  have e := hfa.symm.trans g5.at_
  cases e
  obtain ⟨fd, F, Z⟩ := g5.fn
  have one : ∀ {q : Addr × Addr → Prop}, q (cA, Pt) → ∀ p ∈ [(cA, Pt)], q p := fun a p hp => by rw [List.mem_singleton.mp hp]; exact a
  refine ⟨fd, [(cA, Pt)], [(Pt, qL)], one t1, one k1, one c1, fun p hp => by rw [List.mem_singleton.mp hp]; simp, fun s u => ?_, fun base _ _ hb => ok_law Z (all_le t ⟨hb (cA, Pt) (by simp), by simp [qL], fun p hp _ => by rw [List.mem_singleton.mp hp]; rfl⟩)⟩
  obtain ⟨oc, od, kV, doc, pm, an, cdv, ct, osl, rfl, _, _⟩ := F.ex
  exact .of_eq rfl
end
end K42

set_option Elab.async false
set_option linter.all false
set_option maxRecDepth 100000
open PySem PySem.W PyProof.Rows
set_option maxRecDepth 100000 in
set_option maxHeartbeats 0 in
theorem PySem.Challenge.cw_everylist_k42_values_of_polys_holds : PySem.Challenge.rw_everylist_k42_values_of_polys.Holds := by
  w_on; o_law; k_head; (case hw => w_witness2)
  k_fill
  refine Fd.walkT (l := PySem.Challenge.rw_everylist_k42_values_of_polys) (x := "_law_script") 9 ⟨rfl, by decide, by decide⟩ rfl rfl (fun w h Y => PySem.W.km_in_of Y) ?F
  case F =>
    intro w mg fa h Y KX G hmg
    have hT := PySem.W.km_tabs_of Y
    refine' K42.fin (Pt := 580) (K42.Tp.mk ?mgR ?mgP ?ikR ?ikP ?nt ?nb ?nf ?n_t ?kI ?kB ?kO ?kR ?pI ?pB ?pR ?pP ?ne ?b_isinstance ?b_list ?b_tuple ?b_str ?b_len ?b_all ?b_enumerate ?b_int ?b_range ?b_sorted ?b_dict ?b_zip ?b_abs ?b_max ?b_bool ?let_ ?long ?kS ?kT ?gcd ?I ?sfR ?nCR ?fneR ?fobR ?sfP ?s1 ?s2 ?nI ?m1 ?m2 ?m3 ?m6 ?m4 ?mkP ?kpP ?q0 ?q1 ?q2 ?q3 ?q4 ?EW ?em ?d1 ?d2 ?d3 ?d4 ?d5 ?d7 ?d13 ?d14 ?d15 ?d16 ?d17 ?d18 ?e1 ?e2 ?e3 ?e4 ?e5 ?e6 ?e15 ?e16 ?e7 ?e8 ?e9 ?e10 ?e11 ?e12 ?e13 ?e14 ?lw) hmg ?zt1 ?zk1 ?zc1
    (case mgR => refine' PySem.W.mg_of KX G ?h_mgR; (case h_mgR => k_is))
    (case mgP => refine' PySem.W.mg_of KX G ?h_mgP; (case h_mgP => k_is))
    (case ikR => refine' ⟨⟨?pg_ikR, ?hd_ikR, ?po_ikR, ?sa_ikR⟩, ?ca_ikR, ?gd_ikR, ?tk_ikR, ?ob_ikR⟩; (case pg_ikR => k_is); (case hd_ikR => k_is); (case po_ikR => k_is); (case sa_ikR => k_is); (case ca_ikR => k_is); (case gd_ikR => k_is); (case tk_ikR => k_is); (case ob_ikR => k_is))
    (case ikP => refine' ⟨⟨?pg_ikP, ?hd_ikP, ?po_ikP, ?sa_ikP⟩, ?ca_ikP, ?gd_ikP, ?tk_ikP, ?ob_ikP⟩; (case pg_ikP => k_is); (case hd_ikP => k_is); (case po_ikP => k_is); (case sa_ikP => k_is); (case ca_ikP => k_is); (case gd_ikP => k_is); (case tk_ikP => k_is); (case ob_ikP => k_is))
    (case nt => unfold L2.NoAttr; k_is)
    (case nb => unfold L2.NoAttr; k_is)
    (case nf => unfold L2.NoAttr; k_is)
    (case n_t => unfold L2.NoAttr; k_is)
    (case kI => kernel_rfl)
    (case kB => kernel_rfl)
    (case kO => refine' K42.tys_all ?kO0 ?kO1 ?kO2 ?kO3 ?kO4 ?kO5 ?kO6; (case kO0 => kernel_rfl); (case kO1 => kernel_rfl); (case kO2 => kernel_rfl); (case kO3 => kernel_rfl); (case kO4 => kernel_rfl); (case kO5 => kernel_rfl); (case kO6 => kernel_rfl))
    (case kR => kernel_rfl)
    (case pI => kernel_rfl)
    (case pB => kernel_rfl)
    (case pR => kernel_rfl)
    (case pP => kernel_rfl)
    (case ne => kernel_rfl)
    (case b_isinstance => refine' PySem.W.mg_none_of KX G ?h_b_isinstance; (case h_b_isinstance => k_is))
    (case b_list => refine' PySem.W.mg_none_of KX G ?h_b_list; (case h_b_list => k_is))
    (case b_tuple => refine' PySem.W.mg_none_of KX G ?h_b_tuple; (case h_b_tuple => k_is))
    (case b_str => refine' PySem.W.mg_none_of KX G ?h_b_str; (case h_b_str => k_is))
    (case b_len => refine' PySem.W.mg_none_of KX G ?h_b_len; (case h_b_len => k_is))
    (case b_all => refine' PySem.W.mg_none_of KX G ?h_b_all; (case h_b_all => k_is))
    (case b_enumerate => refine' PySem.W.mg_none_of KX G ?h_b_enumerate; (case h_b_enumerate => k_is))
    (case b_int => refine' PySem.W.mg_none_of KX G ?h_b_int; (case h_b_int => k_is))
    (case b_range => refine' PySem.W.mg_none_of KX G ?h_b_range; (case h_b_range => k_is))
    (case b_sorted => refine' PySem.W.mg_none_of KX G ?h_b_sorted; (case h_b_sorted => k_is))
    (case b_dict => refine' PySem.W.mg_none_of KX G ?h_b_dict; (case h_b_dict => k_is))
    (case b_zip => refine' PySem.W.mg_none_of KX G ?h_b_zip; (case h_b_zip => k_is))
    (case b_abs => refine' PySem.W.mg_none_of KX G ?h_b_abs; (case h_b_abs => k_is))
    (case b_max => refine' PySem.W.mg_none_of KX G ?h_b_max; (case h_b_max => k_is))
    (case b_bool => refine' PySem.W.mg_none_of KX G ?h_b_bool; (case h_b_bool => k_is))
    (case let_ => refine' ⟨_, _, PySem.W.mg_of KX G ?e_let_, ?f_let_⟩; (case e_let_ => k_is); (case f_let_ => first | exact rfl | (unfold K42.LET; exact rfl)))
    (case long => refine' ⟨_, _, PySem.W.mg_of KX G ?e_long, ?f_long⟩; (case e_long => k_is); (case f_long => first | exact rfl))
    (case kS => kernel_rfl)
    (case kT => kernel_rfl)
    (case gcd => refine' PySem.W.mg_of KX G ?_; k_is)
    (case I => refine' Fd.iz_mk ?I1 ?I2 ?I3 ?I4 ?I5 ?I6 ?I7 ?I8 ?I9; (case I1 => k_is); (case I2 => k_is); (case I3 => k_is); (case I4 => k_is); (case I5 => k_is); (case I6 => k_is); (case I7 => k_is); (case I8 => k_is); (case I9 => exact ⟨_, rfl⟩))
    (case sfR => k_is)
    (case nCR => k_is)
    (case fneR => k_is)
    (case fobR => k_is)
    (case sfP => k_is)
    (case s1 => k_is)
    (case s2 => k_is)
    (case nI => k_is)
    (case m1 => refine' ⟨_, _, Fd.mz_mk ?a_m1 ?b_m1 ?l_m1 ?c_m1 ?k_m1⟩; (case a_m1 => k_is); (case b_m1 => k_is); (case l_m1 => k_is); (case c_m1 => k_is); (case k_m1 => k_is))
    (case m2 => refine' ⟨_, _, Fd.mz_mk ?a_m2 ?b_m2 ?l_m2 ?c_m2 ?k_m2⟩; (case a_m2 => k_is); (case b_m2 => k_is); (case l_m2 => k_is); (case c_m2 => k_is); (case k_m2 => k_is))
    (case m3 => refine' ⟨_, _, Fd.mz_mk ?a_m3 ?b_m3 ?l_m3 ?c_m3 ?k_m3⟩; (case a_m3 => k_is); (case b_m3 => k_is); (case l_m3 => k_is); (case c_m3 => k_is); (case k_m3 => k_is))
    (case m6 => refine' ⟨_, _, Fd.mz_mk ?a_m6 ?b_m6 ?l_m6 ?c_m6 ?k_m6⟩; (case a_m6 => k_is); (case b_m6 => k_is); (case l_m6 => k_is); (case c_m6 => k_is); (case k_m6 => k_is))
    (case m4 => refine' ⟨_, _, Fd.mz_mk ?a_m4 ?b_m4 ?l_m4 ?c_m4 ?k_m4⟩; (case a_m4 => k_is); (case b_m4 => k_is); (case l_m4 => k_is); (case c_m4 => k_is); (case k_m4 => k_is))
    (case mkP => k_is)
    (case kpP => k_is)
    (case q0 => refine' ⟨_, _, Fd.mz_mk ?a_q0 ?b_q0 ?l_q0 ?c_q0 ?k_q0⟩; (case a_q0 => k_is); (case b_q0 => k_is); (case l_q0 => k_is); (case c_q0 => k_is); (case k_q0 => k_is))
    (case q1 => refine' ⟨_, _, Fd.mz_mk ?a_q1 ?b_q1 ?l_q1 ?c_q1 ?k_q1⟩; (case a_q1 => k_is); (case b_q1 => k_is); (case l_q1 => k_is); (case c_q1 => k_is); (case k_q1 => k_is))
    (case q2 => refine' ⟨_, _, Fd.mz_mk ?a_q2 ?b_q2 ?l_q2 ?c_q2 ?k_q2⟩; (case a_q2 => k_is); (case b_q2 => k_is); (case l_q2 => k_is); (case c_q2 => k_is); (case k_q2 => k_is))
    (case q3 => refine' ⟨_, _, Fd.mz_mk ?a_q3 ?b_q3 ?l_q3 ?c_q3 ?k_q3⟩; (case a_q3 => k_is); (case b_q3 => k_is); (case l_q3 => k_is); (case c_q3 => k_is); (case k_q3 => k_is))
    (case q4 => refine' ⟨_, _, Fd.mz_mk ?a_q4 ?b_q4 ?l_q4 ?c_q4 ?k_q4⟩; (case a_q4 => k_is); (case b_q4 => k_is); (case l_q4 => k_is); (case c_q4 => k_is); (case k_q4 => k_is))
    (case EW => refine' ⟨K42.one_mk KX G ?aC_EW ?xL_EW ?nsa_EW ?nga_EW ?ngg_EW ?niC_EW ?tI_EW ?kC_EW ?ty_EW ?ce_EW ?co_EW ?v2_EW ?fi_EW ?sup_EW ?opq_EW ?mgs_EW ?tp_EW ?nca_EW ?ngd_EW ?ntk_EW, K42.fn1_mk ?l1_EW ?cI_EW ?nN_EW K42.y_count ?hev_EW⟩; (case aC_EW => k_is); (case xL_EW => k_is); (case niC_EW => k_is); (case l1_EW => k_is); (case cI_EW => k_is); (case nN_EW => k_is); (case hev_EW => exact fun _ => rfl); (case ce_EW => k_is); (case co_EW => k_is); (case v2_EW => rfl); (case fi_EW => first | rfl | decide +kernel); (case sup_EW => ks_is); (case tp_EW => first | rfl | decide +kernel); (case nsa_EW => k_is); (case nga_EW => k_is); (case ngg_EW => k_is); (case tI_EW => k_is); (case kC_EW => k_is); (case ty_EW => k_is); (case opq_EW => k_is); (case mgs_EW => k_is); (case nca_EW => k_is); (case ngd_EW => k_is); (case ntk_EW => k_is))
    (case em => kernel_rfl)
    (case d1 => refine' ⟨_, _, Fd.dz_mk KX G ?a_d1 ?l_d1 ?c_d1 ?k_d1⟩; (case a_d1 => k_is); (case l_d1 => k_is); (case c_d1 => k_is); (case k_d1 => k_is))
    (case d2 => refine' ⟨_, _, Fd.dz_mk KX G ?a_d2 ?l_d2 ?c_d2 ?k_d2⟩; (case a_d2 => k_is); (case l_d2 => k_is); (case c_d2 => k_is); (case k_d2 => k_is))
    (case d3 => refine' ⟨_, _, Fd.dz_mk KX G ?a_d3 ?l_d3 ?c_d3 ?k_d3⟩; (case a_d3 => k_is); (case l_d3 => k_is); (case c_d3 => k_is); (case k_d3 => k_is))
    (case d4 => refine' ⟨_, _, Fd.dz_mk KX G ?a_d4 ?l_d4 ?c_d4 ?k_d4⟩; (case a_d4 => k_is); (case l_d4 => k_is); (case c_d4 => k_is); (case k_d4 => k_is))
    (case d5 => refine' ⟨_, _, Fd.dz_mk KX G ?a_d5 ?l_d5 ?c_d5 ?k_d5⟩; (case a_d5 => k_is); (case l_d5 => k_is); (case c_d5 => k_is); (case k_d5 => k_is))
    (case d7 => refine' ⟨_, _, Fd.dz_mk KX G ?a_d7 ?l_d7 ?c_d7 ?k_d7⟩; (case a_d7 => k_is); (case l_d7 => k_is); (case c_d7 => k_is); (case k_d7 => k_is))
    (case d13 => refine' ⟨_, _, Fd.dz_mk KX G ?a_d13 ?l_d13 ?c_d13 ?k_d13⟩; (case a_d13 => k_is); (case l_d13 => k_is); (case c_d13 => k_is); (case k_d13 => k_is))
    (case d14 => refine' ⟨_, _, Fd.dz_mk KX G ?a_d14 ?l_d14 ?c_d14 ?k_d14⟩; (case a_d14 => k_is); (case l_d14 => k_is); (case c_d14 => k_is); (case k_d14 => k_is))
    (case d15 => refine' ⟨_, _, Fd.dz_mk KX G ?a_d15 ?l_d15 ?c_d15 ?k_d15⟩; (case a_d15 => k_is); (case l_d15 => k_is); (case c_d15 => k_is); (case k_d15 => k_is))
    (case d16 => refine' ⟨_, _, Fd.dz_mk KX G ?a_d16 ?l_d16 ?c_d16 ?k_d16⟩; (case a_d16 => k_is); (case l_d16 => k_is); (case c_d16 => k_is); (case k_d16 => k_is))
    (case d17 => refine' ⟨_, _, Fd.dz_mk KX G ?a_d17 ?l_d17 ?c_d17 ?k_d17⟩; (case a_d17 => k_is); (case l_d17 => k_is); (case c_d17 => k_is); (case k_d17 => k_is))
    (case d18 => refine' ⟨_, _, Fd.dz_mk KX G ?a_d18 ?l_d18 ?c_d18 ?k_d18⟩; (case a_d18 => k_is); (case l_d18 => k_is); (case c_d18 => k_is); (case k_d18 => k_is))
    (case e1 => refine' ⟨_, _, Fd.dz_mk KX G ?a_e1 ?l_e1 ?c_e1 ?k_e1⟩; (case a_e1 => k_is); (case l_e1 => k_is); (case c_e1 => k_is); (case k_e1 => k_is))
    (case e2 => refine' ⟨_, _, Fd.dz_mk KX G ?a_e2 ?l_e2 ?c_e2 ?k_e2⟩; (case a_e2 => k_is); (case l_e2 => k_is); (case c_e2 => k_is); (case k_e2 => k_is))
    (case e3 => refine' ⟨_, _, Fd.dz_mk KX G ?a_e3 ?l_e3 ?c_e3 ?k_e3⟩; (case a_e3 => k_is); (case l_e3 => k_is); (case c_e3 => k_is); (case k_e3 => k_is))
    (case e4 => refine' ⟨_, _, Fd.dz_mk KX G ?a_e4 ?l_e4 ?c_e4 ?k_e4⟩; (case a_e4 => k_is); (case l_e4 => k_is); (case c_e4 => k_is); (case k_e4 => k_is))
    (case e5 => refine' ⟨_, _, Fd.dz_mk KX G ?a_e5 ?l_e5 ?c_e5 ?k_e5⟩; (case a_e5 => k_is); (case l_e5 => k_is); (case c_e5 => k_is); (case k_e5 => k_is))
    (case e6 => refine' ⟨_, _, Fd.dz_mk KX G ?a_e6 ?l_e6 ?c_e6 ?k_e6⟩; (case a_e6 => k_is); (case l_e6 => k_is); (case c_e6 => k_is); (case k_e6 => k_is))
    (case e15 => refine' ⟨_, _, Fd.dz_mk KX G ?a_e15 ?l_e15 ?c_e15 ?k_e15⟩; (case a_e15 => k_is); (case l_e15 => k_is); (case c_e15 => k_is); (case k_e15 => k_is))
    (case e16 => refine' ⟨_, _, Fd.dz_mk KX G ?a_e16 ?l_e16 ?c_e16 ?k_e16⟩; (case a_e16 => k_is); (case l_e16 => k_is); (case c_e16 => k_is); (case k_e16 => k_is))
    (case e7 => refine' ⟨_, _, Fd.dz_mk KX G ?a_e7 ?l_e7 ?c_e7 ?k_e7⟩; (case a_e7 => k_is); (case l_e7 => k_is); (case c_e7 => k_is); (case k_e7 => k_is))
    (case e8 => refine' ⟨_, _, Fd.dz_mk KX G ?a_e8 ?l_e8 ?c_e8 ?k_e8⟩; (case a_e8 => k_is); (case l_e8 => k_is); (case c_e8 => k_is); (case k_e8 => k_is))
    (case e9 => refine' ⟨_, _, Fd.dz_mk KX G ?a_e9 ?l_e9 ?c_e9 ?k_e9⟩; (case a_e9 => k_is); (case l_e9 => k_is); (case c_e9 => k_is); (case k_e9 => k_is))
    (case e10 => refine' ⟨_, _, Fd.dz_mk KX G ?a_e10 ?l_e10 ?c_e10 ?k_e10⟩; (case a_e10 => k_is); (case l_e10 => k_is); (case c_e10 => k_is); (case k_e10 => k_is))
    (case e11 => refine' ⟨_, _, Fd.dz_mk KX G ?a_e11 ?l_e11 ?c_e11 ?k_e11⟩; (case a_e11 => k_is); (case l_e11 => k_is); (case c_e11 => k_is); (case k_e11 => k_is))
    (case e12 => refine' ⟨_, _, Fd.dz_mk KX G ?a_e12 ?l_e12 ?c_e12 ?k_e12⟩; (case a_e12 => k_is); (case l_e12 => k_is); (case c_e12 => k_is); (case k_e12 => k_is))
    (case e13 => refine' ⟨_, _, Fd.dz_mk KX G ?a_e13 ?l_e13 ?c_e13 ?k_e13⟩; (case a_e13 => k_is); (case l_e13 => k_is); (case c_e13 => k_is); (case k_e13 => k_is))
    (case e14 => refine' ⟨_, _, Fd.dz_mk KX G ?a_e14 ?l_e14 ?c_e14 ?k_e14⟩; (case a_e14 => k_is); (case l_e14 => k_is); (case c_e14 => k_is); (case k_e14 => k_is))
    (case lw => refine' ⟨_, Fd.dz_mk KX G ?a_lw ?l_lw ?c_lw ?k_lw⟩; (case a_lw => k_is); (case l_lw => k_is); (case c_lw => k_is); (case k_lw => k_is))
    (case zt1 => exact hT 580 (by decide))
    (case zk1 => kernel_rfl)
    (case zc1 => exact PySem.W.codeHd_of_K KX (by kernel_rfl))
