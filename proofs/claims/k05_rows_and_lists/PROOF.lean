import PyProof.Rows.All
import Wide.All
import OpenK.AllK
import Wide.FinOn
import HandS.ForMost
import HandS.ForExc
import HandS.OwnEq
import HandS.ExcInit
import HandS.Lambda
import HandS.NoneIn
import HandS.IsInst
import HandS.Wide
import HandS.Gcd
import KE.KOpsOwn
import PyProof.InstNe
import PyProof.EqAt
import PyProof.EqKinds
import PyProof.TupleCall
import KE.KExcSuper
import KE.KExcIs
import HandS.SetFor
import HandS.MakeKw
import HandS.Style
import HandS.TryOnly
import HandS.EndTab
import HandS.ExcBuiltin
import KE.KNestM
import HandS.Text
import HandS.StrMore
import HandS.FStr
import KE.KCallOwn
import KE.IntTextLaws
import PyProof.FactsAll.str_6
import HandS.ExcField
import HandS.Dict
import HandS.More
import HandS.ListItems
import HandS.Conv
import PyProof.Rows.SetFrom
import HandS.Set
import HandS.Deep
import HandS.Strs
import KE.GoesMore
import KE.GoesEnum
import KE.IntTextText
import KE.KIntText
import PySem.Challenge.RW_everylist_k05_rows_and_lists
import HandS.Star
import HandS.ListEq
import HandS.DeepEq
import KE.RegKSuper
set_option Elab.async false
set_option linter.all false
set_option maxRecDepth 100000
set_option maxHeartbeats 2000000
/-! Fd1: data in place of values: what an expression, a test, a statement makes of plain data, the heap out of sight. -/
namespace Fd
open PySem PySem.Spec PyProof.Rows L2

/-! ### data -/
inductive D where
  | non | bl (b : Bool) | int (i : Int) | str (x : Str)
  | lst (xs : List D) | tup (xs : List D)
  /-- a list that may be read alone (the script) -/
  | rdl (xs : List D)
  | ins (C : Addr) (ns : List Str) (xs : List D)
  | dct (ks : List Key) (xs : List D)
  /-- a tuple of whole numbers and texts, known to be a key -/
  | tk (k : List Key)
  /-- a dict whose keys are such tuples -/
  | dcT (ks : List (List Key)) (xs : List D)
  /-- an exception that is held -/
  | exc (C : Addr) (ns : List Str) (xs : List D)
  | adr (a : Addr) | ty (n : String)
  /-- an exception that is handled, its dict at dd -/
  | hx (a dd : Addr) (f : Str) (x : D)

section
variable (K : PySem.W.Frag) (H : Hp)
mutual
/-- the value v is the datum d in the heap H -/
def Is : D → V → Prop
  | .non, v => v = .non
  | .bl b, v => v = .bl b
  | .int i, v => v = .int i
  | .str x, v => v = .str x
  | .lst xs, v => ∃ a vs, v = .ref a ∧ H a = some (.lst vs) ∧ IsL xs vs
  | .rdl xs, v => ∃ a vs, v = .ref a ∧ SqL K H a vs ∧ IsL xs vs
  | .tup xs, v => ∃ a vs, v = .ref a ∧ SqT K H a vs ∧ IsL xs vs
  | .ins C ns xs, v => ∃ a dx fs, v = .ref a ∧ H a = some (.ins C dx fs) ∧ fs.map (·.1) = ns ∧ IsL xs (fs.map (·.2))
  | .dct ks xs, v => ∃ a kvs, v = .ref a ∧ H a = some (.dK kvs) ∧ kvs.map (·.1) = ks ∧ IsL xs (kvs.map (·.2))
  | .tk k, v => ∃ a, v = .ref a ∧ H a = some (.tup (k.map kV))
  | .dcT ks xs, v => ∃ a kvs, v = .ref a ∧ H a = some (.dT kvs) ∧ kvs.map (·.1) = ks ∧ IsL xs (kvs.map (·.2))
  | .exc C ns xs, v => ∃ a od fs, v = .ref a ∧ H a = some (exo a C od) ∧ fs.map (·.1) = ns ∧ IsL xs (fs.map (·.2)) ∧ (∀ d, od = some d → H d = some (exd d fs)) ∧ (od = none → fs = [])
  | .adr a, v => v = .ref a
  | .ty n, v => v = .ty n
  | .hx a dd f x, v => v = .ref a ∧ ∃ u, H dd = some (.xd [(f, u)]) ∧ Is x u
def IsL : List D → List V → Prop
  | [], vs => vs = []
  | x :: xs, vs => ∃ v r, vs = v :: r ∧ Is x v ∧ IsL xs r
end
end
section
variable {K : PySem.W.Frag} {H H' : Hp}
theorem ext_seqL {a : Addr} {vs : List V} (e : Ext H H') (h : SqL K H a vs) : SqL K H' a vs := SqL.ext h e
theorem ext_seqT {a : Addr} {vs : List V} (e : Ext H H') (h : SqT K H a vs) : SqT K H' a vs := SqT.ext h e
mutual
theorem Is.mono (e : Ext H H') : ∀ (d : D) {v : V}, Is K H d v → Is K H' d v
  | .non, _, h => h
  | .bl _, _, h => h
  | .int _, _, h => h
  | .str _, _, h => h
  | .lst xs, _, h => let ⟨a, vs, e1, e2, e3⟩ := h; ⟨a, vs, e1, e _ _ e2, IsL.mono e xs e3⟩
  | .rdl xs, _, h => let ⟨a, vs, e1, e2, e3⟩ := h; ⟨a, vs, e1, ext_seqL e e2, IsL.mono e xs e3⟩
  | .tup xs, _, h => let ⟨a, vs, e1, e2, e3⟩ := h; ⟨a, vs, e1, ext_seqT e e2, IsL.mono e xs e3⟩
  | .ins C ns xs, _, h => let ⟨a, dx, fs, e1, e2, e3, e4⟩ := h; ⟨a, dx, fs, e1, e _ _ e2, e3, IsL.mono e xs e4⟩
  | .dct ks xs, _, h => let ⟨a, kvs, e1, e2, e3, e4⟩ := h; ⟨a, kvs, e1, e _ _ e2, e3, IsL.mono e xs e4⟩
  | .tk k, _, h => let ⟨a, e1, e2⟩ := h; ⟨a, e1, e _ _ e2⟩
  | .dcT ks xs, _, h => let ⟨a, kvs, e1, e2, e3, e4⟩ := h; ⟨a, kvs, e1, e _ _ e2, e3, IsL.mono e xs e4⟩
  | .exc C ns xs, _, h => let ⟨a, od, fs, e1, e2, e3, e4, e5, e6⟩ := h; ⟨a, od, fs, e1, e _ _ e2, e3, IsL.mono e xs e4, fun d q => e _ _ (e5 d q), e6⟩
  | .adr _, _, h => h
  | .ty _, _, h => h
  | .hx _ _ _ x, _, h => let ⟨e1, u, e2, e3⟩ := h; ⟨e1, u, e _ _ e2, Is.mono e x e3⟩
theorem IsL.mono (e : Ext H H') : ∀ (ds : List D) {vs : List V}, IsL K H ds vs → IsL K H' ds vs
  | [], _, h => h
  | x :: xs, _, h => let ⟨v, r, e1, e2, e3⟩ := h; ⟨v, r, e1, Is.mono e x e2, IsL.mono e xs e3⟩
end
theorem IsL.length : ∀ {ds : List D} {vs : List V}, IsL K H ds vs → vs.length = ds.length
  | [], _, h => by cases (show _ = _ from h); rfl
  | x :: xs, _, h => by obtain ⟨v, r, rfl, _, h⟩ := h; simp [IsL.length h]
theorem IsL.nil : IsL K H [] [] := rfl
theorem IsL.cons {x : D} {xs : List D} {v : V} {vs : List V} (h : Is K H x v) (t : IsL K H xs vs) : IsL K H (x :: xs) (v :: vs) := ⟨v, vs, rfl, h, t⟩
theorem IsL.get : ∀ {ds : List D} {vs : List V} {i : Nat} {v : V}, IsL K H ds vs → vs[i]? = some v → ∃ x, ds[i]? = some x ∧ Is K H x v
  | [], _, i, _, h, e => by cases (show _ = _ from h); simp at e
  | x :: xs, _, 0, v, h, e => by obtain ⟨v', r, rfl, h1, h⟩ := h; simp at e; subst e; exact ⟨x, rfl, h1⟩
  | x :: xs, _, i + 1, v, h, e => by obtain ⟨v', r, rfl, h1, h⟩ := h; simp at e; obtain ⟨y, e1, e2⟩ := IsL.get h e; exact ⟨y, by simpa using e1, e2⟩
theorem IsL.get' : ∀ {ds : List D} {vs : List V} {i : Nat} {x : D}, IsL K H ds vs → ds[i]? = some x → ∃ v, vs[i]? = some v ∧ Is K H x v
  | [], _, i, _, h, e => by simp at e
  | x :: xs, _, 0, y, h, e => by obtain ⟨v', r, rfl, h1, h⟩ := h; simp at e; subst e; exact ⟨v', rfl, h1⟩
  | x :: xs, _, i + 1, y, h, e => by obtain ⟨v', r, rfl, h1, h⟩ := h; simp at e; obtain ⟨y, e1, e2⟩ := IsL.get' h e; exact ⟨y, by simpa using e1, e2⟩
theorem IsL.append : ∀ {ds es : List D} {vs us : List V}, IsL K H ds vs → IsL K H es us → IsL K H (ds ++ es) (vs ++ us)
  | [], _, _, _, h, g => by cases (show _ = _ from h); exact g
  | x :: xs, _, _, _, h, g => by obtain ⟨v, r, rfl, h1, h⟩ := h; exact ⟨v, _, rfl, h1, IsL.append h g⟩
theorem IsL.take : ∀ {ds : List D} {vs : List V} (n : Nat), IsL K H ds vs → IsL K H (ds.take n) (vs.take n)
  | _, _, 0, _ => rfl
  | [], _, n + 1, h => by cases (show _ = _ from h); exact rfl
  | x :: xs, _, n + 1, h => by obtain ⟨v, r, rfl, h1, h⟩ := h; exact ⟨v, _, rfl, h1, IsL.take n h⟩
theorem IsL.drop : ∀ {ds : List D} {vs : List V} (n : Nat), IsL K H ds vs → IsL K H (ds.drop n) (vs.drop n)
  | _, _, 0, h => h
  | [], _, n + 1, h => by cases (show _ = _ from h); exact rfl
  | x :: xs, _, n + 1, h => by obtain ⟨v, r, rfl, h1, h⟩ := h; exact IsL.drop n h
theorem IsL.snoc {ds : List D} {vs : List V} {x : D} {v : V} (h : IsL K H ds vs) (g : Is K H x v) : IsL K H (ds ++ [x]) (vs ++ [v]) := h.append (.cons g .nil)
theorem Is.int_of {i : Int} {v : V} (h : Is K H (.int i) v) : v = .int i := h
end

/-! ### the state -/
inductive S where
  /-- nothing is known -/
  | no
  /-- a datum that is never changed -/
  | d (x : D)
  /-- a list of one's own -/
  | own (xs : List D)
  /-- an object of one's own -/
  | obj (a C : Addr) (ns : List Str) (xs : List D)
  /-- a dict of one's own -/
  | dic (ks : List Key) (xs : List D)
  /-- .. with tuples for keys -/
  | dicT (ks : List (List Key)) (xs : List D)
abbrev SS := List S
def S.mine : S → Bool
  | .own _ => true | .obj _ _ _ _ => true | .dic _ _ => true | .dicT _ _ => true | _ => false
section
variable (T : List (Addr × Str)) (K : PySem.W.Frag)
/-- what a slot holds: F the heap of what is never changed, H the whole -/
def SlotIs (F H : Hp) : S → Option V → Prop
  | .no, _ => True
  | .d x, o => ∃ v, o = some v ∧ Is K F x v
  | .own xs, o => ∃ p vs, o = some (.ref p) ∧ F p = none ∧ H p = some (.lst vs) ∧ IsL K F xs vs
  | .obj p C ns xs, o => ∃ dx fs, o = some (.ref p) ∧ F p = none ∧ H p = some (.ins C dx fs) ∧ fs.map (·.1) = ns ∧ IsL K F xs (fs.map (·.2))
  | .dic ks xs, o => ∃ p kvs, o = some (.ref p) ∧ F p = none ∧ H p = some (.dK kvs) ∧ kvs.map (·.1) = ks ∧ IsL K F xs (kvs.map (·.2))
  | .dicT ks xs, o => ∃ p kvs, o = some (.ref p) ∧ F p = none ∧ H p = some (.dT kvs) ∧ kvs.map (·.1) = ks ∧ IsL K F xs (kvs.map (·.2))
/-- a table of code objects, or a code object -/
def Codey (o : HO) : Prop := (∃ ps, o = .tbl ps) ∨ ∃ c q, o = LamX.CodeO c q
/-- nothing stands at p, or a table of code objects -/
def Fr (H : Hp) (p : Addr) : Prop := ∀ o, H p = some o → ∃ ps, o = .tbl ps
theorem Fr.of {H : Hp} {p : Addr} (h : H p = none) : Fr H p := fun o e => by rw [h] at e; cases e
theorem Fr.no {H : Hp} {p : Addr} {o : HO} {C : Prop} (h : Fr H p) (e : H p = some o) (n : ∀ ps, o ≠ .tbl ps) : C := by
  obtain ⟨ps, z⟩ := h o e
  exact absurd z (n ps)
/-- the heap grows: all but the tables of code objects stays, those of T are tables of theirs -/
structure Gr (T : List (Addr × Str)) (H H1 : Hp) : Prop where
  k : ∀ p o, H p = some o → (∀ ps, o ≠ .tbl ps) → H1 p = some o
  t : LamX.Tabs T H → LamX.Tabs T H1
theorem Gr.of {T : List (Addr × Str)} {H H1 : Hp} (e : Ext H H1) : Gr T H H1 where
  k := fun p o h _ => e p o h
  t := fun t => t.ext e
theorem Gr.refl {T : List (Addr × Str)} (H : Hp) : Gr T H H := .of fun _ _ h => h
theorem Gr.trans {T : List (Addr × Str)} {H H1 H2 : Hp} (a : Gr T H H1) (b : Gr T H1 H2) : Gr T H H2 := ⟨fun p o h n => b.k p o (a.k p o h n) n, fun t => b.t (a.t t)⟩
theorem Gr.fr {T : List (Addr × Str)} {H H1 : Hp} {p : Addr} (a : Gr T H H1) (h : Fr H1 p) : Fr H p := fun o e => by
  cases o with
  | tbl ps => exact ⟨ps, rfl⟩
  | _ => exact h _ (a.k p _ e fun _ z => nomatch z)
/-- .. or a tuple, which is never changed and never one's own -/
def Fq (H : Hp) (p : Addr) : Prop := Fr H p ∨ ∃ xs, H p = some (.tup xs)
theorem Fq.of {H : Hp} {p : Addr} (h : H p = none) : Fq H p := .inl (.of h)
theorem Fq.no {H : Hp} {p : Addr} {o : HO} {C : Prop} (h : Fq H p) (e : H p = some o) (n : ∀ ps, o ≠ .tbl ps) (m : ∀ xs, o ≠ .tup xs) : C := by
  rcases h with h | ⟨xs, h⟩
  · exact h.no e n
  · rw [e] at h; exact absurd (Option.some.inj h) (m xs)
theorem Gr.fq {T : List (Addr × Str)} {H H1 : Hp} {p : Addr} (a : Gr T H H1) (h : Fq H1 p) : Fq H p := by
  rcases h with h | ⟨xs, h⟩
  · exact .inl (a.fr h)
  · cases e : H p with
    | none => exact .inl (.of e)
    | some o =>
      by_cases q : ∃ ps, o = .tbl ps
      · exact .inl fun o' e' => by rw [e] at e'; cases e'; exact q
      · have := a.k p o e fun ps z => q ⟨ps, z⟩
        rw [h] at this
        cases this
        exact .inr ⟨xs, e⟩
theorem Gr.ff {T : List (Addr × Str)} {H H1 : Hp} {p : Addr} (a : Gr T H H1) (h : H1 p = none) : Fr H p := a.fr (.of h)
theorem tabs_upd {T : List (Addr × Str)} {H : Hp} {p : Addr} {o : HO} (t : LamX.Tabs T H) (h : ∀ o', H p = some o' → ¬ Codey o') : LamX.Tabs T (upd H p o) := fun x hx => by
  obtain ⟨ps, h1, h2, h3⟩ := t x hx
  have ne : x.1 ≠ p := fun e => h _ (by rw [← e]; exact h1) (.inl ⟨ps, rfl⟩)
  refine ⟨ps, by rw [upd_ne ne]; exact h1, h2, fun pos cv hc => ?_⟩
  obtain ⟨c, e1, e2⟩ := h3 pos cv hc
  have ne2 : c ≠ p := fun e => h _ (by rw [← e]; exact e2) (.inr ⟨c, x.2, rfl⟩)
  exact ⟨c, e1, by rw [upd_ne ne2]; exact e2⟩
/-- new objects alone were added -/
structure Nx (T : List (Addr × Str)) (F H F1 H1 : Hp) : Prop where
  f : Ext F F1
  h : Gr T H H1
  s : Ext F1 H1
  nt : ∀ p ps, F1 p = some (.tbl ps) → F p = some (.tbl ps)
  n : ∀ p o, F1 p = some o → F p ≠ none ∨ Fq H p
structure StR (B : Hp × Hp) (F H : Hp) (σ : L2.St) (ss : SS) : Prop where
  len : σ.length = ss.length
  bF : Ext B.1 F
  bH : Gr T B.2 H
  sub : Ext F H
  nt : ∀ p ps, F p ≠ some (.tbl ps)
  tb : LamX.Tabs T H
  new : ∀ p o, F p = some o → B.1 p ≠ none ∨ Fq B.2 p
  slots : ∀ (i : Nat) (s : S) (o : Option V), ss[i]? = some s → σ[i]? = some o → SlotIs K F H s o
  own : ∀ (i : Nat) (s : S) (p : Addr), ss[i]? = some s → s.mine = true → σ[i]? = some (some (.ref p)) → Fr B.2 p
  dis : ∀ (i j : Nat) (s t : S) (p : Addr), ss[i]? = some s → ss[j]? = some t → s.mine = true → t.mine = true → σ[i]? = some (some (.ref p)) → σ[j]? = some (some (.ref p)) → i = j
end
section
variable {T : List (Addr × Str)} {K : PySem.W.Frag} {B : Hp × Hp} {F H F1 H1 F2 H2 : Hp} {σ : L2.St} {ss : SS}
theorem Nx.refl (s : Ext F H) : Nx T F H F H := ⟨fun _ _ h => h, .refl H, s, fun _ _ h => h, fun p o h => .inl (by rw [h]; exact fun z => nomatch z)⟩
theorem Nx.trans (a : Nx T F H F1 H1) (b : Nx T F1 H1 F2 H2) : Nx T F H F2 H2 := ⟨a.f.trans b.f, a.h.trans b.h, b.s, fun p ps h => a.nt p ps (b.nt p ps h), fun p o h => by
  rcases b.n p o h with z | z
  · cases e : F1 p with
    | none => exact absurd e z
    | some u => exact a.n p u e
  · exact .inr (a.h.fq z)⟩
theorem Nx.alloc {p : Addr} {o : HO} (s : Ext F H) (h : H p = none) (ho : ∀ ps, o ≠ .tbl ps := by intro ps z; cases z) : Nx T F H (upd F p o) (upd H p o) := by
  have hF : F p = none := by
    cases e : F p with
    | none => rfl
    | some u => rw [s p u e] at h; cases h
  refine ⟨Ext.upd hF, .of (Ext.upd h), fun a u e => ?_, fun a ps e => ?_, fun a u e => ?_⟩
  · by_cases q : a = p
    · subst q; rw [upd_same] at e ⊢; exact e
    · rw [upd_ne q] at e ⊢; exact s a u e
  · by_cases q : a = p
    · subst q; rw [upd_same] at e; exact absurd (Option.some.inj e) (ho ps)
    · rw [upd_ne q] at e; exact e
  · by_cases q : a = p
    · subst q; exact .inr (.of h)
    · rw [upd_ne q] at e; exact .inl (by rw [e]; exact fun z => nomatch z)
/-- a new object that is not among the data -/
theorem Nx.allocH {p : Addr} {o : HO} (s : Ext F H) (h : H p = none) : Nx T F H F (upd H p o) :=
  ⟨fun _ _ h => h, .of (Ext.upd h), fun a u e => by rw [upd_ne (ne_of_none (s a u e) h)]; exact s a u e, fun _ _ h => h, fun p o h => .inl (by rw [h]; exact fun z => nomatch z)⟩
theorem SlotIs.grow {s : S} {o : Option V} (a : Nx T F H F1 H1) (h : SlotIs K F H s o) : SlotIs K F1 H1 s o := by
  have free : ∀ {p : Addr} {u : HO}, F p = none → H p = some u → (∀ ps, u ≠ .tbl ps) → (∀ xs, u ≠ .tup xs) → F1 p = none := fun {p u} e1 e2 hn hm => by
    cases e : F1 p with
    | none => rfl
    | some w =>
      rcases a.n p w e with z | z
      · exact absurd e1 z
      · exact z.no e2 hn hm
  cases s with
  | no => exact True.intro
  | d x => obtain ⟨v, e, h⟩ := h; exact ⟨v, e, Is.mono a.f x h⟩
  | own xs => obtain ⟨p, vs, e, e1, e2, h⟩ := h; exact ⟨p, vs, e, free e1 e2 (fun _ z => nomatch z) (fun _ z => nomatch z), a.h.k _ _ e2 (fun _ z => nomatch z), IsL.mono a.f xs h⟩
  | obj p C ns xs => obtain ⟨dx, fs, e, e1, e2, e3, h⟩ := h; exact ⟨dx, fs, e, free e1 e2 (fun _ z => nomatch z) (fun _ z => nomatch z), a.h.k _ _ e2 (fun _ z => nomatch z), e3, IsL.mono a.f xs h⟩
  | dic ks xs => obtain ⟨p, kvs, e, e1, e2, e3, h⟩ := h; exact ⟨p, kvs, e, free e1 e2 (fun _ z => nomatch z) (fun _ z => nomatch z), a.h.k _ _ e2 (fun _ z => nomatch z), e3, IsL.mono a.f xs h⟩
  | dicT ks xs => obtain ⟨p, kvs, e, e1, e2, e3, h⟩ := h; exact ⟨p, kvs, e, free e1 e2 (fun _ z => nomatch z) (fun _ z => nomatch z), a.h.k _ _ e2 (fun _ z => nomatch z), e3, IsL.mono a.f xs h⟩
theorem StR.grow (R : StR T K B F H σ ss) (a : Nx T F H F1 H1) : StR T K B F1 H1 σ ss where
  len := R.len
  bF := R.bF.trans a.f
  bH := R.bH.trans a.h
  sub := a.s
  nt := fun p ps e => R.nt p ps (a.nt p ps e)
  tb := a.h.t R.tb
  new := fun p o e => by
    rcases a.n p o e with z | z
    · cases q : F p with
      | none => exact absurd q z
      | some u => exact R.new p u q
    · exact .inr (R.bH.fq z)
  slots := fun i s o e1 e2 => (R.slots i s o e1 e2).grow a
  own := R.own
  dis := R.dis
theorem StR.nx (R : StR T K B F H σ ss) : Nx T F H F H := Nx.refl R.sub
theorem StR.alloc {p : Addr} {o : HO} (R : StR T K B F H σ ss) (h : H p = none) (ho : ∀ ps, o ≠ .tbl ps := by intro ps z; cases z) : StR T K B (upd F p o) (upd H p o) σ ss := R.grow (Nx.alloc R.sub h ho)
theorem StR.get {i : Nat} {x : D} (R : StR T K B F H σ ss) (h : ss[i]? = some (.d x)) : ∃ v, σ[i]? = some (some v) ∧ Is K F x v := by
  have hi : i < ss.length := (List.getElem?_eq_some_iff.mp h).1
  have hs : i < σ.length := by rw [R.len]; exact hi
  obtain ⟨v, e, q⟩ := R.slots i _ _ h (List.getElem?_eq_getElem hs)
  exact ⟨v, by rw [List.getElem?_eq_getElem hs, e], q⟩
theorem set_get {α : Type} {l : List α} {i j : Nat} {a x : α} (h : (l.set i a)[j]? = some x) : (i = j ∧ x = a) ∨ (i ≠ j ∧ l[j]? = some x) := by
  by_cases e : i = j
  · subst e
    have hl : i < l.length := by
      have := (List.getElem?_eq_some_iff.mp h).1
      simpa using this
    rw [List.getElem?_set_self hl] at h
    exact .inl ⟨rfl, (Option.some.inj h).symm⟩
  · rw [List.getElem?_set_ne e] at h
    exact .inr ⟨e, h⟩
/-- a slot is given a datum -/
theorem StR.put {i : Nat} {x : D} {v : V} (R : StR T K B F H σ ss) (h : Is K F x v) : StR T K B F H (σ.set i (some v)) (ss.set i (.d x)) where
  len := by simp [R.len]
  bF := R.bF
  bH := R.bH
  sub := R.sub
  nt := R.nt
  tb := R.tb
  new := R.new
  slots := fun j s o e1 e2 => by
    rcases set_get e1 with ⟨q, rfl⟩ | ⟨q, e1⟩
    · rcases set_get e2 with ⟨_, rfl⟩ | ⟨q2, _⟩
      · exact ⟨v, rfl, h⟩
      · exact absurd q q2
    · rcases set_get e2 with ⟨q2, _⟩ | ⟨_, e2⟩
      · exact absurd q2 q
      · exact R.slots j s o e1 e2
  own := fun j s p e1 m e2 => by
    rcases set_get e1 with ⟨q, rfl⟩ | ⟨q, e1⟩
    · cases m
    · rcases set_get e2 with ⟨q2, _⟩ | ⟨_, e2⟩
      · exact absurd q2 q
      · exact R.own j s p e1 m e2
  dis := fun j k s t p e1 e2 m1 m2 e3 e4 => by
    rcases set_get e1 with ⟨q, rfl⟩ | ⟨q, e1⟩
    · cases m1
    · rcases set_get e2 with ⟨q', rfl⟩ | ⟨q', e2⟩
      · cases m2
      · rcases set_get e3 with ⟨q2, _⟩ | ⟨_, e3⟩
        · exact absurd q2 q
        · rcases set_get e4 with ⟨q2, _⟩ | ⟨_, e4⟩
          · exact absurd q2 q'
          · exact R.dis j k s t p e1 e2 m1 m2 e3 e4
/-- a slot is forgotten -/
theorem StR.forget {i : Nat} {o : Option V} (R : StR T K B F H σ ss) : StR T K B F H (σ.set i o) (ss.set i .no) where
  len := by simp [R.len]
  bF := R.bF
  bH := R.bH
  sub := R.sub
  nt := R.nt
  tb := R.tb
  new := R.new
  slots := fun j s o e1 e2 => by
    rcases set_get e1 with ⟨q, rfl⟩ | ⟨q, e1⟩
    · exact True.intro
    · rcases set_get e2 with ⟨q2, _⟩ | ⟨_, e2⟩
      · exact absurd q2 q
      · exact R.slots j s o e1 e2
  own := fun j s p e1 m e2 => by
    rcases set_get e1 with ⟨q, rfl⟩ | ⟨q, e1⟩
    · cases m
    · rcases set_get e2 with ⟨q2, _⟩ | ⟨_, e2⟩
      · exact absurd q2 q
      · exact R.own j s p e1 m e2
  dis := fun j k s t p e1 e2 m1 m2 e3 e4 => by
    rcases set_get e1 with ⟨q, rfl⟩ | ⟨q, e1⟩
    · cases m1
    · rcases set_get e2 with ⟨q', rfl⟩ | ⟨q', e2⟩
      · cases m2
      · rcases set_get e3 with ⟨q2, _⟩ | ⟨_, e3⟩
        · exact absurd q2 q
        · rcases set_get e4 with ⟨q2, _⟩ | ⟨_, e4⟩
          · exact absurd q2 q'
          · exact R.dis j k s t p e1 e2 m1 m2 e3 e4
/-- a slot of which less is known -/
theorem StR.less {i : Nat} {s : S} (R : StR T K B F H σ ss) (h : ss[i]? = some s) (hm : s.mine = false ∨ True) : StR T K B F H σ (ss.set i .no) where
  len := by simp [R.len]
  bF := R.bF
  bH := R.bH
  sub := R.sub
  nt := R.nt
  tb := R.tb
  new := R.new
  slots := fun j s o e1 e2 => by
    rcases set_get e1 with ⟨q, rfl⟩ | ⟨q, e1⟩
    · exact True.intro
    · exact R.slots j s o e1 e2
  own := fun j s p e1 m e2 => by
    rcases set_get e1 with ⟨q, rfl⟩ | ⟨q, e1⟩
    · cases m
    · exact R.own j s p e1 m e2
  dis := fun j k s t p e1 e2 m1 m2 e3 e4 => by
    rcases set_get e1 with ⟨q, rfl⟩ | ⟨q, e1⟩
    · cases m1
    · rcases set_get e2 with ⟨q', rfl⟩ | ⟨q', e2⟩
      · cases m2
      · exact R.dis j k s t p e1 e2 m1 m2 e3 e4
end

/-! ### what an expression makes: canonical readings -/
section
variable (T : List (Addr × Str)) (K : PySem.W.Frag)
/-- from ss the datum d; Rl : which ss, d -/
def tEv (Rl : SS → D → Prop) : TE := fun σ H Q => ∃ B F ss d, Rl ss d ∧ StR T K B F H σ ss ∧ ∀ v F1 H1, Nx T F H F1 H1 → StR T K B F1 H1 σ ss → Is K F1 d v → Q v H1
def tEvs (Rl : SS → List D → Prop) : TA := fun σ H Q => ∃ B F ss ds, Rl ss ds ∧ StR T K B F H σ ss ∧ ∀ vs F1 H1, Nx T F H F1 H1 → StR T K B F1 H1 σ ss → IsL K F1 ds vs → Q vs H1
def tTv (Rl : SS → Bool → Prop) : TT := fun σ H Q => ∃ B F ss b, Rl ss b ∧ StR T K B F H σ ss ∧ ∀ F1 H1, Nx T F H F1 H1 → StR T K B F1 H1 σ ss → Q b H1
end
section
variable {T : List (Addr × Str)} {X : Cx}
theorem PE.imp {e : Expr} {t t' : TE} (h : PE X e t) (k : ∀ σ H Q, t' σ H Q → t σ H Q) : PE X e t' := ⟨fun pins s σ H Q I q => h.run pins s σ H Q I (k σ H Q q)⟩
theorem PT.imp {e : Expr} {t t' : TT} (h : PT X e t) (k : ∀ σ H Q, t' σ H Q → t σ H Q) : PT X e t' := ⟨fun pins s σ H Q I q => h.run pins s σ H Q I (k σ H Q q)⟩
theorem PA.imp {es : List Expr} {t t' : TA} (h : PA X es t) (k : ∀ σ H Q, t' σ H Q → t σ H Q) : PA X es t' := ⟨fun pos pins s σ H Q I q => h.run pos pins s σ H Q I (k σ H Q q)⟩
theorem PS.imp {e : Stmt} {t t' : TS} (h : PS X e t) (k : ∀ D σ H, t' D σ H → t D σ H) : PS X e t' := ⟨fun pins s σ H D I q => h.run pins s σ H D I (k D σ H q)⟩
theorem PSs.imp {e : List Stmt} {t t' : TS} (h : PSs X e t) (k : ∀ D σ H, t' D σ H → t D σ H) : PSs X e t' := ⟨fun pins s σ H D I q => h.run pins s σ H D I (k D σ H q)⟩
/-- e makes of the state ss the datum d -/
def EV (T : List (Addr × Str)) (X : Cx) (e : Expr) (ss : SS) (d : D) : Prop := PE X e (tEv T X.K fun ss' d' => ss' = ss ∧ d' = d)
def EVs (T : List (Addr × Str)) (X : Cx) (es : List Expr) (ss : SS) (ds : List D) : Prop := PA X es (tEvs T X.K fun ss' d' => ss' = ss ∧ d' = ds)
def TV (T : List (Addr × Str)) (X : Cx) (e : Expr) (ss : SS) (b : Bool) : Prop := PT X e (tTv T X.K fun ss' b' => ss' = ss ∧ b' = b)
abbrev EvP (T : List (Addr × Str)) (K : PySem.W.Frag) (ss : SS) (d : D) : TE := tEv T K fun ss' d' => ss' = ss ∧ d' = d
abbrev EvsP (T : List (Addr × Str)) (K : PySem.W.Frag) (ss : SS) (ds : List D) : TA := tEvs T K fun ss' d' => ss' = ss ∧ d' = ds
abbrev TvP (T : List (Addr × Str)) (K : PySem.W.Frag) (ss : SS) (b : Bool) : TT := tTv T K fun ss' d' => ss' = ss ∧ d' = b
/-- a family of readings -/
theorem pe_fam {e : Expr} {Rl : SS → D → Prop} (h : ∀ ss d, Rl ss d → EV T X e ss d) : PE X e (tEv T X.K Rl) := ⟨fun pins s σ H Q I q => by
  obtain ⟨B, F, ss, d, r, R, k⟩ := q
  exact (h ss d r).run pins s σ H Q I ⟨B, F, ss, d, ⟨rfl, rfl⟩, R, k⟩⟩
theorem pt_fam {e : Expr} {Rl : SS → Bool → Prop} (h : ∀ ss d, Rl ss d → TV T X e ss d) : PT X e (tTv T X.K Rl) := ⟨fun pins s σ H Q I q => by
  obtain ⟨B, F, ss, d, r, R, k⟩ := q
  exact (h ss d r).run pins s σ H Q I ⟨B, F, ss, d, ⟨rfl, rfl⟩, R, k⟩⟩
/-- from any reading -/
theorem EV.of {e : Expr} {t : TE} {ss : SS} {d : D} (h : PE X e t)
    (k : ∀ B F H σ Q, StR T X.K B F H σ ss → (∀ v F1 H1, Nx T F H F1 H1 → StR T X.K B F1 H1 σ ss → Is X.K F1 d v → Q v H1) → t σ H Q) : EV T X e ss d :=
  PE.imp h fun σ H Q ⟨B, F, ss', d', ⟨e1, e2⟩, R, q⟩ => by subst e1; subst e2; exact k B F H σ Q R q
theorem TV.of {e : Expr} {t : TT} {ss : SS} {b : Bool} (h : PT X e t)
    (k : ∀ B F H σ Q, StR T X.K B F H σ ss → (∀ F1 H1, Nx T F H F1 H1 → StR T X.K B F1 H1 σ ss → Q b H1) → t σ H Q) : TV T X e ss b :=
  PT.imp h fun σ H Q ⟨B, F, ss', d', ⟨e1, e2⟩, R, q⟩ => by subst e1; subst e2; exact k B F H σ Q R q
theorem EVs.of {es : List Expr} {t : TA} {ss : SS} {ds : List D} (h : PA X es t)
    (k : ∀ B F H σ Q, StR T X.K B F H σ ss → (∀ vs F1 H1, Nx T F H F1 H1 → StR T X.K B F1 H1 σ ss → IsL X.K F1 ds vs → Q vs H1) → t σ H Q) : EVs T X es ss ds :=
  PA.imp h fun σ H Q ⟨B, F, ss', d', ⟨e1, e2⟩, R, q⟩ => by subst e1; subst e2; exact k B F H σ Q R q
/-- use of one -/
theorem ev_go {K : PySem.W.Frag} {B : Hp × Hp} {F H : Hp} {σ : L2.St} {ss : SS} {d : D} {Q : VK} (R : StR T K B F H σ ss) (k : ∀ v F1 H1, Nx T F H F1 H1 → StR T K B F1 H1 σ ss → Is K F1 d v → Q v H1) : EvP T K ss d σ H Q := ⟨B, F, ss, d, ⟨rfl, rfl⟩, R, k⟩
theorem evs_go {K : PySem.W.Frag} {B : Hp × Hp} {F H : Hp} {σ : L2.St} {ss : SS} {ds : List D} {Q : List V → Hp → Prop} (R : StR T K B F H σ ss) (k : ∀ vs F1 H1, Nx T F H F1 H1 → StR T K B F1 H1 σ ss → IsL K F1 ds vs → Q vs H1) : EvsP T K ss ds σ H Q := ⟨B, F, ss, ds, ⟨rfl, rfl⟩, R, k⟩
theorem tv_go {K : PySem.W.Frag} {B : Hp × Hp} {F H : Hp} {σ : L2.St} {ss : SS} {b : Bool} {Q : Bool → Hp → Prop} (R : StR T K B F H σ ss) (k : ∀ F1 H1, Nx T F H F1 H1 → StR T K B F1 H1 σ ss → Q b H1) : TvP T K ss b σ H Q := ⟨B, F, ss, b, ⟨rfl, rfl⟩, R, k⟩
end

/-! ### expressions -/
section
variable {T : List (Addr × Str)} {X : Cx} {ss : SS} {a b c e : Expr} {es : List Expr} {pos : Pos} {d : D} {ds : List D}
theorem ev_var (i : Nat) {x : Str} (h : ss[i]? = some (.d d)) (hN : X.N[i]? = some x := by rfl) (hv : Vis X.env.scope x := by first | exact Or.inl rfl | exact Or.inr (Or.inl rfl) | exact Or.inr (Or.inr rfl)) (hd : (x == ("__debug__" : Str)) = false := by decide)
    (hcd : (x == ("__classdict__" : Str)) = false := by decide) : EV T X (.Name x pos) ss d := EV.of (pe_var hN hv hd hcd) fun B F H σ Q R k => by
  obtain ⟨v, e, q⟩ := R.get h
  exact ⟨v, e, k v F H R.nx R q⟩
theorem ev_int {i : Int} {j} : EV T X (.Constant (.int i) j pos) ss (.int i) := EV.of pe_int fun B F H σ Q R k => k _ F H R.nx R rfl
theorem ev_bl {i : Bool} {j} : EV T X (.Constant (.bool i) j pos) ss (.bl i) := EV.of pe_bl fun B F H σ Q R k => k _ F H R.nx R rfl
theorem ev_non {j} : EV T X (.Constant .none j pos) ss .non := EV.of pe_non fun B F H σ Q R k => k _ F H R.nx R rfl
theorem ev_str {x : Str} {j} : EV T X (.Constant (.str x) j pos) ss (.str x) := EV.of pe_str fun B F H σ Q R k => k _ F H R.nx R rfl
/-- two in a row, by a rule of values -/
theorem ev_op {op : Operator} {r : R2} {x y : D} (ho : OpR X (binaryOp op) r) (ha : EV T X a ss x) (hb : EV T X b ss y)
    (k : ∀ B F H σ v u Q, StR T X.K B F H σ ss → Is X.K F x v → Is X.K F y u → (∀ z F1 H1, Nx T F H F1 H1 → StR T X.K B F1 H1 σ ss → Is X.K F1 d z → Q z H1) → r v u H Q) : EV T X (.BinOp a op b pos) ss d :=
  EV.of (pe_op ho ha hb) fun B F H σ Q R q => ev_go R fun v F1 H1 n1 R1 i1 => ev_go R1 fun u F2 H2 n2 R2 i2 =>
    k B F2 H2 σ v u Q R2 (Is.mono n2.f _ i1) i2 fun z F3 H3 n3 R3 i3 => q z F3 H3 ((n1.trans n2).trans n3) R3 i3
theorem ev_cmp {op : CmpOp} {r : R2} {x y : D} (ho : OpR X (compareOp op) r) (ha : EV T X a ss x) (hb : EV T X b ss y)
    (k : ∀ B F H σ v u Q, StR T X.K B F H σ ss → Is X.K F x v → Is X.K F y u → (∀ z F1 H1, Nx T F H F1 H1 → StR T X.K B F1 H1 σ ss → Is X.K F1 d z → Q z H1) → r v u H Q)
    (h1 : behindInMarks op b = false := by first | exact nomark _ | rfl) : EV T X (.Compare a [op] [b] pos) ss d :=
  EV.of (pe_cmpR ho ha hb h1) fun B F H σ Q R q => ev_go R fun v F1 H1 n1 R1 i1 => ev_go R1 fun u F2 H2 n2 R2 i2 =>
    k B F2 H2 σ v u Q R2 (Is.mono n2.f _ i1) i2 fun z F3 H3 n3 R3 i3 => q z F3 H3 ((n1.trans n2).trans n3) R3 i3
theorem ev_add {i j : Int} (ha : EV T X a ss (.int i)) (hb : EV T X b ss (.int j)) : EV T X (.BinOp a .Add b pos) ss (.int (i + j)) :=
  ev_op op_add ha hb fun B F H σ v u Q R i1 i2 q => ⟨i, j, i1, i2, q _ F H R.nx R rfl⟩
theorem ev_sub {i j : Int} (ha : EV T X a ss (.int i)) (hb : EV T X b ss (.int j)) : EV T X (.BinOp a .Sub b pos) ss (.int (i - j)) :=
  ev_op op_sub ha hb fun B F H σ v u Q R i1 i2 q => ⟨i, j, i1, i2, q _ F H R.nx R rfl⟩
theorem ev_mod {i j : Int} (hj : 0 < j) (ha : EV T X a ss (.int i)) (hb : EV T X b ss (.int j)) : EV T X (.BinOp a .Mod b pos) ss (.int (i % j)) :=
  ev_op op_mod ha hb fun B F H σ v u Q R i1 i2 q => ⟨i, j, i1, i2, hj, q _ F H R.nx R rfl⟩
theorem ev_pow {i j : Int} (hj : CPow i j) (ha : EV T X a ss (.int i)) (hb : EV T X b ss (.int j)) : EV T X (.BinOp a .Pow b pos) ss (.int (i ^ j.toNat)) :=
  ev_op op_pow ha hb fun B F H σ v u Q R i1 i2 q => ⟨i, j, i1, i2, hj, q _ F H R.nx R rfl⟩
theorem ev_neg {i : Int} (ha : EV T X a ss (.int i)) : EV T X (.UnaryOp .USub a pos) ss (.int (-i)) :=
  EV.of (pe_un un_neg ha) fun B F H σ Q R q => ev_go R fun v F1 H1 n1 R1 i1 => ⟨i, i1, q _ F1 H1 n1 R1 rfl⟩
theorem ev_addS {x y : Str} (hl : x.length + y.length ≤ sizeLine) (ha : EV T X a ss (.str x)) (hb : EV T X b ss (.str y)) : EV T X (.BinOp a .Add b pos) ss (.str (x ++ y)) :=
  ev_op op_add_str ha hb fun B F H σ v u Q R i1 i2 q => ⟨x, y, i1, i2, hl, q _ F H R.nx R rfl⟩
theorem ev_lt {i j : Int} (ha : EV T X a ss (.int i)) (hb : EV T X b ss (.int j)) : EV T X (.Compare a [.Lt] [b] pos) ss (.bl (decide (i < j))) :=
  ev_cmp op_lt ha hb fun B F H σ v u Q R i1 i2 q => ⟨i, j, i1, i2, q _ F H R.nx R rfl⟩
theorem ev_le {i j : Int} (ha : EV T X a ss (.int i)) (hb : EV T X b ss (.int j)) : EV T X (.Compare a [.LtE] [b] pos) ss (.bl (decide (i ≤ j))) :=
  ev_cmp op_le ha hb fun B F H σ v u Q R i1 i2 q => ⟨i, j, i1, i2, q _ F H R.nx R rfl⟩
theorem ev_gt {i j : Int} (ha : EV T X a ss (.int i)) (hb : EV T X b ss (.int j)) : EV T X (.Compare a [.Gt] [b] pos) ss (.bl (decide (j < i))) :=
  ev_cmp op_gt ha hb fun B F H σ v u Q R i1 i2 q => ⟨i, j, i1, i2, q _ F H R.nx R rfl⟩
theorem ev_ge {i j : Int} (ha : EV T X a ss (.int i)) (hb : EV T X b ss (.int j)) : EV T X (.Compare a [.GtE] [b] pos) ss (.bl (decide (j ≤ i))) :=
  ev_cmp op_ge ha hb fun B F H σ v u Q R i1 i2 q => ⟨i, j, i1, i2, q _ F H R.nx R rfl⟩
theorem ev_eqI {i j : Int} (ha : EV T X a ss (.int i)) (hb : EV T X b ss (.int j)) : EV T X (.Compare a [.Eq] [b] pos) ss (.bl (decide (i = j))) :=
  ev_cmp op_eq ha hb fun B F H σ v u Q R i1 i2 q => by
    cases i1; cases i2
    exact ⟨rfl, q _ F H R.nx R (by show V.bl _ = V.bl _; rw [dec_int, Bool.beq_eq_decide_eq])⟩
theorem ev_neI {i j : Int} (ha : EV T X a ss (.int i)) (hb : EV T X b ss (.int j)) : EV T X (.Compare a [.NotEq] [b] pos) ss (.bl (!decide (i = j))) :=
  ev_cmp op_ne ha hb fun B F H σ v u Q R i1 i2 q => by
    cases i1; cases i2
    exact ⟨rfl, q _ F H R.nx R (by show V.bl _ = V.bl _; rw [dec_int, Bool.beq_eq_decide_eq])⟩
theorem ev_eqS {i j : Str} (ha : EV T X a ss (.str i)) (hb : EV T X b ss (.str j)) : EV T X (.Compare a [.Eq] [b] pos) ss (.bl (decide (i = j))) :=
  ev_cmp op_eq ha hb fun B F H σ v u Q R i1 i2 q => by
    cases i1; cases i2
    exact ⟨rfl, q _ F H R.nx R (by show V.bl _ = V.bl _; rw [dec_str, Bool.beq_eq_decide_eq])⟩
/-! arguments, displays -/
theorem evs_nil : EVs T X [] ss [] := EVs.of pa_nil fun B F H σ Q R k => k [] F H R.nx R rfl
theorem evs_cons (ha : EV T X e ss d) (hr : EVs T X es ss ds) (hs : starEach (e :: es) X.env = (false, eval e X.env) :: starEach es X.env := by rfl) : EVs T X (e :: es) ss (d :: ds) :=
  EVs.of (pa_cons ha hr hs) fun B F H σ Q R k => ev_go R fun v F1 H1 n1 R1 i1 => evs_go R1 fun vs F2 H2 n2 R2 i2 =>
    k (v :: vs) F2 H2 (n1.trans n2) R2 ⟨v, vs, rfl, Is.mono n2.f _ i1, i2⟩
theorem small_len {n : Nat} (h : n ≤ 100000) : n ≤ sizeLine := by rw [sizeLine_eq]; omega
theorem ev_tup {x1} (h : EVs T X es ss ds) (hl : ds.length ≤ 100000 := by exact Nat.le_of_ble_eq_true rfl) : EV T X (.Tuple es x1 pos) ss (.tup ds) :=
  EV.of (pe_tup h) fun B F H σ Q R k => evs_go R fun vs F1 H1 n1 R1 i1 => ⟨by rw [i1.length]; exact small_len hl, fun p hp =>
    k _ _ _ (n1.trans (Nx.alloc R1.sub hp)) (R1.alloc hp) ⟨p, vs, rfl, SqT.of upd_same, IsL.mono (Nx.alloc (T := T) R1.sub hp).f _ i1⟩⟩
theorem ev_lst (h : EVs T X es ss ds) (hl : ds.length ≤ 100000 := by exact Nat.le_of_ble_eq_true rfl) : EV T X (.List es pos) ss (.lst ds) :=
  EV.of (pe_lst h) fun B F H σ Q R k => evs_go R fun vs F1 H1 n1 R1 i1 => ⟨by rw [i1.length]; exact small_len hl, fun p hp =>
    k _ _ _ (n1.trans (Nx.alloc R1.sub hp)) (R1.alloc hp) ⟨p, vs, rfl, upd_same, IsL.mono (Nx.alloc (T := T) R1.sub hp).f _ i1⟩⟩
/-! items -/
theorem ev_ixL {xs : List D} {i : Int} (hi : ∃ n : Nat, i = n ∧ xs[n]? = some d) (ha : EV T X a ss (.lst xs)) (hb : EV T X b ss (.int i)) (hs : PlainIx b := by exact fun _ _ => rfl) : EV T X (.Subscript a b pos) ss d :=
  EV.of (pe_ix ix_list ha hb hs) fun B F H σ Q R q => ev_go R fun v F1 H1 n1 R1 i1 => ev_go R1 fun u F2 H2 n2 R2 i2 => by
    obtain ⟨p, vs, rfl, e2, e3⟩ := i1
    obtain ⟨n, rfl, hn⟩ := hi
    obtain ⟨w, hw, iw⟩ := IsL.get' e3 hn
    exact ⟨p, vs, _, w, rfl, i2, SqL.of (R2.sub _ _ (n2.f _ _ e2)), atI_nat hw, q _ _ _ (n1.trans n2) R2 (Is.mono n2.f _ iw)⟩
theorem ev_ixR {xs : List D} {i : Int} (hi : ∃ n : Nat, i = n ∧ xs[n]? = some d) (ha : EV T X a ss (.rdl xs)) (hb : EV T X b ss (.int i)) (hs : PlainIx b := by exact fun _ _ => rfl) : EV T X (.Subscript a b pos) ss d :=
  EV.of (pe_ix ix_list ha hb hs) fun B F H σ Q R q => ev_go R fun v F1 H1 n1 R1 i1 => ev_go R1 fun u F2 H2 n2 R2 i2 => by
    obtain ⟨p, vs, rfl, e2, e3⟩ := i1
    obtain ⟨n, rfl, hn⟩ := hi
    obtain ⟨w, hw, iw⟩ := IsL.get' e3 hn
    exact ⟨p, vs, _, w, rfl, i2, ext_seqL (n2.f.trans R2.sub) e2, atI_nat hw, q _ _ _ (n1.trans n2) R2 (Is.mono n2.f _ iw)⟩
theorem ev_ixT {xs : List D} {i : Int} (hi : ∃ n : Nat, i = n ∧ xs[n]? = some d) (ha : EV T X a ss (.tup xs)) (hb : EV T X b ss (.int i)) (hs : PlainIx b := by exact fun _ _ => rfl) : EV T X (.Subscript a b pos) ss d :=
  EV.of (pe_ix ix_tup ha hb hs) fun B F H σ Q R q => ev_go R fun v F1 H1 n1 R1 i1 => ev_go R1 fun u F2 H2 n2 R2 i2 => by
    obtain ⟨p, vs, rfl, e2, e3⟩ := i1
    obtain ⟨n, rfl, hn⟩ := hi
    obtain ⟨w, hw, iw⟩ := IsL.get' e3 hn
    exact ⟨p, vs, _, w, rfl, i2, ext_seqT (n2.f.trans R2.sub) e2, atI_nat hw, q _ _ _ (n1.trans n2) R2 (Is.mono n2.f _ iw)⟩
/-! tests -/
theorem tv_of {b : Bool} (h : EV T X e ss (.bl b)) (he : ∀ whole, isTrue e X.env whole = (do let v ← whole; standAt e.pos; holding [v] (truthy v)) := by intro _; rfl) : TV T X e ss b :=
  TV.of (pt_val h he) fun B F H σ Q R q => ev_go R fun v F1 H1 n1 R1 i1 => ⟨b, i1, q F1 H1 n1 R1⟩
theorem tv_cmp {op : CmpOp} {r : R2} {x y : D} {k : Bool} (ho : OpR X (compareOp op) r) (ha : EV T X a ss x) (hb : EV T X b ss y)
    (kk : ∀ B F H σ v u Q, StR T X.K B F H σ ss → Is X.K F x v → Is X.K F y u → (∀ F1 H1, Nx T F H F1 H1 → StR T X.K B F1 H1 σ ss → Q (.bl k) H1) → r v u H Q)
    (h1 : behindInMarks op b = false := by first | exact nomark _ | rfl) : TV T X (.Compare a [op] [b] pos) ss k :=
  TV.of (pt_cmpR ho ha hb h1) fun B F H σ Q R q => ev_go R fun v F1 H1 n1 R1 i1 => ev_go R1 fun u F2 H2 n2 R2 i2 =>
    kk B F2 H2 σ v u _ R2 (Is.mono n2.f _ i1) i2 fun F3 H3 n3 R3 => ⟨k, rfl, q F3 H3 ((n1.trans n2).trans n3) R3⟩
theorem tv_lt {i j : Int} (ha : EV T X a ss (.int i)) (hb : EV T X b ss (.int j)) : TV T X (.Compare a [.Lt] [b] pos) ss (decide (i < j)) :=
  tv_cmp op_lt ha hb fun B F H σ v u Q R i1 i2 q => ⟨i, j, i1, i2, q F H R.nx R⟩
theorem tv_le {i j : Int} (ha : EV T X a ss (.int i)) (hb : EV T X b ss (.int j)) : TV T X (.Compare a [.LtE] [b] pos) ss (decide (i ≤ j)) :=
  tv_cmp op_le ha hb fun B F H σ v u Q R i1 i2 q => ⟨i, j, i1, i2, q F H R.nx R⟩
theorem tv_gt {i j : Int} (ha : EV T X a ss (.int i)) (hb : EV T X b ss (.int j)) : TV T X (.Compare a [.Gt] [b] pos) ss (decide (j < i)) :=
  tv_cmp op_gt ha hb fun B F H σ v u Q R i1 i2 q => ⟨i, j, i1, i2, q F H R.nx R⟩
theorem tv_ge {i j : Int} (ha : EV T X a ss (.int i)) (hb : EV T X b ss (.int j)) : TV T X (.Compare a [.GtE] [b] pos) ss (decide (j ≤ i)) :=
  tv_cmp op_ge ha hb fun B F H σ v u Q R i1 i2 q => ⟨i, j, i1, i2, q F H R.nx R⟩
theorem tv_eqI {i j : Int} (ha : EV T X a ss (.int i)) (hb : EV T X b ss (.int j)) : TV T X (.Compare a [.Eq] [b] pos) ss (decide (i = j)) :=
  tv_cmp op_eq ha hb fun B F H σ v u Q R i1 i2 q => by
    cases i1; cases i2
    refine ⟨rfl, ?_⟩
    rw [dec_int, Bool.beq_eq_decide_eq]
    exact q F H R.nx R
theorem tv_neI {i j : Int} (ha : EV T X a ss (.int i)) (hb : EV T X b ss (.int j)) : TV T X (.Compare a [.NotEq] [b] pos) ss (!decide (i = j)) :=
  tv_cmp op_ne ha hb fun B F H σ v u Q R i1 i2 q => by
    cases i1; cases i2
    refine ⟨rfl, ?_⟩
    rw [dec_int, Bool.beq_eq_decide_eq]
    exact q F H R.nx R
theorem tv_not {k : Bool} (h : TV T X a ss k) : TV T X (.UnaryOp .Not a pos) ss (!k) := TV.of (pt_not h) fun B F H σ Q R q => tv_go R q
def TW (T : List (Addr × Str)) (X : Cx) (e : Expr) (ss : SS) (b : Bool) : Prop := PW X e (tTv T X.K fun ss' b' => ss' = ss ∧ b' = b)
theorem PW.imp {e : Expr} {t t' : TT} (h : PW X e t) (k : ∀ σ H Q, t' σ H Q → t σ H Q) : PW X e t' := ⟨fun wh pins s σ H Q I q => h.run wh pins s σ H Q I (k σ H Q q)⟩
theorem TW.tv {k : Bool} (h : TW T X e ss k) : TV T X e ss k := PW.pt h
theorem tw_and1 {k : Bool} (h : TV T X a ss k) : TW T X (.BoolOp .And [a] pos) ss k := pw_and1 h
theorem tw_or1 {k : Bool} (h : TV T X a ss k) : TW T X (.BoolOp .Or [a] pos) ss k := pw_or1 h
theorem tw_andT {k : Bool} (h : TV T X a ss true) (g : TW T X (.BoolOp .And (b :: es) pos) ss k) : TW T X (.BoolOp .And (a :: b :: es) pos) ss k :=
  PW.imp (pw_and h g) fun σ H Q ⟨B, F, ss', d', ⟨e1, e2⟩, R, q⟩ => by
    subst e1; subst e2
    exact tv_go R fun F1 H1 n1 R1 => iteT (tv_go R1 fun F2 H2 n2 R2 => q F2 H2 (n1.trans n2) R2)
theorem tw_andF {t : TT} (h : TV T X a ss false) (g : PW X (.BoolOp .And (b :: es) pos) t) : TW T X (.BoolOp .And (a :: b :: es) pos) ss false :=
  PW.imp (pw_and h g) fun σ H Q ⟨B, F, ss', d', ⟨e1, e2⟩, R, q⟩ => by
    subst e1; subst e2
    exact tv_go R fun F1 H1 n1 R1 => iteF (q F1 H1 n1 R1)
end
end Fd

set_option Elab.async false
set_option linter.all false
set_option maxRecDepth 100000
set_option maxHeartbeats 2000000
/-! Fd2: statements, loops, comprehensions, calls of defs. -/
namespace Fd
open PySem PySem.Spec PyProof.Rows L2
/-! ### statements -/
structure Post where
  nx : SS → Prop
  rt : D → Prop
  bk : SS → Prop := fun _ => False
  ct : SS → Prop := fun _ => False
def tSv (T : List (Addr × Str)) (K : PySem.W.Frag) (Rl : SS → Post → Prop) : TS := fun Dn σ H => ∃ B F ss P, Rl ss P ∧ StR T K B F H σ ss ∧ (∀ ss' σ' F1 H1, P.nx ss' → StR T K B F1 H1 σ' ss' → Dn.nx σ' H1) ∧
  (∀ d v ss' σ' F1 H1, P.rt d → StR T K B F1 H1 σ' ss' → Is K F1 d v → Dn.rt v H1) ∧ (∀ ss' σ' F1 H1, P.bk ss' → StR T K B F1 H1 σ' ss' → Dn.bk σ' H1) ∧ (∀ ss' σ' F1 H1, P.ct ss' → StR T K B F1 H1 σ' ss' → Dn.ct σ' H1)
def SV (T : List (Addr × Str)) (X : Cx) (st : Stmt) (ss : SS) (P : Post) : Prop := PS X st (tSv T X.K fun ss' P' => ss' = ss ∧ P' = P)
def SVs (T : List (Addr × Str)) (X : Cx) (st : List Stmt) (ss : SS) (P : Post) : Prop := PSs X st (tSv T X.K fun ss' P' => ss' = ss ∧ P' = P)
section
variable {T : List (Addr × Str)} {X : Cx} {ss : SS} {P : Post} {st : Stmt} {sts rest : List Stmt} {e : Expr} {d : D} {pos : Pos}
/-- the ends of a statement from a state -/
structure Go (T : List (Addr × Str)) (K : PySem.W.Frag) (B : Hp × Hp) (P : Post) (Dn : Ends) : Prop where
  nx : ∀ ss' σ' F1 H1, P.nx ss' → StR T K B F1 H1 σ' ss' → Dn.nx σ' H1
  rt : ∀ d v ss' σ' F1 H1, P.rt d → StR T K B F1 H1 σ' ss' → Is K F1 d v → Dn.rt v H1
  bk : ∀ ss' σ' F1 H1, P.bk ss' → StR T K B F1 H1 σ' ss' → Dn.bk σ' H1
  ct : ∀ ss' σ' F1 H1, P.ct ss' → StR T K B F1 H1 σ' ss' → Dn.ct σ' H1
theorem SV.of {t : TS} (h : PS X st t) (k : ∀ B F H σ Dn, StR T X.K B F H σ ss → Go T X.K B P Dn → t Dn σ H) : SV T X st ss P :=
  PS.imp h fun Dn σ H ⟨B, F, ss', P', ⟨e1, e2⟩, R, q1, q2, q3, q4⟩ => by subst e1; subst e2; exact k B F H σ Dn R ⟨q1, q2, q3, q4⟩
theorem SVs.of {t : TS} (h : PSs X sts t) (k : ∀ B F H σ Dn, StR T X.K B F H σ ss → Go T X.K B P Dn → t Dn σ H) : SVs T X sts ss P :=
  PSs.imp h fun Dn σ H ⟨B, F, ss', P', ⟨e1, e2⟩, R, q1, q2, q3, q4⟩ => by subst e1; subst e2; exact k B F H σ Dn R ⟨q1, q2, q3, q4⟩
theorem pss_fam {Rl : SS → Post → Prop} (h : ∀ ss P, Rl ss P → SVs T X sts ss P) : PSs X sts (tSv T X.K Rl) := ⟨fun pins s σ H Dn I q => by
  obtain ⟨B, F, ss, P, r, R, q⟩ := q
  exact (h ss P r).run pins s σ H Dn I ⟨B, F, ss, P, ⟨rfl, rfl⟩, R, q⟩⟩
abbrev AllSv (T : List (Addr × Str)) (X : Cx) (sts : List Stmt) : TS := tSv T X.K fun ss P => SVs T X sts ss P
theorem pss_all : PSs X sts (AllSv T X sts) := pss_fam fun _ _ h => h
theorem sv_go {B : Hp × Hp} {F H : Hp} {σ : L2.St} {Dn : Ends} (h : SVs T X sts ss P) (R : StR T X.K B F H σ ss) (g : Go T X.K B P Dn) : AllSv T X sts Dn σ H := ⟨B, F, ss, P, h, R, g.nx, g.rt, g.bk, g.ct⟩
theorem svs_nil (h : P.nx ss) : SVs T X [] ss P := SVs.of pss_nil fun B F H σ Dn R g => g.nx _ _ _ _ h R
theorem svs_cons (h : SV T X st ss ⟨fun ss' => SVs T X rest ss' P, P.rt, P.bk, P.ct⟩) : SVs T X (st :: rest) ss P :=
  SVs.of (pss_cons h pss_all) fun B F H σ Dn R g => ⟨B, F, ss, _, ⟨rfl, rfl⟩, R, fun ss' σ' F1 H1 q R1 => sv_go q R1 g, g.rt, g.bk, g.ct⟩
theorem svs_one (h : SV T X st ss P) : SVs T X [st] ss P := SVs.of (pss_one h) fun B F H σ Dn R g => ⟨B, F, ss, P, ⟨rfl, rfl⟩, R, g.nx, g.rt, g.bk, g.ct⟩
theorem SV.post {P' : Post} (h : SV T X st ss P') (h1 : ∀ s, P'.nx s → P.nx s) (h2 : ∀ d, P'.rt d → P.rt d) (h3 : ∀ s, P'.bk s → P.bk s) (h4 : ∀ s, P'.ct s → P.ct s) : SV T X st ss P :=
  SV.of h fun B F H σ Dn R g => ⟨B, F, ss, P', ⟨rfl, rfl⟩, R, fun ss' σ' F1 H1 q => g.nx ss' σ' F1 H1 (h1 _ q), fun d v ss' σ' F1 H1 q => g.rt d v ss' σ' F1 H1 (h2 _ q), fun ss' σ' F1 H1 q => g.bk ss' σ' F1 H1 (h3 _ q), fun ss' σ' F1 H1 q => g.ct ss' σ' F1 H1 (h4 _ q)⟩
theorem SVs.post {P' : Post} (h : SVs T X sts ss P') (h1 : ∀ s, P'.nx s → P.nx s) (h2 : ∀ d, P'.rt d → P.rt d) (h3 : ∀ s, P'.bk s → P.bk s) (h4 : ∀ s, P'.ct s → P.ct s) : SVs T X sts ss P :=
  SVs.of h fun B F H σ Dn R g => ⟨B, F, ss, P', ⟨rfl, rfl⟩, R, fun ss' σ' F1 H1 q => g.nx ss' σ' F1 H1 (h1 _ q), fun d v ss' σ' F1 H1 q => g.rt d v ss' σ' F1 H1 (h2 _ q), fun ss' σ' F1 H1 q => g.bk ss' σ' F1 H1 (h3 _ q), fun ss' σ' F1 H1 q => g.ct ss' σ' F1 H1 (h4 _ q)⟩
theorem sv_pass (h : P.nx ss) : SV T X (.Pass pos) ss P := SV.of ps_pass fun B F H σ Dn R g => g.nx _ _ _ _ h R
theorem sv_break (h : P.bk ss) : SV T X (.Break pos) ss P := SV.of ps_break fun B F H σ Dn R g => g.bk _ _ _ _ h R
theorem sv_continue (h : P.ct ss) : SV T X (.Continue pos) ss P := SV.of ps_continue fun B F H σ Dn R g => g.ct _ _ _ _ h R
theorem sv_ret (h : EV T X e ss d) (k : P.rt d) : SV T X (.Return (some e) pos) ss P := SV.of (ps_ret h) fun B F H σ Dn R g => ev_go R fun v F1 H1 n1 R1 i1 => g.rt d v ss σ F1 H1 k R1 i1
theorem sv_retN (k : P.rt .non) : SV T X (.Return none pos) ss P := SV.of ps_retN fun B F H σ Dn R g => g.rt .non _ ss σ F H k R rfl
theorem sv_expr (h : EV T X e ss d) (k : P.nx ss) (hs : swapsWith e none pos.line X.env = pure false := by rfl) : SV T X (.Expr e pos) ss P := SV.of (ps_expr h hs) fun B F H σ Dn R g => ev_go R fun v F1 H1 n1 R1 i1 => g.nx ss σ F1 H1 k R1
theorem sv_if {c : Expr} {a b : List Stmt} {t : Bool} (hc : TV T X c ss t) (h1 : t = true → SVs T X a ss P) (h2 : t = false → SVs T X b ss P) : SV T X (.If c a b pos) ss P :=
  SV.of (ps_if hc pss_all pss_all) fun B F H σ Dn R g => tv_go R fun F1 H1 n1 R1 => by
    cases t with
    | true => exact iteT (sv_go (h1 rfl) R1 g)
    | false => exact iteF (sv_go (h2 rfl) R1 g)
theorem sv_set (i : Nat) {x : Str} {pos' : Pos} (he : EV T X e ss d) (k : P.nx (ss.set i (.d d))) (hN : X.N.Nodup) (hi : X.N[i]? = some x := by rfl) (hx : Loc X.env.scope x := by first | exact Or.inl rfl | exact Or.inr rfl)
    (hs : swapsWith e (some (.Name x pos')) pos.line X.env = pure false := by rfl) (hf : X.fn x = true ∨ X.env.scope.names.lookup x = some .local := by first | exact .inl rfl | exact .inr rfl | assumption) : SV T X (.Assign [.Name x pos'] e pos) ss P :=
  SV.of (ps_set hN hi hx he hs hf) fun B F H σ Dn R g => ev_go R fun v F1 H1 n1 R1 i1 => g.nx _ _ F1 H1 k (R1.put i1)
end
/-! ### lists of one's own -/
section
variable {T : List (Addr × Str)} {K : PySem.W.Frag} {B : Hp × Hp} {F H F1 H1 F2 H2 : Hp} {σ : L2.St} {ss : SS}
/-- B.2 p = none for what is new -/
theorem StR.base_none (R : StR T K B F H σ ss) {p : Addr} (h : H p = none) : Fr B.2 p := R.bH.ff h
theorem StR.base_fr (R : StR T K B F H σ ss) {p : Addr} (h : Fr H p) : Fr B.2 p := R.bH.fr h
/-- an own slot's object is no table, no code object -/
theorem StR.plain (R : StR T K B F H σ ss) {i : Nat} {s : S} {p : Addr} (h : ss[i]? = some s) (m : s.mine = true) (hσ : σ[i]? = some (some (.ref p))) : ∀ o', H p = some o' → ¬ Codey o' := by
  have q := R.slots i _ _ h hσ
  intro o' e z
  cases s with
  | own xs => obtain ⟨p, vs, e0, e1, e2, _⟩ := q; cases e0; rw [e] at e2; cases e2; rcases z with ⟨_, z⟩ | ⟨_, _, z⟩ <;> cases z
  | obj p C ns xs => obtain ⟨dx, fs, e0, e1, e2, _⟩ := q; cases e0; rw [e] at e2; cases e2; rcases z with ⟨_, z⟩ | ⟨_, _, z⟩ <;> cases z
  | dic ks xs => obtain ⟨p, kvs, e0, e1, e2, _⟩ := q; cases e0; rw [e] at e2; cases e2; rcases z with ⟨_, z⟩ | ⟨_, _, z⟩ <;> cases z
  | dicT ks xs => obtain ⟨p, kvs, e0, e1, e2, _⟩ := q; cases e0; rw [e] at e2; cases e2; rcases z with ⟨_, z⟩ | ⟨_, _, z⟩ <;> cases z
  | _ => cases m
theorem StR.free (R : StR T K B F H σ ss) {p : Addr} (h : H p = none) : F p = none := by
  cases e : F p with
  | none => rfl
  | some u => rw [R.sub p u e] at h; cases h
/-- own slots stand in the heap -/
theorem StR.mine_at (R : StR T K B F H σ ss) {i : Nat} {s : S} (h : ss[i]? = some s) (m : s.mine = true) : ∃ p, σ[i]? = some (some (.ref p)) ∧ F p = none ∧ H p ≠ none := by
  have hi : i < ss.length := (List.getElem?_eq_some_iff.mp h).1
  have hs : i < σ.length := by rw [R.len]; exact hi
  have q := R.slots i _ _ h (List.getElem?_eq_getElem hs)
  rw [List.getElem?_eq_getElem hs]
  cases s with
  | own xs => obtain ⟨p, vs, e, e1, e2, _⟩ := q; exact ⟨p, by rw [e], e1, by rw [e2]; exact fun z => nomatch z⟩
  | obj p C ns xs => obtain ⟨dx, fs, e, e1, e2, _⟩ := q; exact ⟨p, by rw [e], e1, by rw [e2]; exact fun z => nomatch z⟩
  | dic ks xs => obtain ⟨p, kvs, e, e1, e2, _⟩ := q; exact ⟨p, by rw [e], e1, by rw [e2]; exact fun z => nomatch z⟩
  | dicT ks xs => obtain ⟨p, kvs, e, e1, e2, _⟩ := q; exact ⟨p, by rw [e], e1, by rw [e2]; exact fun z => nomatch z⟩
  | _ => cases m
/-- a change at p of the whole heap alone, p no own slot's -/
theorem StR.updH {p : Addr} {o : HO} (R : StR T K B F H σ ss) (hF : F p = none) (hB : Fr B.2 p) (hk : ∀ o', H p = some o' → ¬ Codey o') (ho : ∀ (i : Nat) (s : S), ss[i]? = some s → s.mine = true → σ[i]? ≠ some (some (.ref p))) : StR T K B F (upd H p o) σ ss where
  len := R.len
  bF := R.bF
  bH := ⟨fun q u e n => by
    by_cases z : q = p
    · subst z; exact hB.no e n
    · rw [upd_ne z]; exact R.bH.k q u e n, fun t => tabs_upd (R.bH.t t) hk⟩
  sub := fun q u e => by rw [upd_ne (ne_of_none e hF)]; exact R.sub q u e
  nt := R.nt
  tb := tabs_upd R.tb hk
  new := R.new
  slots := fun i s oo e1 e2 => by
    have q := R.slots i s oo e1 e2
    have ne : ∀ {p' : Addr}, s.mine = true → oo = some (.ref p') → p' ≠ p := fun {p'} m e z => ho i s e1 m (by rw [e2, e, z])
    cases s with
    | no => exact True.intro
    | d x => exact q
    | own xs => obtain ⟨p', vs, e, e3, e4, h⟩ := q; exact ⟨p', vs, e, e3, by rw [upd_ne (ne rfl e)]; exact e4, h⟩
    | obj p' C ns xs => obtain ⟨dx, fs, e, e3, e4, h⟩ := q; exact ⟨dx, fs, e, e3, by rw [upd_ne (ne rfl e)]; exact e4, h⟩
    | dic ks xs => obtain ⟨p', kvs, e, e3, e4, h⟩ := q; exact ⟨p', kvs, e, e3, by rw [upd_ne (ne rfl e)]; exact e4, h⟩
    | dicT ks xs => obtain ⟨p', kvs, e, e3, e4, h⟩ := q; exact ⟨p', kvs, e, e3, by rw [upd_ne (ne rfl e)]; exact e4, h⟩
  own := R.own
  dis := R.dis
/-- a slot is given an object of its own -/
theorem StR.putOwn {i : Nat} {s : S} {p : Addr} (R : StR T K B F H σ ss) (m : s.mine = true) (h : SlotIs K F H s (some (.ref p))) (hB : Fr B.2 p) (ho : ∀ (j : Nat) (t : S), j ≠ i → ss[j]? = some t → t.mine = true → σ[j]? ≠ some (some (.ref p))) :
    StR T K B F H (σ.set i (some (.ref p))) (ss.set i s) where
  len := by simp [R.len]
  bF := R.bF
  bH := R.bH
  sub := R.sub
  nt := R.nt
  tb := R.tb
  new := R.new
  slots := fun j t o e1 e2 => by
    rcases set_get e1 with ⟨q, rfl⟩ | ⟨q, e1⟩
    · rcases set_get e2 with ⟨_, rfl⟩ | ⟨q2, _⟩
      · exact h
      · exact absurd q q2
    · rcases set_get e2 with ⟨q2, _⟩ | ⟨_, e2⟩
      · exact absurd q2 q
      · exact R.slots j t o e1 e2
  own := fun j t p' e1 m' e2 => by
    rcases set_get e1 with ⟨q, rfl⟩ | ⟨q, e1⟩
    · rcases set_get e2 with ⟨_, z⟩ | ⟨q2, _⟩
      · cases z; exact hB
      · exact absurd q q2
    · rcases set_get e2 with ⟨q2, _⟩ | ⟨_, e2⟩
      · exact absurd q2 q
      · exact R.own j t p' e1 m' e2
  dis := fun j k s' t p' e1 e2 m1 m2 e3 e4 => by
    rcases set_get e3 with ⟨q, z⟩ | ⟨q, e3⟩
    · cases z
      rcases set_get e4 with ⟨q', z⟩ | ⟨q', e4⟩
      · exact q.symm.trans q'
      · rcases set_get e2 with ⟨q2, _⟩ | ⟨_, e2⟩
        · exact absurd q2 q'
        · exact absurd e4 (ho k t (fun z => q' z.symm) e2 m2)
    · rcases set_get e1 with ⟨q2, _⟩ | ⟨_, e1⟩
      · exact absurd q2 q
      · rcases set_get e4 with ⟨q', z⟩ | ⟨q', e4⟩
        · cases z
          exact absurd e3 (ho j s' (fun z => q z.symm) e1 m1)
        · rcases set_get e2 with ⟨q2, _⟩ | ⟨_, e2⟩
          · exact absurd q2 q'
          · exact R.dis j k s' t p' e1 e2 m1 m2 e3 e4
/-- a fresh object laid and given to a slot -/
theorem StR.newOwn {i : Nat} {s : S} {p : Addr} {o : HO} (R : StR T K B F H σ ss) (hp : H p = none) (m : s.mine = true) (h : SlotIs K F (upd H p o) s (some (.ref p))) : StR T K B F (upd H p o) (σ.set i (some (.ref p))) (ss.set i s) := by
  have no : ∀ (j : Nat) (t : S), ss[j]? = some t → t.mine = true → σ[j]? ≠ some (some (.ref p)) := fun j t e mt z => by
    obtain ⟨p', e1, _, e3⟩ := R.mine_at e mt
    rw [z] at e1
    cases e1
    exact e3 hp
  exact (R.updH (R.free hp) (R.base_none hp) (fun o' e => by rw [hp] at e; cases e) no).putOwn m h (R.base_none hp) fun j t _ => no j t
theorem set_self {α : Type} {l : List α} {i : Nat} {a : α} (h : l[i]? = some a) : l.set i a = l := by
  apply List.ext_getElem?
  intro j
  by_cases e : i = j
  · subst e
    rw [List.getElem?_set_self (List.getElem?_eq_some_iff.mp h).1, h]
  · rw [List.getElem?_set_ne e]
/-- an own object is changed -/
theorem StR.chg {i : Nat} {s s' : S} {p : Addr} {o : HO} (R : StR T K B F H σ ss) (hs : ss[i]? = some s) (m : s.mine = true) (hσ : σ[i]? = some (some (.ref p))) (m' : s'.mine = true) (hF : F p = none) (h : SlotIs K F (upd H p o) s' (some (.ref p))) :
    StR T K B F (upd H p o) σ (ss.set i s') := by
  have hB := R.own i s p hs m hσ
  have R1 : StR T K B F H σ (ss.set i .no) := R.less hs (.inr trivial)
  have hil : i < ss.length := (List.getElem?_eq_some_iff.mp hs).1
  have no : ∀ (j : Nat) (t : S), (ss.set i .no)[j]? = some t → t.mine = true → σ[j]? ≠ some (some (.ref p)) := fun j t e mt z => by
    rcases set_get e with ⟨_, rfl⟩ | ⟨q, e⟩
    · cases mt
    · exact q (R.dis i j s t p hs e m mt hσ z)
  have R2 := (R1.updH (o := o) hF hB (R.plain hs m hσ) no).putOwn (i := i) m' h hB fun j t _ => no j t
  rw [set_self hσ, List.set_set] at R2
  exact R2
/-- what was one's own is never changed again: a datum -/
theorem StR.freeze {i : Nat} {xs : List D} (R : StR T K B F H σ ss) (h : ss[i]? = some (.own xs)) : ∃ F', Ext F F' ∧ Nx T F H F' H ∨ True := ⟨F, .inr trivial⟩
theorem StR.freezeL {i : Nat} {xs : List D} (R : StR T K B F H σ ss) (h : ss[i]? = some (.own xs)) : ∃ F', Ext F F' ∧ StR T K B F' H σ (ss.set i (.d (.lst xs))) := by
  have hi : i < ss.length := (List.getElem?_eq_some_iff.mp h).1
  have hs : i < σ.length := by rw [R.len]; exact hi
  obtain ⟨p, vs, e, e1, e2, hx⟩ := R.slots i _ _ h (List.getElem?_eq_getElem hs)
  have hσ : σ[i]? = some (some (.ref p)) := by rw [List.getElem?_eq_getElem hs, e]
  have hB := R.own i _ p h rfl hσ
  have xF : Ext F (upd F p (.lst vs)) := Ext.upd e1
  refine ⟨upd F p (.lst vs), xF, ⟨by simp [R.len], R.bF.trans xF, R.bH, fun q u z => ?_, fun q ps z => ?_, R.tb, fun q u z => ?_, fun j s o z1 z2 => ?_, fun j s q z1 m z2 => ?_, fun j k s t q z1 z2 m1 m2 z3 z4 => ?_⟩⟩
  · by_cases hq : q = p
    · subst hq; rw [upd_same] at z; rw [e2]; exact z
    · rw [upd_ne hq] at z; exact R.sub q u z
  · by_cases hq : q = p
    · subst hq; rw [upd_same] at z; cases z
    · rw [upd_ne hq] at z; exact R.nt q ps z
  · by_cases hq : q = p
    · subst hq; exact .inr (.inl hB)
    · rw [upd_ne hq] at z; exact R.new q u z
  · rcases set_get z1 with ⟨q, rfl⟩ | ⟨q, z1⟩
    · subst q
      rw [hσ] at z2
      cases z2
      exact ⟨.ref p, rfl, p, vs, rfl, upd_same, IsL.mono xF _ hx⟩
    · have w := R.slots j s o z1 z2
      have ne : ∀ {p' : Addr}, s.mine = true → o = some (.ref p') → p' ≠ p := fun {p'} m e' z => q (R.dis i j _ s p h z1 rfl m hσ (by rw [z2, e', z]))
      cases s with
      | no => exact True.intro
      | d x => obtain ⟨v, w1, w2⟩ := w; exact ⟨v, w1, Is.mono xF x w2⟩
      | own ys => obtain ⟨p', us, w1, w2, w3, w4⟩ := w; exact ⟨p', us, w1, by rw [upd_ne (ne rfl w1)]; exact w2, w3, IsL.mono xF _ w4⟩
      | obj p' C ns ys => obtain ⟨dx, fs, w1, w2, w3, w4, w5⟩ := w; exact ⟨dx, fs, w1, by rw [upd_ne (ne rfl w1)]; exact w2, w3, w4, IsL.mono xF _ w5⟩
      | dic ks ys => obtain ⟨p', kvs, w1, w2, w3, w4, w5⟩ := w; exact ⟨p', kvs, w1, by rw [upd_ne (ne rfl w1)]; exact w2, w3, w4, IsL.mono xF _ w5⟩
      | dicT ks ys => obtain ⟨p', kvs, w1, w2, w3, w4, w5⟩ := w; exact ⟨p', kvs, w1, by rw [upd_ne (ne rfl w1)]; exact w2, w3, w4, IsL.mono xF _ w5⟩
  · rcases set_get z1 with ⟨_, rfl⟩ | ⟨_, z1⟩
    · cases m
    · exact R.own j s q z1 m z2
  · rcases set_get z1 with ⟨_, rfl⟩ | ⟨_, z1⟩
    · cases m1
    · rcases set_get z2 with ⟨_, rfl⟩ | ⟨_, z2⟩
      · cases m2
      · exact R.dis j k s t q z1 z2 m1 m2 z3 z4
theorem StR.rebase (R : StR T K B F H σ ss) : StR T K (F, B.2) F H σ ss := ⟨R.len, fun _ _ h => h, R.bH, R.sub, R.nt, R.tb, fun p o e => .inl (by show F p ≠ none; rw [e]; exact fun z => nomatch z), R.slots, R.own, R.dis⟩
theorem StR.unbase {σ' : L2.St} {ss' : SS} (R : StR T K B F H σ ss) (R' : StR T K (F, B.2) F1 H1 σ' ss') : StR T K B F1 H1 σ' ss' := ⟨R'.len, R.bF.trans R'.bF, R'.bH, R'.sub, R'.nt, R'.tb, fun p o e => by
  rcases R'.new p o e with z | z
  · cases q : F p with
    | none => exact absurd q z
    | some u => exact R.new p u q
  · exact .inr z, R'.slots, R'.own, R'.dis⟩
end
section
variable {T : List (Addr × Str)} {X : Cx} {ss : SS} {P : Post} {st : Stmt} {sts rest : List Stmt} {e : Expr} {d : D} {ds : List D} {es : List Expr} {pos : Pos}
/-- an own list is a datum from here on -/
theorem sv_freeze (i : Nat) {xs : List D} (hi : ss[i]? = some (.own xs)) (h : SV T X st (ss.set i (.d (.lst xs))) P) : SV T X st ss P :=
  SV.of h fun B F H σ Dn R g => let ⟨F', _, R'⟩ := R.freezeL hi; ⟨B, F', _, P, ⟨rfl, rfl⟩, R', g.nx, g.rt, g.bk, g.ct⟩
theorem svs_freeze (i : Nat) {xs : List D} (hi : ss[i]? = some (.own xs)) (h : SVs T X sts (ss.set i (.d (.lst xs))) P) : SVs T X sts ss P :=
  SVs.of h fun B F H σ Dn R g => let ⟨F', _, R'⟩ := R.freezeL hi; ⟨B, F', _, P, ⟨rfl, rfl⟩, R', g.nx, g.rt, g.bk, g.ct⟩
/-- x = [..]: a list of one's own -/
theorem sv_setOwn (i : Nat) {x : Str} {pos' pl : Pos} (he : EVs T X es ss ds) (k : P.nx (ss.set i (.own ds))) (hN : X.N.Nodup) (hl : ds.length ≤ 100000 := by exact Nat.le_of_ble_eq_true rfl) (hi : X.N[i]? = some x := by rfl) (hx : Loc X.env.scope x := by first | exact Or.inl rfl | exact Or.inr rfl)
    (hs : swapsWith (.List es pl) (some (.Name x pos')) pos.line X.env = pure false := by rfl) (hf : X.fn x = true ∨ X.env.scope.names.lookup x = some .local := by first | exact .inl rfl | exact .inr rfl | assumption) :
    SV T X (.Assign [.Name x pos'] (.List es pl) pos) ss P :=
  SV.of (ps_set hN hi hx (pe_lst he) hs hf) fun B F H σ Dn R g => evs_go R fun vs F1 H1 n1 R1 i1 => ⟨by rw [i1.length]; exact small_len hl, fun p hp =>
    g.nx _ _ _ _ k (R1.newOwn hp rfl ⟨p, vs, rfl, R1.free hp, upd_same, i1⟩)⟩
/-- x.append(e) -/
theorem sv_append (i : Nat) {xs : List D} {x : Str} {px ap cp : Pos} (hx : ss[i]? = some (.own xs)) (he : EV T X e ss d) (k : P.nx (ss.set i (.own (xs ++ [d])))) (hl : xs.length ≤ 100000)
    (hp : ∀ {te : TE}, PE X e te → PE X (.Call (.Attribute (.Name x px) "append" ap) [e] [] cp) (tBM X.K "list" rAppend (tVar i) (tCons te tNil)) := by
      intro te h; exact pe_bm PySem.F.plainAttrs_list PySem.F.slot_list_append PySem.F.type_list_append mt_append (pv _) (pa_cons h pa_nil))
    (hs : swapsWith (.Call (.Attribute (.Name x px) "append" ap) [e] [] cp) none pos.line X.env = pure false := by rfl) :
    SV T X (.Expr (.Call (.Attribute (.Name x px) "append" ap) [e] [] cp) pos) ss P := by
  refine SV.of (ps_expr (hp he) hs) fun B F H σ Dn R g => ?_
  have hi : i < ss.length := (List.getElem?_eq_some_iff.mp hx).1
  have hsl : i < σ.length := by rw [R.len]; exact hi
  obtain ⟨p, vs, e1, e2, e3, e4⟩ := R.slots i _ _ hx (List.getElem?_eq_getElem hsl)
  have hσ : σ[i]? = some (some (.ref p)) := by rw [List.getElem?_eq_getElem hsl, e1]
  refine ⟨.ref p, hσ, .inl ⟨rfl, vs, SqL.of e3⟩, ev_go R fun v F1 H1 n1 R1 i1 => ?_⟩
  obtain ⟨p', vs', q1, q2, q3, q4⟩ := R1.slots i _ _ hx (List.getElem?_eq_getElem hsl)
  rw [q1] at e1
  cases e1
  refine ⟨p, _, v, rfl, rfl, q3, ?_, g.nx _ _ _ _ k (R1.chg hx rfl hσ rfl q2 ⟨p, _, rfl, q2, upd_same, q4.snoc i1⟩)⟩
  rw [q4.length, sizeLine_eq]; omega
end
end Fd

set_option Elab.async false
set_option linter.all false
set_option maxRecDepth 100000
set_option maxHeartbeats 2000000
/-! Fd3: loops, comprehensions, calls of defs. -/
namespace Fd
open PySem PySem.Spec PyProof.Rows L2
/-! ### what is walked -/
/-- J yields the data xs, one after another; it may lay new objects -/
structure Yl (T : List (Addr × Str)) (K : PySem.W.Frag) (J : It) (F1 : Hp) (xs : List D) : Prop where
  item : ∀ (i : Nat) (F H : Hp), Ext F1 F → Ext F H → i < xs.length → J.go i H ∧ ∀ x H', J.yld i H x H' → ∃ F' d, Nx T F H F' H' ∧ xs[i]? = some d ∧ Is K F' d x
  stop : ∀ (F H : Hp), Ext F1 F → Ext F H → J.stop xs.length H
def tIv (T : List (Addr × Str)) (K : PySem.W.Frag) (ss : SS) (xs : List D) : TI := fun σ H R => ∃ B F, StR T K B F H σ ss ∧ ∀ J F1 H1, Nx T F H F1 H1 → StR T K B F1 H1 σ ss → Yl T K J F1 xs → R J H1
def IV (T : List (Addr × Str)) (X : Cx) (tg e : Expr) (ss : SS) (xs : List D) : Prop := PI X tg e (tIv T X.K ss xs)
section
variable {T : List (Addr × Str)} {X : Cx} {ss : SS} {tg e : Expr} {xs : List D} {d : D}
theorem PI.imp {t t' : TI} (h : PI X tg e t) (k : ∀ σ H R, t' σ H R → t σ H R) : PI X tg e t' := ⟨fun pins s σ H R I q => h.run pins s σ H R I (k σ H R q)⟩
theorem IV.of {t : TI} (h : PI X tg e t) (k : ∀ B F H σ R, StR T X.K B F H σ ss → (∀ J F1 H1, Nx T F H F1 H1 → StR T X.K B F1 H1 σ ss → Yl T X.K J F1 xs → R J H1) → t σ H R) : IV T X tg e ss xs :=
  PI.imp h fun σ H R ⟨B, F, R0, q⟩ => k B F H σ R R0 q
theorem iv_list (he : EV T X e ss (.lst xs)) : IV T X tg e ss xs := IV.of (pi_list he) fun B F H σ R R0 q => ev_go R0 fun v F1 H1 n1 R1 i1 => by
  obtain ⟨a, vs, rfl, e2, e3⟩ := i1
  refine ⟨a, rfl, ⟨vs, SqL.of (R1.sub _ _ e2)⟩, q _ F1 H1 n1 R1 ⟨fun i F H x1 x2 hi => ?_, fun F H x1 x2 => ⟨vs, SqL.of (x2 _ _ (x1 _ _ e2)), by rw [e3.length]; exact Nat.le_refl _⟩⟩⟩
  obtain ⟨v, hv, iv⟩ := IsL.get' e3 (List.getElem?_eq_getElem hi)
  refine ⟨⟨vs, v, SqL.of (x2 _ _ (x1 _ _ e2)), hv⟩, fun x H' y => ?_⟩
  obtain ⟨rfl, y⟩ := y
  have := y vs (SqL.of (x2 _ _ (x1 _ _ e2)))
  rw [hv] at this
  cases this
  exact ⟨F, _, Nx.refl x2, List.getElem?_eq_getElem hi, Is.mono x1 _ iv⟩
theorem iv_rdl (he : EV T X e ss (.rdl xs)) : IV T X tg e ss xs := IV.of (pi_list he) fun B F H σ R R0 q => ev_go R0 fun v F1 H1 n1 R1 i1 => by
  obtain ⟨a, vs, rfl, e2, e3⟩ := i1
  refine ⟨a, rfl, ⟨vs, ext_seqL R1.sub e2⟩, q _ F1 H1 n1 R1 ⟨fun i F H x1 x2 hi => ?_, fun F H x1 x2 => ⟨vs, ext_seqL (x1.trans x2) e2, by rw [e3.length]; exact Nat.le_refl _⟩⟩⟩
  obtain ⟨v, hv, iv⟩ := IsL.get' e3 (List.getElem?_eq_getElem hi)
  refine ⟨⟨vs, v, ext_seqL (x1.trans x2) e2, hv⟩, fun x H' y => ?_⟩
  obtain ⟨rfl, y⟩ := y
  have := y vs (ext_seqL (x1.trans x2) e2)
  rw [hv] at this
  cases this
  exact ⟨F, _, Nx.refl x2, List.getElem?_eq_getElem hi, Is.mono x1 _ iv⟩
theorem iv_tup (he : EV T X e ss (.tup xs)) : IV T X tg e ss xs := IV.of (pi_tup he) fun B F H σ R R0 q => ev_go R0 fun v F1 H1 n1 R1 i1 => by
  obtain ⟨a, vs, rfl, e2, e3⟩ := i1
  refine ⟨a, rfl, ⟨vs, ext_seqT R1.sub e2⟩, q _ F1 H1 n1 R1 ⟨fun i F H x1 x2 hi => ?_, fun F H x1 x2 => ⟨vs, ext_seqT (x1.trans x2) e2, by rw [e3.length]; exact Nat.le_refl _⟩⟩⟩
  obtain ⟨v, hv, iv⟩ := IsL.get' e3 (List.getElem?_eq_getElem hi)
  refine ⟨⟨vs, v, ext_seqT (x1.trans x2) e2, hv⟩, fun x H' y => ?_⟩
  obtain ⟨rfl, y⟩ := y
  have := y vs (ext_seqT (x1.trans x2) e2)
  rw [hv] at this
  cases this
  exact ⟨F, _, Nx.refl x2, List.getElem?_eq_getElem hi, Is.mono x1 _ iv⟩
/-- lo, lo + 1, .. -/
def rng (lo : Int) (n : Nat) : List D := (List.range n).map fun (i : Nat) => D.int (lo + (i : Int))
theorem rng_len (lo : Int) (n : Nat) : (rng lo n).length = n := by simp [rng]
theorem rng_get {lo : Int} {n i : Nat} (h : i < n) : (rng lo n)[i]? = some (.int (lo + (i : Int))) := by
  unfold rng
  rw [List.getElem?_map, List.getElem?_range h]
  rfl
theorem yl_range (K : PySem.W.Frag) (F1 : Hp) (lo : Int) (n : Nat) : Yl T K (Itr lo n) F1 (rng lo n) := by
  refine ⟨fun i F H x1 x2 hi => ?_, fun F H x1 x2 => by show n ≤ _; rw [rng_len]; exact Nat.le_refl _⟩
  rw [rng_len] at hi
  refine ⟨hi, fun x H' y => ?_⟩
  obtain ⟨rfl, rfl⟩ := y
  exact ⟨F, _, Nx.refl x2, rng_get hi, rfl⟩
theorem iv_range1 {a : Expr} {n : Int} {p pos : Pos} (ha : EV T X a ss (.int n)) (hb : -(2 ^ 62) ≤ n ∧ n < 2 ^ 62) (hm : X.mg "range" = none) (hg : Gl X "range" := by rfl) (hs : starEach [a] X.env = [(false, eval a X.env)] := by rfl) :
    IV T X tg (.Call (.Name "range" p) [a] [] pos) ss (rng 0 n.toNat) :=
  IV.of (pi_range1 hg hm (pa_cons ha pa_nil hs) hs) fun B F H σ R R0 q => ev_go R0 fun v F1 H1 n1 R1 i1 => ⟨n, by cases i1; rfl, hb.1, hb.2, q _ F1 H1 n1 R1 (yl_range _ _ _ _)⟩
theorem iv_range2 {a b : Expr} {m n : Int} {p pos : Pos} (ha : EV T X a ss (.int m)) (hb' : EV T X b ss (.int n)) (hb : -(2 ^ 62) ≤ m ∧ m < 2 ^ 62 ∧ -(2 ^ 62) ≤ n ∧ n < 2 ^ 62) (hm : X.mg "range" = none) (hg : Gl X "range" := by rfl)
    (hs : starEach [a, b] X.env = [(false, eval a X.env), (false, eval b X.env)] := by rfl) (hs2 : starEach [b] X.env = [(false, eval b X.env)] := by rfl) :
    IV T X tg (.Call (.Name "range" p) [a, b] [] pos) ss (rng m (n - m).toNat) :=
  IV.of (pi_range2 hg hm (pa_cons ha (pa_cons hb' pa_nil hs2) (by rw [hs, hs2])) hs hs2) fun B F H σ R R0 q => ev_go R0 fun v F1 H1 n1 R1 i1 => ev_go R1 fun u F2 H2 n2 R2 i2 =>
    ⟨m, n, by cases i1; cases i2; rfl, hb, q _ F2 H2 (n1.trans n2) R2 (yl_range _ _ _ _)⟩
/-- a text's signs -/
def signs (x : Str) : List D := x.cps.toList.map fun c => .str ⟨#[c]⟩
theorem iv_str {x : Str} (he : EV T X e ss (.str x)) : IV T X tg e ss (signs x) := IV.of (pi_str he) fun B F H σ R R0 q => ev_go R0 fun v F1 H1 n1 R1 i1 => by
  refine ⟨x, i1, q _ F1 H1 n1 R1 ⟨fun i F H x1 x2 hi => ?_, fun F H x1 x2 => by show _ ≤ _; simp [signs]⟩⟩
  have hi' : i < x.cps.size := by simpa [signs] using hi
  refine ⟨hi', fun y H' z => ?_⟩
  obtain ⟨rfl, c, hc, rfl⟩ := z
  refine ⟨F, .str ⟨#[c]⟩, Nx.refl x2, ?_, rfl⟩
  unfold signs
  rw [List.getElem?_map, Array.getElem?_toList, hc]
  rfl
/-! ### targets -/
inductive Tg where
  | one (j : Nat)
  | many (js : List Nat)
  /-- .. of a list -/
  | manyL (js : List Nat)
def gNames : List Nat → TGs
  | [] => gNil
  | j :: js => gCons (gName j) (gNames js)
def gOf (K : PySem.W.Frag) : Tg → TG
  | .one j => gName j
  | .many js => gTup K js.length (gNames js)
  | .manyL js => gUnl K js.length (gNames js)
def putMany : List Nat → List D → SS → SS
  | j :: js, x :: xs, ss => putMany js xs (ss.set j (.d x))
  | _, _, ss => ss
def Tg.put : Tg → D → SS → SS
  | .one j, x, ss => ss.set j (.d x)
  | .many js, .tup xs, ss => putMany js xs ss
  | .manyL js, .lst xs, ss => putMany js xs ss
  | _, _, ss => ss
def Tg.fits : Tg → D → Bool
  | .one _, _ => true
  | .many js, .tup xs => js.length == xs.length
  | .manyL js, .lst xs => js.length == xs.length
  | _, _ => false
def Tg.slots : Tg → List Nat
  | .one j => [j]
  | .many js => js
  | .manyL js => js
end
section
theorem wipe_get (σ : L2.St) (i : Nat) : ∀ vs : List Nat, (wipe σ vs)[i]? = if i ∈ vs then (σ[i]?).map fun _ => none else σ[i]?
  | [] => by simp [wipe]
  | v :: vs => by
    have ih := wipe_get σ i vs
    unfold wipe
    by_cases e : v = i
    · subst e
      rw [if_pos List.mem_cons_self]
      by_cases h : v < (wipe σ vs).length
      · rw [List.getElem?_set_self h]
        rw [wipe_length] at h
        rw [List.getElem?_eq_getElem h]
        rfl
      · rw [List.getElem?_eq_none (by simpa using h)]
        rw [wipe_length] at h
        rw [List.getElem?_eq_none (by omega)]
        rfl
    · rw [List.getElem?_set_ne e, ih]
      by_cases h : i ∈ vs
      · rw [if_pos h, if_pos (List.mem_cons_of_mem _ h)]
      · rw [if_neg h, if_neg (by simp only [List.mem_cons, not_or]; exact ⟨fun z => e z.symm, h⟩)]
theorem wipe_set {σ : L2.St} {vs : List Nat} {j : Nat} {o : Option V} (h : j ∈ vs) : wipe (σ.set j o) vs = wipe σ vs := by
  apply List.ext_getElem?
  intro i
  rw [wipe_get, wipe_get]
  by_cases e : j = i
  · subst e
    rw [if_pos h, if_pos h]
    by_cases hl : j < σ.length
    · rw [List.getElem?_set_self hl, List.getElem?_eq_getElem hl]; rfl
    · rw [List.getElem?_eq_none (by simpa using hl), List.getElem?_eq_none (by simpa using hl)]
  · rw [List.getElem?_set_ne e]
theorem wipe_wipe {σ : L2.St} {vs : List Nat} : wipe (wipe σ vs) vs = wipe σ vs := by
  apply List.ext_getElem?
  intro i
  rw [wipe_get, wipe_get]
  split
  · rename_i h
    cases σ[i]? <;> rfl
  · rfl
/-- the same of what is known -/
def wipeS (ss : SS) : List Nat → SS
  | [] => ss
  | v :: vs => (wipeS ss vs).set v .no
variable {T : List (Addr × Str)} {K : PySem.W.Frag} {B : Hp × Hp} {F H F1 H1 F2 H2 : Hp} {σ : L2.St} {ss : SS}
theorem StR.wipe (R : StR T K B F H σ ss) : ∀ vs : List Nat, StR T K B F H (L2.wipe σ vs) (wipeS ss vs)
  | [] => R
  | v :: vs => (StR.wipe R vs).forget
theorem names_go : ∀ {js : List Nat} {xs : List D} {vs : List V} {σ : L2.St} {ss : SS} {Q : L2.St → Hp → Prop} {ws : List Nat}, StR T K B F H σ ss → IsL K F xs vs → js.length = xs.length → (∀ j ∈ js, j ∈ ws ∨ ws = []) →
    (∀ σ', StR T K B F H σ' (putMany js xs ss) → (ws ≠ [] → L2.wipe σ' ws = L2.wipe σ ws) → Q σ' H) → gNames js vs σ H Q
  | [], [], _, σ, ss, Q, ws, R, h, _, _, k => by
    cases (show _ = _ from h)
    exact ⟨rfl, k σ R fun _ => rfl⟩
  | j :: js, x :: xs, _, σ, ss, Q, ws, R, h, hl, hw, k => by
    obtain ⟨v, r, rfl, h1, h2⟩ := h
    refine ⟨v, r, rfl, ?_⟩
    show gNames js r (σ.set j (some v)) H Q
    refine names_go (ws := ws) (R.put h1) h2 (by simpa using hl) (fun i hi => hw i (List.mem_cons_of_mem _ hi)) fun σ' R' e => k σ' R' fun hne => ?_
    rw [e hne]
    rcases hw j List.mem_cons_self with q | q
    · exact wipe_set q
    · exact absurd q hne
theorem tg_go {t : Tg} {d : D} {v : V} {Q : L2.St → Hp → Prop} {ws : List Nat} (R : StR T K B F H σ ss) (h : Is K F d v) (hf : t.fits d = true) (hw : ∀ j ∈ t.slots, j ∈ ws ∨ ws = []) (k : ∀ σ', StR T K B F H σ' (t.put d ss) → (ws ≠ [] → L2.wipe σ' ws = L2.wipe σ ws) → Q σ' H) : gOf K t v σ H Q := by
  cases t with
  | one j => exact k _ (R.put h) fun hne => (hw j List.mem_cons_self).elim (fun q => wipe_set q) fun q => absurd q hne
  | many js =>
    cases d with
    | tup xs =>
      obtain ⟨a, vs, rfl, e1, e2⟩ := h
      have hl : js.length = xs.length := by simpa [Tg.fits] using hf
      exact ⟨a, vs, rfl, ext_seqT R.sub e1, by rw [e2.length, hl], names_go R e2 hl hw k⟩
    | _ => cases hf
  | manyL js =>
    cases d with
    | lst xs =>
      obtain ⟨a, vs, rfl, e1, e2⟩ := h
      have hl : js.length = xs.length := by simpa [Tg.fits] using hf
      exact ⟨a, vs, rfl, SqL.of (R.sub _ _ e1), by rw [e2.length, hl], names_go R e2 hl hw k⟩
    | _ => cases hf
end
/-! ### loops -/
section
variable {T : List (Addr × Str)} {X : Cx} {ss : SS} {P : Post} {tg e c : Expr} {body : List Stmt} {xs : List D} {d : D} {pos : Pos}
theorem sv_for (t : Tg) (I : Nat → SS → Prop) (hi : IV T X tg e ss xs) (hg : PG X tg (gOf X.K t)) (h0 : I 0 ss)
    (hs : ∀ i x ss', xs[i]? = some x → I i ss' → t.fits x = true ∧ SVs T X body (t.put x ss') ⟨I (i + 1), P.rt, P.nx, I (i + 1)⟩)
    (hd : ∀ ss', I xs.length ss' → P.nx ss') (hp : PassesOwn (model X.prog X.w) X.A X.env X.xe := by exact PassesOwn.never) (hc : X.calm = true := by rfl) (hf : ∀ x, foldedSetIterable e X.env x = pure x := by intro _; rfl) : SV T X (.For tg e body [] pos) ss P := by
  refine SV.of (ps_for hp hc hi hg (pss_all (T := T) (sts := body)) hf) fun B F H σ Dn R g => ⟨B, F, R, fun J F1 H1 n1 R1 Y => ?_⟩
  refine ⟨fun i m σ' H' => m = xs.length - i ∧ i ≤ xs.length ∧ ∃ F' ss', StR T X.K (F1, B.2) F' H' σ' ss' ∧ I i ss', ⟨xs.length, by simp, Nat.zero_le _, F1, ss, R1.rebase, h0⟩, ?_⟩
  rintro i m σ' H' ⟨rfl, hi', F', ss', R', hI⟩
  by_cases hlt : i < xs.length
  · obtain ⟨go, yl⟩ := Y.item i F' H' R'.bF R'.sub hlt
    refine .inr ⟨go, fun σ2 H2 => ∃ F2 ss2, StR T X.K (F1, B.2) F2 H2 σ2 ss2 ∧ I (i + 1) ss2, fun σ2 H2 ⟨F2, ss2, R2, h2⟩ => ⟨xs.length - (i + 1), by omega, rfl, hlt, F2, ss2, R2, h2⟩, fun v H2 y => ?_⟩
    obtain ⟨F2, x, n2, hx, ix⟩ := yl v H2 y
    obtain ⟨hfit, hbody⟩ := hs i x ss' hx hI
    refine tg_go (ws := []) (R'.grow n2) ix hfit (fun j _ => .inr rfl) fun σ3 R3 _ => ?_
    exact sv_go hbody R3 ⟨fun ss4 σ4 F4 H4 q R4 => ⟨F4, ss4, R4, q⟩, fun d v ss4 σ4 F4 H4 q R4 i4 => g.rt d v ss4 σ4 F4 H4 q (R1.unbase R4) i4, fun ss4 σ4 F4 H4 q R4 => g.nx ss4 σ4 F4 H4 q (R1.unbase R4), fun ss4 σ4 F4 H4 q R4 => ⟨F4, ss4, R4, q⟩⟩
  · have e : i = xs.length := by omega
    subst e
    exact .inl ⟨Y.stop F' H' R'.bF R'.sub, g.nx ss' σ' F' H' (hd ss' hI) (R1.unbase R')⟩
theorem sv_while (I : SS → Prop) (μ : SS → Nat) (h0 : I ss) (hs : ∀ ss', I ss' → ∃ b, TV T X c ss' b ∧ (b = true → SVs T X body ss' ⟨fun s2 => I s2 ∧ μ s2 < μ ss', P.rt, P.nx, fun s2 => I s2 ∧ μ s2 < μ ss'⟩) ∧ (b = false → P.nx ss'))
    (hp : PassesOwn (model X.prog X.w) X.A X.env X.xe := by exact PassesOwn.never) : SV T X (.While c body [] pos) ss P := by
  have hc : PT X c (tTv T X.K fun ss' b => TV T X c ss' b) := pt_fam fun ss' b h => h
  refine SV.of (ps_while hp hc (pss_all (T := T) (sts := body))) fun B F H σ Dn R g => ⟨fun m σ' H' => ∃ F' ss', StR T X.K B F' H' σ' ss' ∧ I ss' ∧ m = μ ss', ⟨_, F, ss, R, h0, rfl⟩, ?_⟩
  rintro m σ' H' ⟨F', ss', R', hI, rfl⟩
  obtain ⟨b, tv, ht, hf⟩ := hs ss' hI
  refine ⟨B, F', ss', b, tv, R', fun F1 H1 n1 R1 => ?_⟩
  cases b with
  | true =>
    refine iteT ⟨fun σ2 H2 => ∃ F2 ss2, StR T X.K B F2 H2 σ2 ss2 ∧ I ss2 ∧ μ ss2 < μ ss', fun σ2 H2 ⟨F2, ss2, R2, h2, l2⟩ => ⟨μ ss2, l2, F2, ss2, R2, h2, rfl⟩, ?_⟩
    exact sv_go (ht rfl) R1 ⟨fun ss4 σ4 F4 H4 q R4 => ⟨F4, ss4, R4, q⟩, g.rt, g.nx, fun ss4 σ4 F4 H4 q R4 => ⟨F4, ss4, R4, q⟩⟩
  | false => exact iteF (g.nx _ _ _ _ (hf rfl) R1)
end
/-! ### comprehensions -/
section
variable {T : List (Addr × Str)} {X : Cx} {ss : SS} {tg e elt : Expr} {ifs : List Expr} {xs : List D} {pos : Pos}
def TsV (T : List (Addr × Str)) (X : Cx) (ifs : List Expr) (ss : SS) (b : Bool) : Prop := PTs X ifs (tTv T X.K fun ss' b' => ss' = ss ∧ b' = b)
theorem PTs.imp {t t' : TT} (h : PTs X ifs t) (k : ∀ σ H Q, t' σ H Q → t σ H Q) : PTs X ifs t' := ⟨fun pins s σ H Q I q => h.run pins s σ H Q I (k σ H Q q)⟩
theorem ts_nil : TsV T X [] ss true := PTs.imp pts_nil fun σ H Q ⟨B, F, ss', b', ⟨e1, e2⟩, R, q⟩ => by subst e1; subst e2; exact q F H R.nx R
theorem ts_one {c : Expr} {b : Bool} (h : TV T X c ss b) : TsV T X [c] ss b := pts_one h
theorem pts_fam {Rl : SS → Bool → Prop} (h : ∀ ss d, Rl ss d → TsV T X ifs ss d) : PTs X ifs (tTv T X.K Rl) := ⟨fun pins s σ H Q I q => by
  obtain ⟨B, F, ss, d, r, R, k⟩ := q
  exact (h ss d r).run pins s σ H Q I ⟨B, F, ss, d, ⟨rfl, rfl⟩, R, k⟩⟩
/-- what the block's items give: keep x, then f x -/
def outs (keep : D → Bool) (f : D → D) (xs : List D) : List D := (xs.filter keep).map f
theorem outs_take {keep : D → Bool} {f : D → D} {xs : List D} {i : Nat} {x : D} (h : xs[i]? = some x) : outs keep f (xs.take (i + 1)) = if keep x = true then outs keep f (xs.take i) ++ [f x] else outs keep f (xs.take i) := by
  have e : xs.take (i + 1) = xs.take i ++ [x] := by
    rw [List.take_succ, h]; rfl
  unfold outs
  rw [e, List.filter_append, List.map_append]
  by_cases hk : keep x = true
  · rw [if_pos hk, List.filter_cons, if_pos hk]; rfl
  · rw [if_neg hk, List.filter_cons, if_neg hk]
    simp
theorem outs_len (keep : D → Bool) (f : D → D) (xs : List D) : (outs keep f xs).length ≤ xs.length := by
  unfold outs
  rw [List.length_map]
  exact List.length_filter_le _ _
/-- the reading's proof, for the value and for the store -/
theorem lc_go {K : PySem.W.Frag} {B : Hp × Hp} {F H : Hp} {σ : L2.St} {vs : List Nat} {t : Tg} {keep : D → Bool} {f : D → D} {Q : VK} (hv : vs ≠ []) (ht : ∀ j ∈ t.slots, j ∈ vs) (hfit : ∀ x ∈ xs, t.fits x = true) (hlen : xs.length ≤ 100000) (R : StR T K B F H σ ss)
    (q : ∀ D vs' F1 H1, Nx T F H F1 H1 → StR T K B F1 H1 σ ss → F1 D = none → Fr B.2 D → Fr H D → H1 D = some (.lst vs') → IsL K F1 (outs keep f xs) vs' → Q (.ref D) H1) :
    tLc (tIv T K ss xs) (gOf K t) (tTv T K fun ss' b => ∃ x ∈ xs, ss' = t.put x (wipeS ss vs) ∧ b = keep x) (tEv T K fun ss' d => ∃ x ∈ xs, keep x = true ∧ ss' = t.put x (wipeS ss vs) ∧ d = f x) vs σ H Q := by
  refine ⟨B, F, R, fun J F1 H1 n1 R1 Y D hD => ?_⟩
  have HD : Fr H D := n1.h.ff hD
  refine ⟨fun i m H' => m = xs.length - i ∧ i ≤ xs.length ∧ ∃ F' acc, Nx T F1 H1 F' H' ∧ F' D = none ∧ H' D = some (.lst acc) ∧ IsL K F' (outs keep f (xs.take i)) acc, ⟨xs.length, by simp, Nat.zero_le _, F1, [], Nx.allocH R1.sub hD, R1.free hD, upd_same, by simp [outs]; exact rfl⟩, ?_⟩
  rintro i m H' ⟨rfl, hi', F', acc, n2, fD, eD, hacc⟩
  by_cases hlt : i < xs.length
  · obtain ⟨go, yl⟩ := Y.item i F' H' n2.f n2.s hlt
    refine .inr ⟨go, fun H2 => ∃ F2 acc', Nx T F1 H1 F2 H2 ∧ F2 D = none ∧ H2 D = some (.lst acc') ∧ IsL K F2 (outs keep f (xs.take (i + 1))) acc', fun H2 ⟨F2, acc', h⟩ => ⟨xs.length - (i + 1), by omega, rfl, hlt, F2, acc', h⟩, fun v H2 y => ?_⟩
    obtain ⟨F2, x, n3, hx, ix⟩ := yl v H2 y
    have hmem : x ∈ xs := List.mem_of_getElem? hx
    have noD : ∀ {Fa Ha Fb Hb : Hp}, Nx T Fa Ha Fb Hb → Fa D = none → ∀ {o : HO}, Ha D = some o → (∀ ps, o ≠ .tbl ps) → (∀ xs, o ≠ .tup xs) → Fb D = none := fun {Fa Ha Fb Hb} n e1 o e2 e3 e4 => by
      cases e : Fb D with
      | none => rfl
      | some u =>
        rcases n.n D u e with z | z
        · exact absurd e1 z
        · exact z.no e2 e3 e4
    have fD2 : F2 D = none := noD n3 fD eD (fun _ z => nomatch z) (fun _ z => nomatch z)
    have n12 := n2.trans n3
    have eD2 := n3.h.k _ _ eD (fun _ z => nomatch z)
    have R2 : StR T K B F2 H2 (L2.wipe σ vs) (wipeS ss vs) := (R1.wipe vs).grow n12
    refine tg_go (ws := vs) R2 ix (hfit x hmem) (fun j hj => .inl (ht j hj)) fun σ3 R3 hw => ⟨by rw [hw hv, wipe_wipe], ?_⟩
    refine ⟨B, F2, _, keep x, ⟨x, hmem, rfl, rfl⟩, R3, fun F3 H3 n4 R4 => ?_⟩
    have fD3 : F3 D = none := noD n4 fD2 eD2 (fun _ z => nomatch z) (fun _ z => nomatch z)
    have eD3 := n4.h.k _ _ eD2 (fun _ z => nomatch z)
    have n13 := n12.trans n4
    have hacc3 := IsL.mono (n3.f.trans n4.f) _ hacc
    cases hk : keep x with
    | true =>
      refine iteT ⟨B, F3, _, f x, ⟨x, hmem, hk, rfl, rfl⟩, R4, fun w F4 H4 n5 R5 i5 => ?_⟩
      have fD4 : F4 D = none := noD n5 fD3 eD3 (fun _ z => nomatch z) (fun _ z => nomatch z)
      have n14 := n13.trans n5
      refine ⟨acc, n5.h.k _ _ eD3 (fun _ z => nomatch z), ?_, F4, acc ++ [w], ⟨n14.f, ⟨fun p o e nn => ?_, fun t => tabs_upd (n14.h.t t) fun o' e z => ?_⟩, fun p o e => ?_, n14.nt, fun p o e => n14.n p o e⟩, fD4, upd_same, ?_⟩
      · have := hacc.length
        have h2 := outs_len keep f (xs.take i)
        rw [List.length_take] at h2
        rw [sizeLine_eq]; omega
      · rw [upd_ne (ne_of_none e hD)]; exact n14.h.k p o e nn
      · rw [n5.h.k _ _ eD3 (fun _ z => nomatch z)] at e
        cases e
        rcases z with ⟨_, z⟩ | ⟨_, _, z⟩ <;> cases z
      · rw [upd_ne (ne_of_none e fD4)]; exact n14.s p o e
      · rw [outs_take hx, if_pos hk]
        exact (IsL.mono n5.f _ hacc3).snoc i5
    | false =>
      refine iteF ⟨F3, acc, n13, fD3, eD3, ?_⟩
      rw [outs_take hx, if_neg (by rw [hk]; decide)]
      exact hacc3
  · have e : i = xs.length := by omega
    subst e
    refine .inl ⟨Y.stop F' H' n2.f n2.s, q D acc F' H' (n1.trans n2) (R1.grow n2) fD ?_ HD eD ?_⟩
    · exact R.base_fr HD
    · rw [List.take_length] at hacc
      exact hacc
theorem Nx.told {F H F1 H1 : Hp} {D : Addr} {o : HO} (n : Nx T F H F1 H1) (h1 : F1 D = none) (h2 : Fr H D) (h3 : H1 D = some o) (ho : ∀ ps, o ≠ .tbl ps := by intro ps z; cases z) : Nx T F H (upd F1 D o) H1 where
  f := n.f.trans (Ext.upd h1)
  h := n.h
  s := fun p u e => by
    by_cases q : p = D
    · subst q; rw [upd_same] at e; rw [h3]; exact e
    · rw [upd_ne q] at e; exact n.s p u e
  nt := fun p ps e => by
    by_cases q : p = D
    · subst q; rw [upd_same] at e; exact absurd (Option.some.inj e) (ho ps)
    · rw [upd_ne q] at e; exact n.nt p ps e
  n := fun p u e => by
    by_cases q : p = D
    · subst q; exact .inr (.inl h2)
    · rw [upd_ne q] at e; exact n.n p u e
/-- [elt for target in iter if ..] -/
theorem ev_lc {scope : Scope} (own : List (Str × Nat)) (t : Tg) (keep : D → Bool) (f : D → D) (hi : IV T X tg e ss xs) (ok : BlkOk X.N X.env.scope scope own)
    (hg : ∀ (s : Shared) (H : Hp) (C : Addr) (cl : List (Str × Addr)) (fp : List Addr), PG (X.blk s H scope (compEnvC scope cl C X.env) fp) tg (gOf X.K t))
    (ht : ∀ (s : Shared) (H : Hp) (C : Addr) (cl : List (Str × Addr)) (fp : List Addr) x, x ∈ xs → TsV T (X.blk s H scope (compEnvC scope cl C X.env) fp) ifs (t.put x (wipeS ss (own.map (·.2)))) (keep x))
    (he : ∀ (s : Shared) (H : Hp) (C : Addr) (cl : List (Str × Addr)) (fp : List Addr) x, x ∈ xs → keep x = true → EV T (X.blk s H scope (compEnvC scope cl C X.env) fp) elt (t.put x (wipeS ss (own.map (·.2)))) (f x))
    (hN : X.N.Nodup) (hfit : ∀ x ∈ xs, t.fits x = true) (hlen : xs.length ≤ 100000) (hv : own.map (·.2) ≠ [] := by decide) (hsl : ∀ j ∈ t.slots, j ∈ own.map (·.2) := by decide) (hc : X.calm = true := by rfl) (hs : ∀ x, foldedSetIterable e X.env x = pure x := by intro _; rfl) :
    EV T X (.ListComp elt [⟨tg, e, ifs, 0⟩] scope pos) ss (.lst (outs keep f xs)) := by
  refine EV.of (pe_lc (tt := tTv T X.K fun ss' b => ∃ x ∈ xs, ss' = t.put x (wipeS ss (own.map (·.2))) ∧ b = keep x) (te := tEv T X.K fun ss' d => ∃ x ∈ xs, keep x = true ∧ ss' = t.put x (wipeS ss (own.map (·.2))) ∧ d = f x) hc hN hi ok hg (fun s H C cl fp => pts_fam (X := X.blk s H scope (compEnvC scope cl C X.env) fp) (Rl := fun ss' b => ∃ x ∈ xs, ss' = t.put x (wipeS ss (own.map (·.2))) ∧ b = keep x) fun ss' b ⟨x, hx, e1, e2⟩ => by rw [e1, e2]; exact ht s H C cl fp x hx)
    (fun s H C cl fp => pe_fam (X := X.blk s H scope (compEnvC scope cl C X.env) fp) (Rl := fun ss' d => ∃ x ∈ xs, keep x = true ∧ ss' = t.put x (wipeS ss (own.map (·.2))) ∧ d = f x) fun ss' d ⟨x, hx, hk, e1, e2⟩ => by rw [e1, e2]; exact he s H C cl fp x hx hk) hs) fun B F H σ Q R q => ?_
  exact lc_go hv hsl hfit hlen R fun D vs' F1 H1 n1 R1 f1 b1 h1 d1 i1 => by
    have n2 := n1.told f1 h1 d1
    exact q _ _ H1 n2 (R.grow n2) ⟨D, vs', rfl, upd_same, IsL.mono (Ext.upd f1) _ i1⟩
end
end Fd

set_option Elab.async false
set_option linter.all false
set_option maxRecDepth 100000
set_option maxHeartbeats 2000000
/-! Fd4: defs by what they make of data; objects; built-in functions. -/
namespace Fd
open PySem PySem.Spec PyProof.Rows L2
/-! ### defs -/
/-- a def that hands back, of the data ds, the datum d, wherever pre ds d -/
def spD (T : List (Addr × Str)) (K : PySem.W.Frag) (n : Nat) (pre : List D → D → Prop) : Sp := fun vs H Q _ => ∃ F ds d, Ext F H ∧ (∀ p ps, F p ≠ some (.tbl ps)) ∧ LamX.Tabs T H ∧ IsL K F ds vs ∧ ds.length = n ∧ pre ds d ∧ ∀ v F1 H1, Nx T F H F1 H1 → Is K F1 d v → Q v H1
/-- the def under the module's name x (level k, n parameters) -/
def FD (T : List (Addr × Str)) (P : Program) (w : World) (K : PySem.W.Frag) (mg : Str → Option Value) (base : Heap) (x : Str) (n k : Nat) (pre : List D → D → Prop) : Prop :=
  ∃ f fd ps, mg x = some (.ref f) ∧ PySem.W.keepIn K (.ref f) = true ∧ Binds K fd ps [] ∧ ps.length = n ∧ FnOk P w K mg base CX0 k f fd ps (spD T K n pre)
def startS (N : List Str) (ds : List D) : SS := ds.map S.d ++ List.replicate (N.length - ds.length) S.no
abbrev bodyX (CX : CXT) (P : Program) (w : World) (K : PySem.W.Frag) (mg : Str → Option Value) (base : Heap) (N : List Str) (qual : Str) (st : Stmt) (f : Addr) (cdv : Value) (A : Around) (outer : List Env) (s : Shared) (H : Hp) (E : XK) : Cx :=
  (cxOf CX P w K mg base N qual (defScope st) f cdv A outer s H E).nox
section
variable {T : List (Addr × Str)} {P : Program} {w : World} {K : PySem.W.Frag} {mg : Str → Option Value} {base : Heap}
theorem start_slots {N : List Str} {F H : Hp} : ∀ {ds : List D} {vs : List V} (m : Nat) (i : Nat) (s : S) (o : Option V), IsL K F ds vs → (ds.map S.d ++ List.replicate m S.no)[i]? = some s → (vs.map some ++ List.replicate m none)[i]? = some o → SlotIs K F H s o
  | [], _, m, i, s, o, h, e1, e2 => by
    cases (show _ = _ from h)
    simp only [List.map_nil, List.nil_append] at e1 e2
    have : s = S.no := by
      rw [List.getElem?_replicate] at e1
      split at e1 <;> simp at e1
      exact e1.symm
    subst this
    exact True.intro
  | x :: xs, _, m, 0, s, o, h, e1, e2 => by
    obtain ⟨v, r, rfl, h1, _⟩ := h
    simp at e1 e2
    subst e1; subst e2
    exact ⟨v, rfl, h1⟩
  | x :: xs, _, m, i + 1, s, o, h, e1, e2 => by
    obtain ⟨v, r, rfl, _, h⟩ := h
    simp only [List.map_cons, List.cons_append, List.getElem?_cons_succ] at e1 e2
    exact start_slots (N := N) m i s o h e1 e2
theorem start_mine {ds : List D} {m i : Nat} {s : S} (h : (ds.map S.d ++ List.replicate m S.no)[i]? = some s) : s.mine = false := by
  have := List.mem_of_getElem? h
  rcases List.mem_append.mp this with q | q
  · obtain ⟨x, _, rfl⟩ := List.mem_map.mp q; rfl
  · rw [(List.mem_replicate.mp q).2]; rfl
theorem start_str {N : List Str} {F H : Hp} {ds : List D} {vs : List V} (x : Ext F H) (nt : ∀ p ps, F p ≠ some (.tbl ps)) (tb : LamX.Tabs T H) (h : IsL K F ds vs) : StR T K (F, H) F H (L2.start N vs) (startS N ds) where
  len := by unfold L2.start startS; simp [h.length]
  bF := fun _ _ h => h
  bH := .refl H
  sub := x
  nt := nt
  tb := tb
  new := fun p o e => .inl (by show F p ≠ none; rw [e]; exact fun z => nomatch z)
  slots := fun i s o e1 e2 => by
    unfold L2.start at e2
    unfold startS at e1
    rw [h.length] at e2
    exact start_slots (N := N) _ i s o h e1 e2
  own := fun i s p e1 m _ => by
    unfold startS at e1
    rw [start_mine e1] at m; cases m
  dis := fun i j s t p e1 _ m _ _ _ => by
    unfold startS at e1
    rw [start_mine e1] at m; cases m
theorem StR.back {B : Hp × Hp} {F H : Hp} {σ : L2.St} {ss : SS} (R : StR T K B F H σ ss) : Nx T B.1 B.2 F H := ⟨R.bF, R.bH, R.sub, fun p ps e => absurd e (R.nt p ps), fun p o e => R.new p o e⟩
/-- THE RULE for a def -/
theorem fd_ok {x qual : Str} {st : Stmt} {f : Addr} {fd : FuncData} {N ps : List Str} {k n : Nat} {pre : List D → D → Prop} (F : Fun K x qual st f fd) (S : FnScope N ps (defScope st)) (hn : ps.length = n)
    (h : ∀ (cdv : Value) (A : Around) (outer : List Env) (s : Shared) (H : Hp) (E : XK) (ds : List D) (d : D), Room k (A.deeper (envOfC qual (defScope st) s.heap.objs.size f cdv)) → ds.length = n → pre ds d →
      SVs T (bodyX CX0 P w K mg base N qual st f cdv A outer s H E) (defBody st) (startS N ds) { nx := fun _ => d = .non, rt := fun d' => d' = d }) : FnOk P w K mg base CX0 (k + 1) f fd ps (spD T K n pre) := by
  refine F.ok S (fun vs H Q E ⟨F, ds, d, _, _, _, i, l, _⟩ => by rw [i.length, l, hn]) (fun cdv A outer s H vs Q E hr hsp => ?_)
  obtain ⟨F0, ds, d, x, nt, tb, i, l, p, q⟩ := hsp
  refine ⟨_, h cdv A outer s H E ds d hr l p, (F0, H), F0, _, _, ⟨rfl, rfl⟩, start_str x nt tb i, fun ss' σ' F1 H1 e R1 => ?_, fun d' v ss' σ' F1 H1 e R1 i1 => ?_, fun _ _ _ _ z => z.elim, fun _ _ _ _ z => z.elim⟩
  · subst e
    exact q .non F1 H1 R1.back rfl
  · subst e
    exact q v F1 H1 R1.back i1
theorem FD.mk {x : Str} {f : Addr} {fd : FuncData} {ps : List Str} {n k : Nat} {pre : List D → D → Prop} (h1 : mg x = some (.ref f)) (h2 : PySem.W.keepIn K (.ref f) = true) (h3 : Binds K fd ps []) (h4 : ps.length = n) (h5 : FnOk P w K mg base CX0 k f fd ps (spD T K n pre)) : FD T P w K mg base x n k pre :=
  ⟨f, fd, ps, h1, h2, h3, h4, h5⟩
end
section
variable {T : List (Addr × Str)} {X : Cx} {ss : SS} {e a b c o : Expr} {es : List Expr} {d : D} {ds : List D} {x m : Str} {p pos apos : Pos} {n k : Nat} {pre : List D → D → Prop}
/-- f(..) -/
theorem ev_call (G : FD T X.prog X.w X.K X.mg X.base x n k pre) (hr : Room k X.A) (ha : EVs T X (e :: es) ss ds) (hp : pre ds d) (hn : ds.length = n := by rfl) (hg : Gl X x := by rfl) (hdb : (x == ("__debug__" : Str)) = false := by decide)
    (he : starEach (e :: es) X.env = (false, eval e X.env) :: starEach es X.env := by rfl) (hpl : (backTo pos (starEach es X.env)).any (·.1) = false := by rfl) : EV T X (.Call (.Name x p) (e :: es) [] pos) ss d := by
  obtain ⟨f, fd, ps, h1, h2, h3, h4, h5⟩ := G
  refine EV.of (pe_call h5 hr hg h1 h2 h3 .nil pass0 ha hdb he hpl) fun B F H σ Q R q => evs_go R fun vs F1 H1 n1 R1 i1 => ?_
  show spD T X.K n pre (vs ++ []) H1 Q E0
  rw [List.append_nil]
  exact ⟨F1, ds, d, R1.sub, R1.nt, R1.tb, i1, hn, hp, fun v F2 H2 n2 i2 => q v F2 H2 (n1.trans n2) (R1.grow n2) i2⟩
theorem ev_call0 (G : FD T X.prog X.w X.K X.mg X.base x 0 k pre) (hr : Room k X.A) (hp : pre [] d) (hg : Gl X x := by rfl) (hdb : (x == ("__debug__" : Str)) = false := by decide) : EV T X (.Call (.Name x p) [] [] pos) ss d := by
  obtain ⟨f, fd, ps, h1, h2, h3, h4, h5⟩ := G
  refine EV.of (pe_call0 h5 hr hg h1 h2 h3 .nil pass0 hdb) fun B F H σ Q R q => ?_
  show spD T X.K 0 pre ([] ++ []) H Q E0
  exact ⟨F, [], d, R.sub, R.nt, R.tb, rfl, rfl, hp, fun v F2 H2 n2 i2 => q v F2 H2 n2 (R.grow n2) i2⟩
/-- o.f -/
theorem ev_fld {C : Addr} {ns : List Str} {xs : List D} {f : Str} (he : EV T X o ss (.ins C ns xs)) (cl : Cls X.K C) (na : NoAttr X.K C f) (i : Nat) (hn : ns[i]? = some f) (hx : xs[i]? = some d) (nd : ns.Nodup)
    (hb : attributeBase o f X.env (eval o X.env) = eval o X.env := by rfl) : EV T X (.Attribute o f pos) ss d :=
  EV.of (pe_fld he hb) fun B F H σ Q R q => ev_go R fun v F1 H1 n1 R1 i1 => by
    obtain ⟨a, dx, fs, rfl, e1, e2, e3⟩ := i1
    obtain ⟨w, hw, iw⟩ := IsL.get' e3 hx
    refine ⟨a, C, dx, fs, w, rfl, R1.sub _ _ e1, cl, na, ?_, q w F1 H1 n1 R1 iw⟩
    have look : ∀ {l : List (Str × V)} {j : Nat}, (l.map (·.1)).Nodup → (l.map (·.1))[j]? = some f → (l.map (·.2))[j]? = some w → l.lookup f = some w := by
      intro l
      induction l with
      | nil => intro j _ h; simp at h
      | cons y r ih =>
        intro j nd h1 h2
        cases j with
        | zero =>
          simp at h1 h2
          subst h1; subst h2
          simp [List.lookup]
        | succ j =>
          simp at h1 h2
          have nd' : (y.1 :: r.map (·.1)).Nodup := nd
          obtain ⟨n1, n2⟩ := List.nodup_cons.mp nd'
          have ne : ¬ f = y.1 := fun z => n1 (by rw [← z]; exact List.mem_of_getElem? (l := r.map (·.1)) (by simpa using h1))
          have hb : (f == y.1) = false := beq_eq_false_iff_ne.mpr ne
          simp only [List.lookup, hb]
          exact ih n2 (by simpa using h1) (by simpa using h2)
    subst e2
    exact look nd hn hw
/-! built-in functions -/
theorem ev_blt {id : String} {r : List V → Hp → VK → Prop} (hc : CallR X (.builtin id) r) (ha : EVs T X (e :: es) ss ds) (hm : X.mg x = none) (hv : bootBuiltins x = some (.builtin id))
    (k : ∀ B F H σ vs Q, StR T X.K B F H σ ss → IsL X.K F ds vs → (∀ z F1 H1, Nx T F H F1 H1 → StR T X.K B F1 H1 σ ss → Is X.K F1 d z → Q z H1) → r vs H Q) (hg : Gl X x := by rfl) (hn : x ≠ "__name__" := by decide) (hdb : (x == ("__debug__" : Str)) = false := by decide)
    (he : starEach (e :: es) X.env = (false, eval e X.env) :: starEach es X.env := by rfl) (hpl : (backTo pos (starEach es X.env)).any (·.1) = false := by rfl) : EV T X (.Call (.Name x p) (e :: es) [] pos) ss d :=
  EV.of (pe_callB hc hg hm hv ha hn hdb he hpl) fun B F H σ Q R q => evs_go R fun vs F1 H1 n1 R1 i1 => k B F1 H1 σ vs Q R1 i1 fun z F2 H2 n2 R2 i2 => q z F2 H2 (n1.trans n2) R2 i2
theorem ev_bty {tn : String} {r : List V → Hp → VK → Prop} (hc : CallR X (.type tn) r) (ha : EVs T X (e :: es) ss ds) (hm : X.mg x = none) (hv : bootBuiltins x = some (.type tn))
    (k : ∀ B F H σ vs Q, StR T X.K B F H σ ss → IsL X.K F ds vs → (∀ z F1 H1, Nx T F H F1 H1 → StR T X.K B F1 H1 σ ss → Is X.K F1 d z → Q z H1) → r vs H Q) (hg : Gl X x := by rfl) (hn : x ≠ "__name__" := by decide) (hdb : (x == ("__debug__" : Str)) = false := by decide)
    (he : starEach (e :: es) X.env = (false, eval e X.env) :: starEach es X.env := by rfl) (hpl : (backTo pos (starEach es X.env)).any (·.1) = false := by rfl) : EV T X (.Call (.Name x p) (e :: es) [] pos) ss d :=
  EV.of (pe_callTy hc hg hm hv ha hn hdb he hpl) fun B F H σ Q R q => evs_go R fun vs F1 H1 n1 R1 i1 => k B F1 H1 σ vs Q R1 i1 fun z F2 H2 n2 R2 i2 => q z F2 H2 (n1.trans n2) R2 i2
/-- f(..), f a module's name for a built-in function -/
theorem ev_blf {id : String} {r : List V → Hp → VK → Prop} (hc : CallR X (.builtin id) r) (ha : EVs T X (e :: es) ss ds) (hm : X.mg x = some (.builtin id))
    (k : ∀ B F H σ vs Q, StR T X.K B F H σ ss → IsL X.K F ds vs → (∀ z F1 H1, Nx T F H F1 H1 → StR T X.K B F1 H1 σ ss → Is X.K F1 d z → Q z H1) → r vs H Q) (hg : Gl X x := by rfl) (hdb : (x == ("__debug__" : Str)) = false := by decide)
    (he : starEach (e :: es) X.env = (false, eval e X.env) :: starEach es X.env := by rfl) (hpl : (backTo pos (starEach es X.env)).any (·.1) = false := by rfl) : EV T X (.Call (.Name x p) (e :: es) [] pos) ss d :=
  EV.of (pe_callBfun hc hg hm ha hdb he hpl) fun B F H σ Q R q => evs_go R fun vs F1 H1 n1 R1 i1 => k B F1 H1 σ vs Q R1 i1 fun z F2 H2 n2 R2 i2 => q z F2 H2 (n1.trans n2) R2 i2
theorem isL1 {K : PySem.W.Frag} {F : Hp} {x : D} {vs : List V} (h : IsL K F [x] vs) : ∃ v, vs = [v] ∧ Is K F x v := by
  obtain ⟨v, r, rfl, h1, h2⟩ := h
  cases (show _ = _ from h2)
  exact ⟨v, rfl, h1⟩
theorem isL2 {K : PySem.W.Frag} {F : Hp} {x y : D} {vs : List V} (h : IsL K F [x, y] vs) : ∃ v w, vs = [v, w] ∧ Is K F x v ∧ Is K F y w := by
  obtain ⟨v, r, rfl, h1, h2⟩ := h
  obtain ⟨w, rfl, h3⟩ := isL1 h2
  exact ⟨v, w, rfl, h1, h3⟩
theorem ev_abs {i : Int} (ha : EV T X e ss (.int i)) (hm : X.mg "abs" = none) (hg : Gl X "abs" := by rfl) (he : starEach [e] X.env = [(false, eval e X.env)] := by rfl) : EV T X (.Call (.Name "abs" p) [e] [] pos) ss (.int (if i < 0 then -i else i)) :=
  ev_blt call_abs (evs_cons ha evs_nil he) hm (by decide +kernel) (fun B F H σ vs Q R i1 q => by
    obtain ⟨v, rfl, h⟩ := isL1 i1
    cases h
    exact ⟨i, rfl, q _ F H R.nx R rfl⟩) hg (he := he)
theorem ev_int1 {i : Int} (ha : EV T X e ss (.int i)) (hm : X.mg "int" = none) (hg : Gl X "int" := by rfl) (he : starEach [e] X.env = [(false, eval e X.env)] := by rfl) : EV T X (.Call (.Name "int" p) [e] [] pos) ss (.int i) :=
  ev_bty call_int1 (evs_cons ha evs_nil he) hm (by decide +kernel) (fun B F H σ vs Q R i1 q => by
    obtain ⟨v, rfl, h⟩ := isL1 i1
    cases h
    exact .inl ⟨i, rfl, q _ F H R.nx R rfl⟩) hg (he := he)
theorem ev_strI {i : Int} (hz : i.natAbs.log2 < 1920) (ha : EV T X e ss (.int i)) (hm : X.mg "str" = none) (hg : Gl X "str" := by rfl) (he : starEach [e] X.env = [(false, eval e X.env)] := by rfl) : EV T X (.Call (.Name "str" p) [e] [] pos) ss (.str (toString i)) :=
  ev_bty call_str_int (evs_cons ha evs_nil he) hm (by decide +kernel) (fun B F H σ vs Q R i1 q => by
    obtain ⟨v, rfl, h⟩ := isL1 i1
    cases h
    exact ⟨i, rfl, hz, q _ F H R.nx R rfl⟩) hg (he := he)
theorem ev_gcd {i j : Int} (ha : EV T X a ss (.int i)) (hb : EV T X b ss (.int j)) (hm : X.mg x = some (.builtin "math.gcd")) (hg : Gl X x := by rfl) (hdb : (x == ("__debug__" : Str)) = false := by decide) (he : starEach [a, b] X.env = (false, eval a X.env) :: starEach [b] X.env := by rfl) (he2 : starEach [b] X.env = [(false, eval b X.env)] := by rfl) (hpl : (backTo pos (starEach [b] X.env)).any (·.1) = false := by rfl) :
    EV T X (.Call (.Name x p) [a, b] [] pos) ss (.int ((Nat.gcd i.natAbs j.natAbs : Nat) : Int)) :=
  ev_blf cr_gcd (evs_cons ha (evs_cons hb evs_nil he2) he) hm (fun B F H σ vs Q R i1 q => by
    obtain ⟨v, w, rfl, h, h2⟩ := isL2 i1
    cases h; cases h2
    exact ⟨i, j, rfl, q _ F H R.nx R rfl⟩) hg hdb he hpl
/-- len of a list, a tuple, a text -/
def D.len : D → Option Nat
  | .lst xs => some xs.length
  | .rdl xs => some xs.length
  | .tup xs => some xs.length
  | .str x => if x.length ≤ sizeLine then some x.length else none
  | _ => none
theorem ev_len {y : D} {n : Nat} (h : y.len = some n) (ha : EV T X e ss y) (hm : X.mg "len" = none) (hg : Gl X "len" := by rfl) (he : starEach [e] X.env = [(false, eval e X.env)] := by rfl) : EV T X (.Call (.Name "len" p) [e] [] pos) ss (.int n) :=
  ev_blt call_len (evs_cons ha evs_nil he) hm PySem.boot_len (fun B F H σ vs Q R i1 q => by
    obtain ⟨v, rfl, i⟩ := isL1 i1
    refine ⟨v, n, rfl, ?_, q _ F H R.nx R rfl⟩
    cases y with
    | lst xs =>
      obtain ⟨a, us, rfl, e1, e2⟩ := i
      have : xs.length = n := Option.some.inj h
      exact .inl ⟨us, SqL.of (R.sub _ _ e1), by rw [e2.length, this]⟩
    | rdl xs =>
      obtain ⟨a, us, rfl, e1, e2⟩ := i
      have : xs.length = n := Option.some.inj h
      exact .inl ⟨us, ext_seqL R.sub e1, by rw [e2.length, this]⟩
    | tup xs =>
      obtain ⟨a, us, rfl, e1, e2⟩ := i
      have : xs.length = n := Option.some.inj h
      exact .inr ⟨us, ext_seqT R.sub e1, by rw [e2.length, this]⟩
    | str z =>
      cases i
      have h' : (if z.length ≤ sizeLine then some z.length else none) = some n := h
      split at h'
      · cases h'; exact ⟨by assumption, rfl⟩
      · cases h'
    | _ => cases h) hg (he := he)
/-- % and // by great divisors, * of great ints -/
theorem ev_mul {i j : Int} (hc : CMul i j) (ha : EV T X a ss (.int i)) (hb : EV T X b ss (.int j)) : EV T X (.BinOp a .Mult b pos) ss (.int (i * j)) :=
  ev_op op_mul ha hb fun B F H σ v u Q R i1 i2 q => ⟨i, j, i1, i2, hc, q _ F H R.nx R rfl⟩
theorem ev_mulW {i j : Int} (hc : CMulW i j) (ha : EV T X a ss (.int i)) (hb : EV T X b ss (.int j)) : EV T X (.BinOp a .Mult b pos) ss (.int (i * j)) :=
  ev_op op_mulW ha hb fun B F H σ v u Q R i1 i2 q => ⟨i, j, i1, i2, hc, q _ F H R.nx R rfl⟩
theorem ev_fdivW {i j : Int} (hc : CDivW i j) (ha : EV T X a ss (.int i)) (hb : EV T X b ss (.int j)) : EV T X (.BinOp a .FloorDiv b pos) ss (.int (i / j)) :=
  ev_op op_fdivW ha hb fun B F H σ v u Q R i1 i2 q => ⟨i, j, i1, i2, hc, q _ F H R.nx R rfl⟩
/-! a if t else b, and, or -/
theorem ev_if {t : Bool} (hc : TV T X c ss t) (h1 : t = true → EV T X a ss d) (h2 : t = false → EV T X b ss d) : EV T X (.IfExp c a b pos) ss d := by
  have p1 : PE X a (tEv T X.K fun ss' d' => EV T X a ss' d') := pe_fam fun _ _ h => h
  have p2 : PE X b (tEv T X.K fun ss' d' => EV T X b ss' d') := pe_fam fun _ _ h => h
  refine EV.of (pe_ifExp hc p1 p2) fun B F H σ Q R q => tv_go R fun F1 H1 n1 R1 => ?_
  cases t with
  | true => exact iteT ⟨B, F1, ss, d, h1 rfl, R1, fun v F2 H2 n2 R2 i2 => q v F2 H2 (n1.trans n2) R2 i2⟩
  | false => exact iteF ⟨B, F1, ss, d, h2 rfl, R1, fun v F2 H2 n2 R2 i2 => q v F2 H2 (n1.trans n2) R2 i2⟩
theorem tv_if {t u : Bool} {e : Expr} (h : EV T X (.IfExp c a b pos) ss (.bl u)) (he : ∀ whole, isTrue (.IfExp c a b pos) X.env whole = (do let v ← whole; standAt (Expr.IfExp c a b pos).pos; holding [v] (truthy v)) := by intro _; rfl) : TV T X (.IfExp c a b pos) ss u := tv_of h he
theorem ev_not {t : Bool} (h : EV T X a ss (.bl t)) : EV T X (.UnaryOp .Not a pos) ss (.bl (!t)) :=
  EV.of (pe_not h) fun B F H σ Q R q => ev_go R fun v F1 H1 n1 R1 i1 => ⟨t, i1, q _ F1 H1 n1 R1 rfl⟩
theorem ev_one {op} {d : D} (h : EV T X a ss d) : EV T X (.BoolOp op [a] pos) ss d := pe_one h
theorem ev_andB {t u : Bool} (h : EV T X a ss (.bl t)) (g : t = true → EV T X (.BoolOp .And (b :: es) pos) ss (.bl u)) : EV T X (.BoolOp .And (a :: b :: es) pos) ss (.bl (t && u)) := by
  have p2 : PE X (.BoolOp .And (b :: es) pos) (tEv T X.K fun ss' d' => EV T X (.BoolOp .And (b :: es) pos) ss' d') := pe_fam fun _ _ h => h
  refine EV.of (pe_and h p2) fun B F H σ Q R q => ev_go R fun v F1 H1 n1 R1 i1 => ⟨t, i1, ?_⟩
  cases t with
  | true => exact iteT ⟨B, F1, ss, .bl u, g rfl, R1, fun v F2 H2 n2 R2 i2 => q v F2 H2 (n1.trans n2) R2 i2⟩
  | false => exact iteF (q _ F1 H1 n1 R1 rfl)
theorem ev_orB {t u : Bool} (h : EV T X a ss (.bl t)) (g : t = false → EV T X (.BoolOp .Or (b :: es) pos) ss (.bl u)) : EV T X (.BoolOp .Or (a :: b :: es) pos) ss (.bl (t || u)) := by
  have p2 : PE X (.BoolOp .Or (b :: es) pos) (tEv T X.K fun ss' d' => EV T X (.BoolOp .Or (b :: es) pos) ss' d') := pe_fam fun _ _ h => h
  refine EV.of (pe_or h p2) fun B F H σ Q R q => ev_go R fun v F1 H1 n1 R1 i1 => ⟨t, i1, ?_⟩
  cases t with
  | true => exact iteT (q _ F1 H1 n1 R1 rfl)
  | false => exact iteF ⟨B, F1, ss, .bl u, g rfl, R1, fun v F2 H2 n2 R2 i2 => q v F2 H2 (n1.trans n2) R2 i2⟩
theorem tw_andB {t u : Bool} (h : TV T X a ss t) (g : t = true → TW T X (.BoolOp .And (b :: es) pos) ss u) : TW T X (.BoolOp .And (a :: b :: es) pos) ss (t && u) := by
  have p2 : PW X (.BoolOp .And (b :: es) pos) (tTv T X.K fun ss' d' => TW T X (.BoolOp .And (b :: es) pos) ss' d') := ⟨fun wh pins s σ H Q I ⟨B, F, ss, d, r, R, k⟩ => r.run wh pins s σ H Q I ⟨B, F, ss, d, ⟨rfl, rfl⟩, R, k⟩⟩
  refine PW.imp (pw_and h p2) fun σ H Q ⟨B, F, ss', d', ⟨e1, e2⟩, R, q⟩ => ?_
  subst e1; subst e2
  refine tv_go R fun F1 H1 n1 R1 => ?_
  cases t with
  | true => exact iteT ⟨B, F1, _, u, g rfl, R1, fun F2 H2 n2 R2 => q F2 H2 (n1.trans n2) R2⟩
  | false => exact iteF (q F1 H1 n1 R1)
theorem tw_orB {t u : Bool} (h : TV T X a ss t) (g : t = false → TW T X (.BoolOp .Or (b :: es) pos) ss u) : TW T X (.BoolOp .Or (a :: b :: es) pos) ss (t || u) := by
  have p2 : PW X (.BoolOp .Or (b :: es) pos) (tTv T X.K fun ss' d' => TW T X (.BoolOp .Or (b :: es) pos) ss' d') := ⟨fun wh pins s σ H Q I ⟨B, F, ss, d, r, R, k⟩ => r.run wh pins s σ H Q I ⟨B, F, ss, d, ⟨rfl, rfl⟩, R, k⟩⟩
  refine PW.imp (pw_or h p2) fun σ H Q ⟨B, F, ss', d', ⟨e1, e2⟩, R, q⟩ => ?_
  subst e1; subst e2
  refine tv_go R fun F1 H1 n1 R1 => ?_
  cases t with
  | true => exact iteT (q F1 H1 n1 R1)
  | false => exact iteF ⟨B, F1, _, u, g rfl, R1, fun F2 H2 n2 R2 => q F2 H2 (n1.trans n2) R2⟩
theorem EV.cast {d d' : D} (h : EV T X e ss d) (q : d = d') : EV T X e ss d' := q ▸ h
theorem TV.cast {t u : Bool} (h : TV T X e ss t) (q : t = u) : TV T X e ss u := q ▸ h
end
end Fd

set_option Elab.async false
set_option linter.all false
set_option maxRecDepth 100000
set_option maxHeartbeats 4000000
/-! Fd5: operators of own classes, by the library's own terms: an int to the left, ==, !=. -/
namespace FdS
open PySem PySem.Spec PyProof.Rows PySem.W
/-- an int's method that declines an instance -/
abbrev Decl (x C dx : Addr) : PySem.Spec := fun _ R s => s.heap.get? x = some (PySem.W.instObj C dx) ∧ R (.ok (.ret Value.notImplemented)) s
theorem int_add_inst (a : Int) (t : Tok) (x C dx : Addr) : Meets (Builtin.«int.__add__» ⟨[.int a t, .ref x], []⟩) (Decl x C dx) :=
  .of_wp fun prog w A R s h => by obtain ⟨hp, g, d, tk, os⟩ := s; obtain ⟨hl, h⟩ := h; simp only [PySem.W.instObj] at hl; wp_walk; exact ⟨_, rfl, h⟩
theorem int_sub_inst (a : Int) (t : Tok) (x C dx : Addr) : Meets (Builtin.«int.__sub__» ⟨[.int a t, .ref x], []⟩) (Decl x C dx) :=
  .of_wp fun prog w A R s h => by obtain ⟨hp, g, d, tk, os⟩ := s; obtain ⟨hl, h⟩ := h; simp only [PySem.W.instObj] at hl; wp_walk; exact ⟨_, rfl, h⟩
theorem int_mul_inst (a : Int) (t : Tok) (x C dx : Addr) : Meets (Builtin.«int.__mul__» ⟨[.int a t, .ref x], []⟩) (Decl x C dx) :=
  .of_wp fun prog w A R s h => by obtain ⟨hp, g, d, tk, os⟩ := s; obtain ⟨hl, h⟩ := h; simp only [PySem.W.instObj] at hl; wp_walk; exact ⟨_, rfl, h⟩
theorem int_eq_inst (a : Int) (t : Tok) (x C dx : Addr) : Meets (Builtin.«int.__eq__» ⟨[.int a t, .ref x], []⟩) (Decl x C dx) :=
  .of_wp fun prog w A R s h => by obtain ⟨hp, g, d, tk, os⟩ := s; obtain ⟨hl, h⟩ := h; simp only [PySem.W.instObj] at hl; wp_walk; exact ⟨_, rfl, h⟩
theorem int_ne_inst (a : Int) (t : Tok) (x C dx : Addr) : Meets (Builtin.«int.__ne__» ⟨[.int a t, .ref x], []⟩) (Decl x C dx) :=
  .of_wp fun prog w A R s h => by obtain ⟨hp, g, d, tk, os⟩ := s; obtain ⟨hl, h⟩ := h; simp only [PySem.W.instObj] at hl; wp_walk; exact ⟨_, rfl, h⟩
section
variable {prog : Program} {w : World} {A : Around} {E : Value → Shared → Prop} {s : Shared} {K : Frag} {x C dx f f0 : Addr} {od : Option Obj}
/-- the left int declines, the instance's reflected method gives -/
theorem bin_int {op : Operator} {id : String} {B : Builtin} {i : Int} {t : Tok} {Q : Value → Shared → Prop} (X : K.In s.heap) (I : InstAt s.heap x (PySem.W.instObj C dx) C od) (slot : Slot "int" (PySem.dunder op.info.2) id) (entry : entryFor table id = some B) (args : argsOk id ⟨[.int i t, .ref x], []⟩)
    (g : Meets (B ⟨[.int i t, .ref x], []⟩) (Decl x C dx)) (fills : fillsNumberSlot (.type "int") op.info.2 = pure true) (hc : selfFirst K C = true) (hs : findIn K (.ref C) (PySem.dunder op.info.2) = some (some (.ref f0)))
    (hr : findIn K (.ref C) (dunderR op.info.2) = some (some (.ref f))) (hf : isFn K (.ref f) = true) (hsub : subIn K (.ref C) (.type "int") = some false)
    (h : wpAny (model prog w) A (call (.ref f) [.ref x, .int i t]) (PySem.W.CmpBack Q) E s) : wpAny (model prog w) A (binaryOp op (.int i t) (.ref x)) Q E s := by
  obtain ⟨cd, rest, hcd, hm⟩ := ksp_first hc
  rcases hi : op.info with ⟨sym, nm'⟩
  rw [hi] at hs hr fills slot
  dsimp only at hs hr fills slot
  have one := ksp_try (name := dunderR nm') X I hr hf h
  have hx : s.heap.get? x = some (PySem.W.instObj C dx) := I.1
  have L3 : Looks (model prog w) s.heap (fillsNumberSlot (.ref C) nm') true := fills_K X hcd hm hs
  simp only [binaryOp, hi]
  refine wpAny_holding (wpAny_bind ?_)
  unfold binaryOp1
  refine wpAny_bind (wpAny_typeOf (typeIs_int s i t) (wpAny_bind (I.type.here (wpAny_bind (wpAny_of_eq fills ?_)))))
  have hne : (Value.type "int" == Value.ref C) = false := Bool.eq_false_iff.mpr fun q => by cases beq_iff_eq.mp q
  simp only [hne, Bool.false_eq_true, if_false]
  refine wpAny_bind (L3.here ?_)
  simp only [Bool.and_self, if_true]
  refine wpAny_bind ((looks_subIn X hsub).here ?_)
  have hpy : numberSlotInPython (.type "int") nm' = pure false := rfl
  simp only [Bool.false_eq_true, if_false, pure_bind, Bool.not_false, Bool.and_self, if_true, hpy]
  refine wpAny_bind (wpAny_tryMethod_declines (typeIs_int s i t) slot (call_meets slot (typeIs_int s i t) entry args g ⟨hx, rfl, ?_⟩))
  simp only []
  refine wpAny_bind (wpAny_mono one (fun r s' hr' => ?_) fun _ _ e => e)
  obtain ⟨v, rfl, hq⟩ := hr'
  exact wpAny_bind (wpAny_rule (wpAny_pure (wpAny_pure hq)))
/-- tryCompare by an own method -/
theorem try_own {b : Value} {name : Str} {Q : Value → Shared → Prop} {ox : Obj} (X : K.In s.heap) (I : InstAt s.heap x ox C od) (hs : findIn K (.ref C) name = some (some (.ref f))) (hf : isFn K (.ref f) = true)
    (h : wpAny (model prog w) A (call (.ref f) [.ref x, b]) (PySem.W.CmpBack Q) E s) : wpAny (model prog w) A (tryCompare (.ref x) name b) (fun r s' => ∃ v, r = some v ∧ Q v s') E s := by
  unfold tryCompare
  refine wpAny_bind (ifBound_K X I hs hf (wpAny_mono h (fun v s' hv => ?_) fun _ _ e => e))
  cases v <;> first | exact hv.elim | exact wpAny_pure ⟨_, rfl, hv⟩
/-- tryCompare "__ne__" by object.__ne__ over an own __eq__ that gives a bool -/
theorem try_ne {b : Value} {Q : Value → Shared → Prop} {ox : Obj} (hu : A.units + 1 < cLine) (X : K.In s.heap) (I : InstAt s.heap x ox C od) (hn : findIn K (.ref C) "__ne__" = some (some (.builtin "object.__ne__"))) (hob : subIn K (.ref C) (.type "object") = some true)
    (hs : findIn K (.ref C) "__eq__" = some (some (.ref f))) (hf : isFn K (.ref f) = true)
    (h : wpAny (model prog w) A.in1 (call (.ref f) [.ref x, b]) (fun v s' => ∃ k, v = .bool k ∧ Q (.bool (!k)) s') E s) : wpAny (model prog w) A (tryCompare (.ref x) "__ne__" b) (fun r s' => ∃ v, r = some v ∧ Q v s') E s := by
  unfold tryCompare
  refine wpAny_bind ?_
  simp only [callSpecialIfBound?, bindSpecialIfBound?]
  refine wpAny_holding (wpAny_bind (wpAny_bind (wpAny_bind (I.type.here ((looks_findIn X hn).here ?_)))))
  have run : wpAny (model prog w) A (call (.builtin "object.__ne__") ([.ref x] ++ [b])) (fun v s' => ∃ k, v = .bool k ∧ Q (.bool k) s') E s := by
    refine wpAny_call (codeAny_call_builtin F.cmp_object.ne.plain F.cmpEntry_ne (check_slot F.cmpKind_ne F.cmpSplit_ne (I.type.andThen (looks_subIn X hob)) (F.cmpArgs_ne _ _) ?_))
    show wpAny _ A.in1 (Builtin.«object.__ne__» ⟨[.ref x, b], []⟩) _ _ s
    unfold Builtin.«object.__ne__»
    refine wpAny_bind (wpAny_of_eq (a := (.ref x, [b])) rfl ?_)
    refine wpAny_bind (wpAny_cRoomFor hu ?_)
    refine wpAny_bind (ifBound_K X I hs hf (wpAny_mono h (fun v s' hv => ?_) fun _ _ e => e))
    obtain ⟨k, rfl, hq⟩ := hv
    refine wpAny_bind (wpAny_truthy_bool ?_)
    exact wpAny_pure ⟨_, rfl, hq⟩
  have fin : wpAny (model prog w) A (call (.builtin "object.__ne__") ([.ref x] ++ [b]) >>= fun v => pure (some v)) (fun a s₁ => wpAny (model prog w) A (match a with | some .notImplemented | none => pure none | some v => pure (some v)) (fun r s' => ∃ v, r = some v ∧ Q v s') E s₁) E s :=
    wpAny_bind (wpAny_mono run (fun v s' hv => by obtain ⟨k, rfl, hq⟩ := hv; exact wpAny_pure (wpAny_pure ⟨_, rfl, hq⟩)) fun _ _ e => e)
  simp only [F.cmp_object.ne.bind]
  refine wpAny_bind (wpAny_askSetting (wpAny_ite ?_))
  split
  · exact wpAny_bind (wpAny_pure (wpAny_pure fin))
  · exact wpAny_tryCatch (wpAny_bind (wpAny_pure (wpAny_pure fin)))
/-- x op b, the left an instance: its own answer is taken -/
theorem cmp_left {op : CmpOp} {b tb : Value} {Q : Value → Shared → Prop} {ox : Obj} (hu : A.units < cLine) (X : K.In s.heap) (I : InstAt s.heap x ox C od) (hb : Looks (model prog w) s.heap (typeOf b) tb) (hn : notFirst K C tb = true)
    (one : wpAny (model prog w) A (tryCompare (.ref x) (cmpInfo op).2.1 b) (fun r s' => ∃ v, r = some v ∧ Q v s') E s) : wpAny (model prog w) A (richCompare op (.ref x) b) Q E s := by
  unfold richCompare
  simp only [oneThing_ref]
  refine wpAny_holding (wpAny_bind (wpAny_cRoomFor hu ?_))
  refine wpAny_bind (I.type.here (wpAny_bind (hb.here ?_)))
  split
  · rename_i q
    have e : subIn K tb (.ref C) = some false := by
      rcases Bool.or_eq_true_iff.mp hn with e | e
      · rw [beq_iff_eq.mp e] at q; simp at q
      · exact beq_iff_eq.mp e
    refine wpAny_bind ((looks_subIn X e).here ?_)
    simp only [Bool.false_eq_true, if_false]
    refine wpAny_bind (wpAny_mono one (fun r s' z => ?_) fun _ _ e => e)
    obtain ⟨v, rfl, hq⟩ := z
    exact wpAny_pure hq
  · refine wpAny_bind (wpAny_pure ?_)
    simp only [Bool.false_eq_true, if_false]
    refine wpAny_bind (wpAny_mono one (fun r s' z => ?_) fun _ _ e => e)
    obtain ⟨v, rfl, hq⟩ := z
    exact wpAny_pure hq
/-- i op x, the right an instance: the int declines -/
theorem cmp_int {op : CmpOp} {id : String} {B : Builtin} {i : Int} {t : Tok} {Q : Value → Shared → Prop} (hu : A.units < cLine) (X : K.In s.heap) (I : InstAt s.heap x (PySem.W.instObj C dx) C od) (slot : Slot "int" (cmpInfo op).2.1 id) (entry : entryFor table id = some B) (args : argsOk id ⟨[.int i t, .ref x], []⟩)
    (g : Meets (B ⟨[.int i t, .ref x], []⟩) (Decl x C dx)) (hsub : subIn K (.ref C) (.type "int") = some false)
    (one : wpAny (model prog w) A (tryCompare (.ref x) (cmpInfo op).2.2 (.int i t)) (fun r s' => ∃ v, r = some v ∧ Q v s') E s) : wpAny (model prog w) A (richCompare op (.int i t) (.ref x)) Q E s := by
  have hx : s.heap.get? x = some (PySem.W.instObj C dx) := I.1
  unfold richCompare
  have h1 : oneThing? op (.int i t) (.ref x) = none := rfl
  simp only [h1]
  refine wpAny_holding (wpAny_bind (wpAny_cRoomFor hu ?_))
  refine wpAny_bind (wpAny_typeOf (typeIs_int s i t) (wpAny_bind (I.type.here ?_)))
  have hne : (Value.type "int" != Value.ref C) = true := rfl
  simp only [hne, if_true]
  refine wpAny_bind ((looks_subIn X hsub).here ?_)
  simp only [Bool.false_eq_true, if_false, Bool.not_false, if_true]
  refine wpAny_bind (wpAny_tryCompare_declines (typeIs_int s i t) slot (call_meets slot (typeIs_int s i t) entry args g ⟨hx, rfl, ?_⟩))
  refine wpAny_bind (wpAny_mono one (fun r s' z => ?_) fun _ _ e => e)
  obtain ⟨v, rfl, hq⟩ := z
  exact wpAny_pure hq
end
end FdS

set_option Elab.async false
set_option linter.all false
set_option maxRecDepth 100000
set_option maxHeartbeats 4000000
/-! Fd6: operators of own classes on data. -/
namespace Fd
open PySem PySem.Spec PyProof.Rows L2
/-- a two-place operation on data -/
def rD (T : List (Addr × Str)) (K : PySem.W.Frag) (pre : D → D → D → Prop) : R2 := fun x y H Q => ∃ F dx dy d, Ext F H ∧ (∀ p ps, F p ≠ some (.tbl ps)) ∧ LamX.Tabs T H ∧ Is K F dx x ∧ Is K F dy y ∧ pre dx dy d ∧ ∀ v F1 H1, Nx T F H F1 H1 → Is K F1 d v → Q v H1
def OpD (T : List (Addr × Str)) (X : Cx) (f : Value → Value → Sem Value) (pre : D → D → D → Prop) : Prop := OpR X f (rD T X.K pre)
section
variable {T : List (Addr × Str)} {X : Cx} {ss : SS} {a b : Expr} {pos : Pos} {x y d : D} {pre pre' : D → D → D → Prop}
theorem OpD.or {f : Value → Value → Sem Value} (h : OpD T X f pre) (h' : OpD T X f pre') : OpD T X f (fun x y d => pre x y d ∨ pre' x y d) := fun pins s σ H x y v u Q I rx ry ⟨F, dx, dy, d, e, nt, tbs, i1, i2, p, q⟩ => by
  rcases p with p | p
  · exact h pins s σ H x y v u Q I rx ry ⟨F, dx, dy, d, e, nt, tbs, i1, i2, p, q⟩
  · exact h' pins s σ H x y v u Q I rx ry ⟨F, dx, dy, d, e, nt, tbs, i1, i2, p, q⟩
theorem ev_opD {op : Operator} (ho : OpD T X (binaryOp op) pre) (ha : EV T X a ss x) (hb : EV T X b ss y) (hp : pre x y d) : EV T X (.BinOp a op b pos) ss d :=
  ev_op ho ha hb fun B F H σ v u Q R i1 i2 q => ⟨F, x, y, d, R.sub, R.nt, R.tb, i1, i2, hp, fun z F1 H1 n1 iz => q z F1 H1 n1 (R.grow n1) iz⟩
theorem ev_cmpD {op : CmpOp} (ho : OpD T X (compareOp op) pre) (ha : EV T X a ss x) (hb : EV T X b ss y) (hp : pre x y d) (h1 : behindInMarks op b = false := by first | exact nomark _ | rfl) : EV T X (.Compare a [op] [b] pos) ss d :=
  ev_cmp ho ha hb (fun B F H σ v u Q R i1 i2 q => ⟨F, x, y, d, R.sub, R.nt, R.tb, i1, i2, hp, fun z F1 H1 n1 iz => q z F1 H1 n1 (R.grow n1) iz⟩) h1
theorem tv_cmpD {op : CmpOp} {k : Bool} (ho : OpD T X (compareOp op) pre) (ha : EV T X a ss x) (hb : EV T X b ss y) (hp : pre x y (.bl k)) (h1 : behindInMarks op b = false := by first | exact nomark _ | rfl) : TV T X (.Compare a [op] [b] pos) ss k :=
  tv_cmp ho ha hb (fun B F H σ v u Q R i1 i2 q => ⟨F, x, y, .bl k, R.sub, R.nt, R.tb, i1, i2, hp, fun z F1 H1 n1 iz => by cases iz; exact q F1 H1 n1 (R.grow n1)⟩) h1
theorem opD_I0 {f : Value → Value → Sem Value} {g : Int → Int → Int} (h : OpR X f (rI0 fun i j => .int (g i j))) : OpD T X f (fun x y d => ∃ i j, x = .int i ∧ y = .int j ∧ d = .int (g i j)) := fun pins s σ H x y v u Q I rx ry ⟨F, dx, dy, d, e, nt, tbs, i1, i2, ⟨i, j, e1, e2, e3⟩, q⟩ => by
  subst e1; subst e2; subst e3
  exact h pins s σ H x y v u Q I rx ry ⟨i, j, i1, i2, q _ F H (Nx.refl e) rfl⟩
theorem opD_I {f : Value → Value → Sem Value} {C : Int → Int → Prop} {g : Int → Int → Int} (h : OpR X f (rI C fun i j => .int (g i j))) : OpD T X f (fun x y d => ∃ i j, x = .int i ∧ y = .int j ∧ C i j ∧ d = .int (g i j)) := fun pins s σ H x y v u Q I rx ry ⟨F, dx, dy, d, e, nt, tbs, i1, i2, ⟨i, j, e1, e2, c, e3⟩, q⟩ => by
  subst e1; subst e2; subst e3
  exact h pins s σ H x y v u Q I rx ry ⟨i, j, i1, i2, c, q _ F H (Nx.refl e) rfl⟩
end
/-! ### the types of data -/
def D.ty? : D → Option Value
  | .non => some (.type "NoneType") | .bl _ => some (.type "bool") | .int _ => some (.type "int") | .str _ => some (.type "str") | .lst _ => some (.type "list") | .tup _ => some (.type "tuple")
  | .ins C _ _ => some (.ref C) | .dct _ _ => some (.type "dict") | _ => none
section
variable {T : List (Addr × Str)} {X : Cx} {pins : List (Addr × Obj)} {σ : L2.St} {F H : Hp} {s : Shared}
theorem looks_ty {d : D} {v : V} {u t : Value} (I : Inv X pins σ H s) (e : Ext F H) (i : Is X.K F d v) (r : RelV v u) (h : d.ty? = some t) : PySem.W.Looks (model X.prog X.w) s.heap (typeOf u) t := by
  cases d with
  | non => cases i; cases r; cases h; exact PySem.W.Looks.of_pure rfl
  | bl b => cases i; cases r; cases h; exact PySem.W.Looks.of_pure rfl
  | int z => cases i; obtain ⟨t', rfl⟩ := r; cases h; exact PySem.W.Looks.of_pure rfl
  | str z => cases i; obtain ⟨t', rfl⟩ := r; cases h; exact PySem.W.Looks.of_pure rfl
  | lst xs =>
    obtain ⟨a, vs, rfl, e1, _⟩ := i
    cases r; cases h
    obtain ⟨its, _, ⟨o, n, e2, e3, _⟩, _⟩ := I.list (SqL.of (e _ _ e1))
    have : PySem.W.Looks (model X.prog X.w) s.heap (typeOf (.ref a)) o.cls := (PySem.W.Looks.ld e2).andThen .now
    rw [e3] at this
    exact this
  | tup xs =>
    obtain ⟨a, vs, rfl, e1, _⟩ := i
    cases r; cases h
    obtain ⟨its, _, ⟨o, e2, e3, _⟩, _⟩ := I.tuple (ext_seqT e e1)
    have : PySem.W.Looks (model X.prog X.w) s.heap (typeOf (.ref a)) o.cls := (PySem.W.Looks.ld e2).andThen .now
    rw [e3] at this
    exact this
  | ins C ns xs =>
    obtain ⟨a, dx, fs, rfl, e1, _⟩ := i
    cases r; cases h
    obtain ⟨mA, O, _⟩ := ins_get I.hok (e _ _ e1)
    obtain ⟨od, J, _⟩ := O.look
    exact J.type
  | dct ks xs =>
    obtain ⟨a, kvs, rfl, e1, _⟩ := i
    cases r; cases h
    obtain ⟨_, _, vs, _, o, es, ep, h1, h2, _⟩ := (show ObjOk X.prog X.w H s.heap a (.dK kvs) from I.hok a _ (e _ _ e1))
    have : PySem.W.Looks (model X.prog X.w) s.heap (typeOf (.ref a)) o.cls := (PySem.W.Looks.ld h1).andThen .now
    rw [h2.1] at this
    exact this
  | _ => cases h
/-- one level down -/
abbrev Cx.in1 (X : Cx) : Cx := { X with A := X.A.in1 }
theorem Inv.in1 (I : Inv X pins σ H s) : Inv (Cx.in1 X) pins σ H s :=
  ⟨⟨I.ok.mod, I.ok.kind, I.ok.glob, I.ok.blt, I.ok.above, I.ok.inj, I.ok.has, I.ok.cab, I.ok.hd, I.ok.frames, I.ok.stk, I.ok.exf, I.ok.bs, I.ok.bsz, I.ok.noex, I.ok.exfs, I.ok.funs, I.ok.frf⟩, I.os, I.bare, I.base, I.loc, I.cell, I.free, I.freeC, I.pin, I.hok, I.len⟩
theorem Inv.out1 (I : Inv (Cx.in1 X) pins σ H s) : Inv X pins σ H s :=
  ⟨⟨I.ok.mod, I.ok.kind, I.ok.glob, I.ok.blt, I.ok.above, I.ok.inj, I.ok.has, I.ok.cab, I.ok.hd, I.ok.frames, I.ok.stk, I.ok.exf, I.ok.bs, I.ok.bsz, I.ok.noex, I.ok.exfs, I.ok.funs, I.ok.frf⟩, I.os, I.bare, I.base, I.loc, I.cell, I.free, I.freeC, I.pin, I.hok, I.len⟩
theorem back_of {Q : VK} {u : Value} {s' : Shared} (h : EP X pins σ Q u s') : PySem.W.CmpBack (EP X pins σ Q) u s' := by
  obtain ⟨v, H', I', r, q⟩ := id h
  cases v with
  | non => cases (show u = Value.none from r); exact h
  | bl b => cases (show u = Value.bool b from r); exact h
  | int i => obtain ⟨t, e⟩ := (show ∃ t, u = Value.int i t from r); cases e; exact h
  | str x => obtain ⟨t, e⟩ := (show ∃ t, u = Value.str x t from r); cases e; exact h
  | byt b => obtain ⟨t, e⟩ := (show ∃ t, u = Value.bytes b t from r); cases e; exact h
  | flt b => obtain ⟨t, e⟩ := (show ∃ t, u = Value.float b t from r); cases e; exact h
  | ref a => cases (show u = Value.ref a from r); exact h
  | ty n => cases (show u = Value.type n from r); exact h
end
/-! ### a method that an operator calls -/
structure OwnM (T : List (Addr × Str)) (P : Program) (w : World) (K : PySem.W.Frag) (mg : Str → Option Value) (base : Heap) (C : Addr) (m : Str) (n k : Nat) (pre : List D → D → Prop) (f : Addr) : Prop where
  at_ : PySem.W.findIn K (.ref C) m = some (some (.ref f))
  fn : PySem.W.isFn K (.ref f) = true
  kp : PySem.W.keepIn K (.ref f) = true
  ok : ∃ fd ps, Binds K fd ps [] ∧ ps.length = n ∧ FnOk P w K mg base CX0 k f fd ps (spD T K n pre)
section
variable {T : List (Addr × Str)} {X : Cx} {pins : List (Addr × Obj)} {σ : L2.St} {F H : Hp} {s : Shared} {C f f0 : Addr} {k n : Nat} {pre : List D → D → Prop} {m : Str}
theorem OwnM.run {P : Program} {w : World} {K : PySem.W.Frag} {mg : Str → Option Value} {base : Heap} (M : OwnM T X.prog X.w X.K X.mg X.base C m n k pre f) (hr : Room k X.A) (I : Inv X pins σ H s) {us : List Value} {vs : List V} {ds : List D} {d : D} {Q : VK} (r : Vals vs us) (e : Ext F H) (nt : ∀ p ps, F p ≠ some (.tbl ps)) (tbs : LamX.Tabs T H) (i : IsL X.K F ds vs) (hn : ds.length = n)
    (hp : pre ds d) (q : ∀ v F1 H1, Nx T F H F1 H1 → Is X.K F1 d v → Q v H1) : wpAny (model X.prog X.w) X.A (call (.ref f) us) (EP X pins σ Q) X.xe s := by
  obtain ⟨fd, ps, hb, hl, F0⟩ := M.ok
  refine run_fn (dvs := []) (ds := []) F0 hr hb .nil pass0 I r ?_
  rw [List.append_nil]
  exact ⟨F, ds, d, e, nt, tbs, i, hn, hp, q⟩
/-- -x -/
theorem un_own (M : OwnM T X.prog X.w X.K X.mg X.base C "__neg__" 1 k pre f) (hr : Room k X.A) : UnR X (unaryOp .USub) (fun x H Q => ∃ F ns xs d, Ext F H ∧ (∀ p ps, F p ≠ some (.tbl ps)) ∧ LamX.Tabs T H ∧ Is X.K F (.ins C ns xs) x ∧ pre [.ins C ns xs] d ∧ ∀ v F1 H1, Nx T F H F1 H1 → Is X.K F1 d v → Q v H1) := by
  intro pins s σ H x v Q I rx ⟨F, ns, xs, d, e, nt, tbs, i, p, q⟩
  obtain ⟨a, dx, fs, rfl, e1, e2, e3⟩ := id i
  cases rx
  obtain ⟨mA, J, _⟩ := ins_get I.hok (e _ _ e1)
  obtain ⟨od, J, _⟩ := J.look
  obtain ⟨mm, hF⟩ := I.fr
  exact PySem.W.ksp_neg hF I.ok.mod.kin J M.at_ M.fn (M.run (P := X.prog) (w := X.w) (K := X.K) (mg := X.mg) (base := X.base) hr I (vs := [.ref a]) (.cons rfl .nil) e nt tbs (.cons i .nil) rfl p q)
/-- x op y, x of one's own class, y too -/
theorem bin_own {op : Operator} (M : OwnM T X.prog X.w X.K X.mg X.base C (PySem.dunder op.info.2) 2 k pre f) (hr : Room k X.A) (hc : PySem.W.selfFirst X.K C = true) :
    OpD T X (binaryOp op) (fun x y d => ∃ ns xs ms ys, x = .ins C ns xs ∧ y = .ins C ms ys ∧ pre [x, y] d) := by
  intro pins s σ H x y v u Q I rx ry ⟨F, dx, dy, d, e, nt, tbs, i1, i2, ⟨ns, xs, ms, ys, h1, h2, p⟩, q⟩
  subst h1; subst h2
  have lb := looks_ty I e i2 ry (t := .ref C) rfl
  obtain ⟨a, da, fs, rfl, e1, _⟩ := id i1
  cases rx
  obtain ⟨mA, J, _⟩ := ins_get I.hok (e _ _ e1)
  obtain ⟨od, J, _⟩ := J.look
  obtain ⟨mm, hF⟩ := I.fr
  exact PySem.W.binop_K hF I.ok.mod.kin J lb hc M.at_ M.fn (wpAny_mono (M.run (P := X.prog) (w := X.w) (K := X.K) (mg := X.mg) (base := X.base) hr I (vs := [.ref a, y]) (.cons rfl (.cons ry .nil)) e nt tbs (.cons i1 (.cons i2 .nil)) rfl p q) (fun v s' h => back_of h) fun _ _ z => z)
/-- x op i, x of one's own class, i an int -/
theorem bin_ownI {op : Operator} {fo ro : Option Value} (M : OwnM T X.prog X.w X.K X.mg X.base C (PySem.dunder op.info.2) 2 k pre f) (hr : Room k X.A) (hc : PySem.W.selfFirst X.K C = true) (hR : PySem.W.findIn X.K (.ref C) (dunderR op.info.2) = some (some (.ref f0)))
    (h1 : PySem.W.findIn X.K (.type "int") (PySem.dunder op.info.2) = some fo) (h2 : PySem.W.findIn X.K (.type "int") (dunderR op.info.2) = some ro) (hsub : PySem.W.subIn X.K (.type "int") (.ref C) = some false) :
    OpD T X (binaryOp op) (fun x y d => ∃ ns xs j, x = .ins C ns xs ∧ y = .int j ∧ pre [x, y] d) := by
  intro pins s σ H x y v u Q I rx ry ⟨F, dx, dy, d, e, nt, tbs, i1, i2, ⟨ns, xs, j, h1', h2', p⟩, q⟩
  subst h1'; subst h2'
  have ht : ∃ t, u = .int j t := by cases i2; exact ry
  obtain ⟨t, rfl⟩ := ht
  obtain ⟨a, da, fs, rfl, e1, _⟩ := id i1
  cases rx
  obtain ⟨mA, J, _⟩ := ins_get I.hok (e _ _ e1)
  obtain ⟨od, J, _⟩ := J.look
  obtain ⟨mm, hF⟩ := I.fr
  exact PySem.W.ksp_binT (T := "int") hF I.ok.mod.kin J rfl hc M.at_ M.fn hR (.inr ⟨_, rfl⟩) h1 h2 hsub (wpAny_mono (M.run (P := X.prog) (w := X.w) (K := X.K) (mg := X.mg) (base := X.base) hr I (vs := [.ref a, y]) (.cons rfl (.cons ry .nil)) e nt tbs (.cons i1 (.cons i2 .nil)) rfl p q) (fun v s' h => back_of h) fun _ _ z => z)
/-- i op x, i an int: the reflected method -/
theorem bin_Iown {op : Operator} {idn : String} {B : Builtin} (M : OwnM T X.prog X.w X.K X.mg X.base C (dunderR op.info.2) 2 k pre f) (hr : Room k X.A) (hc : PySem.W.selfFirst X.K C = true) (hs : PySem.W.findIn X.K (.ref C) (PySem.dunder op.info.2) = some (some (.ref f0)))
    (slot : Slot "int" (PySem.dunder op.info.2) idn) (entry : entryFor table idn = some B) (args : ∀ a b, argsOk idn ⟨[a, b], []⟩) (g : ∀ i t x C dx, Meets (B ⟨[.int i t, .ref x], []⟩) (FdS.Decl x C dx)) (fills : fillsNumberSlot (.type "int") op.info.2 = pure true)
    (hsub : PySem.W.subIn X.K (.ref C) (.type "int") = some false) : OpD T X (binaryOp op) (fun x y d => ∃ ns xs j, x = .int j ∧ y = .ins C ns xs ∧ pre [y, x] d) := by
  intro pins s σ H x y v u Q I rx ry ⟨F, dx, dy, d, e, nt, tbs, i1, i2, ⟨ns, xs, j, h1', h2', p⟩, q⟩
  subst h1'; subst h2'
  have ht : ∃ t, v = .int j t := by cases i1; exact rx
  obtain ⟨t, rfl⟩ := ht
  obtain ⟨a, da, fs, rfl, e1, _⟩ := id i2
  cases ry
  obtain ⟨mA, J, _⟩ := ins_get I.hok (e _ _ e1)
  obtain ⟨od, J, _⟩ := J.look
  exact FdS.bin_int I.kIn J slot entry (args _ _) (g _ _ _ _ _) fills hc hs M.at_ M.fn hsub (wpAny_mono (M.run (P := X.prog) (w := X.w) (K := X.K) (mg := X.mg) (base := X.base) hr I (vs := [.ref a, x]) (.cons rfl (.cons rx .nil)) e nt tbs (.cons i2 (.cons i1 .nil)) rfl p q) (fun v s' h => back_of h) fun _ _ z => z)
/-- the facts of == and != -/
structure EqM (T : List (Addr × Str)) (P : Program) (w : World) (K : PySem.W.Frag) (mg : Str → Option Value) (base : Heap) (C : Addr) (k : Nat) (pre : List D → D → Prop) (f : Addr) : Prop where
  m : OwnM T P w K mg base C "__eq__" 2 k pre f
  ne : PySem.W.findIn K (.ref C) "__ne__" = some (some (.builtin "object.__ne__"))
  ob : PySem.W.subIn K (.ref C) (.type "object") = some true
theorem eq_own (M : EqM T X.prog X.w X.K X.mg X.base C k pre f) (hr : Room k X.A) : OpD T X (compareOp .Eq) (fun x y d => ∃ ns xs tb r, x = .ins C ns xs ∧ y.ty? = some tb ∧ PySem.W.notFirst X.K C tb = true ∧ d = .bl r ∧ pre [x, y] d) := by
  intro pins s σ H x y v u Q I rx ry ⟨F, dx, dy, d, e, nt, tbs, i1, i2, ⟨ns, xs, tb, r, h1', h2', h3, h4, p⟩, q⟩
  subst h1'
  have lb := looks_ty I e i2 ry h2'
  obtain ⟨a, da, fs, rfl, e1, _⟩ := id i1
  cases rx
  obtain ⟨mA, J, _⟩ := ins_get I.hok (e _ _ e1)
  obtain ⟨od, J, _⟩ := J.look
  show wpAny _ _ (richCompare .Eq _ _) _ _ _
  exact FdS.cmp_left hr.units0 I.kIn J lb h3 (FdS.try_own I.kIn J M.m.at_ M.m.fn (wpAny_mono (M.m.run (P := X.prog) (w := X.w) (K := X.K) (mg := X.mg) (base := X.base) hr I (vs := [.ref a, y]) (.cons rfl (.cons ry .nil)) e nt tbs (.cons i1 (.cons i2 .nil)) rfl p q) (fun v s' h => back_of h) fun _ _ z => z))
theorem ne_run (M : EqM T X.prog X.w X.K X.mg X.base C k pre f) (hr : Room (k + 1) X.A) {a : Addr} {y : V} {u : Value} {r : Bool} {dx dy : D} {Q : VK} (I : Inv X pins σ H s) (ry : RelV y u) (e : Ext F H) (nt : ∀ p ps, F p ≠ some (.tbl ps)) (tbs : LamX.Tabs T H) (i1 : Is X.K F dx (.ref a)) (i2 : Is X.K F dy y) (p : pre [dx, dy] (.bl r))
    (q : ∀ v F1 H1, Nx T F H F1 H1 → Is X.K F1 (.bl (!r)) v → Q v H1) : wpAny (model X.prog X.w) X.A.in1 (call (.ref f) [.ref a, u]) (fun v s' => ∃ k, v = .bool k ∧ EP X pins σ Q (.bool (!k)) s') X.xe s := by
  refine wpAny_mono (OwnM.run (X := Cx.in1 X) (P := X.prog) (w := X.w) (K := X.K) (mg := X.mg) (base := X.base) (vs := [.ref a, y]) (Q := fun v H1 => v = .bl r ∧ Q (.bl (!r)) H1) M.m hr.in1 (Inv.in1 I) (.cons rfl (.cons ry .nil)) e nt tbs (.cons i1 (.cons i2 .nil)) rfl p fun v F1 H1 n1 iv => ⟨iv, q _ F1 H1 n1 rfl⟩) (fun v s' h => ?_) fun _ _ z => z
  obtain ⟨v', H', I', rv, ev, q'⟩ := h
  subst ev
  cases rv
  exact ⟨r, rfl, .bl (!r), H', Inv.out1 I', rfl, q'⟩
theorem ne_own (M : EqM T X.prog X.w X.K X.mg X.base C k pre f) (hr : Room (k + 1) X.A) : OpD T X (compareOp .NotEq) (fun x y d => ∃ ns xs tb r, x = .ins C ns xs ∧ y.ty? = some tb ∧ PySem.W.notFirst X.K C tb = true ∧ d = .bl (!r) ∧ pre [x, y] (.bl r)) := by
  intro pins s σ H x y v u Q I rx ry ⟨F, dx, dy, d, e, nt, tbs, i1, i2, ⟨ns, xs, tb, r, h1', h2', h3, h4, p⟩, q⟩
  subst h1'; subst h4
  have lb := looks_ty I e i2 ry h2'
  obtain ⟨a, da, fs, rfl, e1, _⟩ := id i1
  cases rx
  obtain ⟨mA, J, _⟩ := ins_get I.hok (e _ _ e1)
  obtain ⟨od, J, _⟩ := J.look
  show wpAny _ _ (richCompare .NotEq _ _) _ _ _
  exact FdS.cmp_left hr.units0 I.kIn J lb h3 (FdS.try_ne (by have := hr.units; omega) I.kIn J M.ne M.ob M.m.at_ M.m.fn (ne_run M hr I ry e nt tbs i1 i2 p q))
theorem eq_Iown (M : EqM T X.prog X.w X.K X.mg X.base C k pre f) (hr : Room k X.A) (hsub : PySem.W.subIn X.K (.ref C) (.type "int") = some false) : OpD T X (compareOp .Eq) (fun x y d => ∃ ns xs j r, x = .int j ∧ y = .ins C ns xs ∧ d = .bl r ∧ pre [y, x] d) := by
  intro pins s σ H x y v u Q I rx ry ⟨F, dx, dy, d, e, nt, tbs, i1, i2, ⟨ns, xs, j, r, h1', h2', h3, p⟩, q⟩
  subst h1'; subst h2'
  have ht : ∃ t, v = .int j t := by cases i1; exact rx
  obtain ⟨t, rfl⟩ := ht
  obtain ⟨a, da, fs, rfl, e1, _⟩ := id i2
  cases ry
  obtain ⟨mA, J, _⟩ := ins_get I.hok (e _ _ e1)
  obtain ⟨od, J, _⟩ := J.look
  show wpAny _ _ (richCompare .Eq _ _) _ _ _
  exact FdS.cmp_int hr.units0 I.kIn J PySem.F.slot_int_eq PySem.F.entry_int_eq (PySem.F.args_int_eq_2 _ _) (FdS.int_eq_inst _ _ _ _ _) hsub (FdS.try_own I.kIn J M.m.at_ M.m.fn (wpAny_mono (M.m.run (P := X.prog) (w := X.w) (K := X.K) (mg := X.mg) (base := X.base) hr I (vs := [.ref a, x]) (.cons rfl (.cons rx .nil)) e nt tbs (.cons i2 (.cons i1 .nil)) rfl p q) (fun v s' h => back_of h) fun _ _ z => z))
theorem ne_Iown (M : EqM T X.prog X.w X.K X.mg X.base C k pre f) (hr : Room (k + 1) X.A) (hsub : PySem.W.subIn X.K (.ref C) (.type "int") = some false) : OpD T X (compareOp .NotEq) (fun x y d => ∃ ns xs j r, x = .int j ∧ y = .ins C ns xs ∧ d = .bl (!r) ∧ pre [y, x] (.bl r)) := by
  intro pins s σ H x y v u Q I rx ry ⟨F, dx, dy, d, e, nt, tbs, i1, i2, ⟨ns, xs, j, r, h1', h2', h3, p⟩, q⟩
  subst h1'; subst h2'; subst h3
  have ht : ∃ t, v = .int j t := by cases i1; exact rx
  obtain ⟨t, rfl⟩ := ht
  obtain ⟨a, da, fs, rfl, e1, _⟩ := id i2
  cases ry
  obtain ⟨mA, J, _⟩ := ins_get I.hok (e _ _ e1)
  obtain ⟨od, J, _⟩ := J.look
  show wpAny _ _ (richCompare .NotEq _ _) _ _ _
  exact FdS.cmp_int hr.units0 I.kIn J PySem.F.slot_int_ne PySem.F.entry_int_ne (PySem.F.args_int_ne_2 _ _) (FdS.int_ne_inst _ _ _ _ _) hsub (FdS.try_ne (by have := hr.units; omega) I.kIn J M.ne M.ob M.m.at_ M.m.fn (ne_run M hr I rx e nt tbs i2 i1 p q))
end
end Fd

set_option Elab.async false
set_option linter.all false
set_option maxRecDepth 100000
set_option maxHeartbeats 4000000
/-! ExS: own exceptions over ValueError whose __init__ says super().__init__(text), and perhaps self.f = what it was given. -/
namespace PySem
namespace ExS
open PySem.W PySem.Calls PyProof.Rows PySem.HandSPX
/-! ### the text of __init__ -/
def iA0 (p1 : Pos) : Arguments := { posonlyargs := [], args := [{ arg := "self", annotation := none, pos := p1 }], vararg := none, kwonlyargs := [], kw_defaults := [], kwarg := none, defaults := [] }
def iA (y : Str) (p1 p2 : Pos) : Arguments := { posonlyargs := [], args := [{ arg := "self", annotation := none, pos := p1 }, { arg := y, annotation := none, pos := p2 }], vararg := none, kwonlyargs := [], kw_defaults := [], kwarg := none, defaults := [] }
/-- what a method call asks, beside: whether its object's name was imported -/
def plS (q1 q2 : Pos) (env : Env) : Sem Bool := do return (← importBound (.Call (.Name "super" q1) [] [] q2) env).getD true
def supS (tx : Str) (j : Nat) (q1 q2 q3 q4 q5 q6 : Pos) : Stmt := .Expr (.Call (.Attribute (.Call (.Name "super" q1) [] [] q2) "__init__" q3) [.Constant (.str tx) j q4] [] q5) q6
def atS (f y : Str) (q7 q8 q9 qa : Pos) : Stmt := .Assign [.Attribute (.Name "self" q7) f q8] (.Name y q9) qa
def iS0 : Scope := { kind := .function, names := [(PySem.Str.ofString "self", .local), (PySem.Str.ofString "__class__", .free), (PySem.Str.ofString "super", .globalImplicit)], isGenerator := false, isCoroutine := false, more := [] }
def iS (y : Str) : Scope := { kind := .function, names := [(PySem.Str.ofString "self", .local), (y, .local), (PySem.Str.ofString "__class__", .free), (PySem.Str.ofString "super", .globalImplicit)], isGenerator := false, isCoroutine := false, more := [] }
/-- what the written part says of a class of exceptions -/
structure ExCls (prog : Program) (K : Frag) (mg : Str → Option Value) (C fI cc cda : Addr) : Prop where
  cls : ∃ nm q N bs bm sn sub ab col dd k0 k1 k2 k3 k5, K.lookup C = some (excClassObj nm q C N bs bm true sn sub ab col dd k0 k1 k2 k3 k5 "ValueError.__new__") ∧ refsVE bm = true
  sa : findIn K (.ref C) "__setattr__" = some (some (.builtin "object.__setattr__"))
  ga : findIn K (.ref C) "__getattribute__" = some (some (.builtin "BaseException.__getattribute__"))
  gg : findIn K (.ref C) "__getattr__" = some none
  iC : findIn K (.ref C) "__init__" = some (some (.ref fI))
  tC : typeIn K (.ref fI) = some (.type "function")
  kC : keepIn K (.ref C) = true
  exC : subIn K (.ref C) (.type "BaseException") = some true
  veC : subIn K (.ref C) (.type "ValueError") = some true
  seC : mroIn K C (.ref C) = some true
  tyC : typeIn K (.ref C) = some (.type "type")
  hdC : hasDictIn K C = true
  cell : ∃ cl cld csl, K.lookup cc = some ⟨cl, cld, .cell (some (.ref C)), csl⟩
  code : ∃ ccl cdd vs ccs file tf, K.lookup cda = some ⟨ccl, cdd, .fields vs, ccs⟩ ∧ vs[2]? = some (.str file tf) ∧ ((prog.main.file : Str) == file) = true
  sup : ks_superIn K C C "__init__" = some (some (.builtin "ValueError.__init__"))
  opq : nsIn K cStatics "thirdparty.any" = some none
  mgs : mg "super" = none
  top : (prog.main.scope.names.lookup ("super" : Str)).isSome = false
section
variable {prog : Program} {w : World} {A : Around} {E : Value → Shared → Prop} {R : Result → Shared → Prop} {s : Shared} {K : Frag} {mg : Str → Option Value} {C fI cc cda : Addr}
theorem call_ve {u e t0 : Addr} {rest : List Value} {nm q : Str} {N : Addr} {bs bm : List Value} {hdct : Bool} {sn : List Str} {sub : List Value} {ab : Bool} {col : Option Bool} {dd : Option Addr} {k0 k1 k2 k3 k5 : Option Value} {h : Heap} {g : Array GenState} {d : Drawn} {t : Nat} {os : OsState} {Q : Value → Shared → Prop}
    (hC : h.get? C = some (excClassObj nm q C N bs bm hdct sn sub ab col dd k0 k1 k2 k3 k5 "ValueError.__new__")) (he : h.get? e = some (excO C t0)) (hu : h.get? u = some (kxs_mw "ValueError.__init__" e)) (hrest : rest.length ≤ sizeLine)
    (hq : ∀ h' t1, (∀ b o, b ≠ e → h.get? b = some o → h'.get? b = some o) → h'.get? e = some (excO C t1) → Q .none ⟨h', g, d, t, os⟩) :
    wpAny (model prog w) A (call (.ref u) rest) Q E ⟨h, g, d, t, os⟩ := by
  refine wpAny_call (codeAny_of_tree ?_)
  show wpAny _ A.in1 (callAny (.ref u) ⟨rest, []⟩) _ _ _
  simp only [callAny]
  refine wpAny_bind (wpAny_load hu ?_)
  simp only [kxs_mw, show (Value.type "method-wrapper" == Value.type "method" || Value.type "method-wrapper" == Value.type "builtin_function_or_method" || Value.type "method-wrapper" == Value.type "method-wrapper") = true by decide, if_true]
  refine KFB.if_so (by decide) ?_
  refine wpAny_bind (check_bound_init F.excBase_ValueError.toExcCallFacts hC he rfl ?_)
  refine wpAny_bind (wpAny_pure (wpAny_pure ?_))
  refine ⟨plainId_quiet F.excBase_ValueError.init.plain _, codeAny_builtin F.excBase_ValueError.initEntry ?_⟩
  exact exc_init_tree (cls := .ref C) (t0 := t0) (dv := none) (c2 := .none) (c3 := .none) (b4 := .bool false) he hrest fun h' k e' _ => hq h' _ k e'
/-- super().__init__(tx) in the __init__ that runs over x -/
theorem sup_stmt {tx : Str} {j : Nat} {q1 q2 q3 q4 q5 q6 : Pos} {body : List Stmt} {sc : Scope} {qual : Str} {L x t0 : Addr} {m mb : Str → Option Value} {fd : FuncData} {ar : Arg} {oc : Value} {od : Option Addr} {osl : Array (Option Value)} {Q : Flow → Shared → Prop} (T : ExCls prog K mg C fI cc cda) (X : K.In s.heap)
    (hg : s.heap.Ns mainGlobals mg) (hb : s.heap.Ns builtinsNs mb) (hbt : mb "super" = bootBuiltins "super") (hx : s.heap.get? x = some (excO C t0)) (hns : s.heap.Ns L m) (hv : m "self" = some (.ref x)) (hxL : x ≠ L)
    (hf : K.lookup fI = some ⟨oc, od, .func fd, osl⟩) (hp : (fd.params.posonlyargs ++ fd.params.args).head? = some ar) (har : ar.arg = ("self" : Str)) (hk : sc.kind = .function) (hs1 : sc.names.lookup ("super" : Str) = some .globalImplicit) (hs2 : sc.names.lookup ("__class__" : Str) = some .free) (hs3 : sc.names.lookup ("self" : Str) = some .local)
    (hsw : swapsWith (.Call (.Attribute (.Call (.Name "super" q1) [] [] q2) "__init__" q3) [.Constant (.str tx) j q4] [] q5) none q6.line (ksEnv qual sc L fI (.ref cda) cc) = pure false)
    (hev : eval (.Call (.Attribute (.Call (.Name "super" q1) [] [] q2) "__init__" q3) [.Constant (.str tx) j q4] [] q5) (ksEnv qual sc L fI (.ref cda) cc) = (do
      let ov ← attributeBase (.Call (.Name "super" q1) [] [] q2) "__init__" (ksEnv qual sc L fI (.ref cda) cc) (eval (.Call (.Name "super" q1) [] [] q2) (ksEnv qual sc L fI (.ref cda) cc))
      standAt q3.atName
      let (f, first) ← holding [ov] (getMethod ov "__init__" (plS q1 q2 (ksEnv qual sc L fI (.ref cda) cc)))
      callWith q5 f first (backTo q5 (starEach [.Constant (.str tx) j q4] (ksEnv qual sc L fI (.ref cda) cc))) []))
    (hq : ∀ h' tk t1, (∀ b o, b ≠ x → s.heap.get? b = some o → h'.get? b = some o) → h'.get? x = some (excO C t1) → s.heap.objs.size ≤ h'.objs.size → Q .next { s with heap := h', toks := tk }) :
    _root_.PySem.wpAt (model prog w) A (.func body (ksEnv qual sc L fI (.ref cda) cc)) (exec (supS tx j q1 q2 q3 q4 q5 q6) (ksEnv qual sc L fI (.ref cda) cc)) Q E s := by
  obtain ⟨nm, q, N, bs, bm, sn, sub, ab, col, dd, k0, k1, k2, k3, k5, hC, hbm⟩ := T.cls
  obtain ⟨cl, cld, csl, hcell⟩ := T.cell
  obtain ⟨ccl, cdd, vs, ccs, file, tf, hcode, hvs, hfile⟩ := T.code
  have hcl : clsIn K C = some { name := nm, bases := bs, mro := .ref C :: bm, ns := N, qualname := q, hasDict := true, slotNames := sn, subclasses := sub, abstract := ab, collection := col, hasDel := false } := by unfold clsIn; rw [hC] <;> rfl
  have I0 : InstAt s.heap x (excO C t0) C none := ⟨hx, rfl, rfl, trivial⟩
  have hxC : x ≠ C := ks_ne X I0 hcl
  obtain ⟨hh, g, d, t, os⟩ := s
  have hD1 : hh.get? C = some (excClassObj nm q C N bs bm true sn sub ab col dd k0 k1 k2 k3 k5 "ValueError.__new__") := X _ _ hC
  refine ks_wpAt_Expr_any (ks_wpAt_MethodCall ?_ hev) (by simp [interactive, hk]) hsw
  refine ks_wpAt_super_base (env := ksEnv qual sc L fI (.ref cda) cc) hs1 hs2 (by decide +kernel) rfl (X _ _ hf) rfl hp rfl (X _ _ hcode) rfl hvs hfile T.top ?_
  refine ks_loadName_global hk hs1 (loadGlobal_builtin (env := ksEnv qual sc L fI (.ref cda) cc) hg T.mgs hb (hbt.trans (by decide +kernel)) ⟨rfl, ?_⟩)
  refine wpAny_loadName_free hk hs2 rfl ⟨_, X _ _ hcell, rfl⟩ ?_
  rw [har]
  refine wpAny_loadName_local hk hs3 hns hv ?_
  refine ks_wpAny_isType_cls hD1 rfl ⟨rfl, ?_⟩
  refine ks_wpAny_call_super hD1 rfl hx rfl (fun c e => by cases e) (looks_mroIn X T.seC) (fun h1 e1 u1 => ?_)
  have X1 : K.In h1 := X.keeps u1
  have hx1 := u1 _ _ hx
  have I1 : InstAt h1 x (excO C t0) C none := ⟨hx1, rfl, rfl, trivial⟩
  have hI : Looks (model prog w) h1 (isInstance (.ref x) (.type "ValueError")) true := I1.type.andThen (looks_subIn X1 T.veC)
  have hsup := T.sup
  unfold ks_superIn at hsup
  rw [hcl] at hsup
  refine kxs_getMethod kxs_ValueError e1 (looks_opaque X1 T.opq) (l₀ := .ref C :: bm) ?_ rfl X1 hsup hI hxC (by decide +kernel) ?_
  · exact fun A Q E s k q => wpAny_bind ((looks_clsIn X1 hcl) A _ E s k (wpAny_pure q))
  have u2 : ∀ b o, h1.get? b = some o → (h1.push (kxs_mw "ValueError.__init__" x)).get? b = some o := fun b o e => Heap.get?_push_of_some _ e
  have hmw : (h1.push (kxs_mw "ValueError.__init__" x)).get? h1.objs.size = some (kxs_mw "ValueError.__init__" x) := Heap.get?_push_size _ rfl
  show wpAny _ _ (callWith q5 (.ref h1.objs.size) [] (backTo q5 (starEach [.Constant (.str tx) j q4] _)) []) _ _ _
  refine kxs_callWith (i := "ValueError.__init__") (x := x) (by rfl) ?_
  refine evalArgs_plain ?_
  show wpAny _ _ (spliced ((false, eval (.Constant (.str tx) j q4) _) :: backTo q5 (starEach [] _))) _ _ _
  refine spliced_cons (Constant_str ?_)
  refine spliced_nil ?_
  refine ⟨hmw, ?_⟩
  refine call_ve (u2 _ _ (X1 _ _ hC)) (u2 _ _ hx1) hmw (by show 1 ≤ sizeLine; rw [sizeLine_eq]; decide) fun h' t1 k' hx' => ?_
  have keep : ∀ b o, b ≠ x → hh.get? b = some o → h'.get? b = some o := fun b o hb e => k' b o hb (u2 _ _ (u1 _ _ e))
  have z1 : hh.objs.size < h1.objs.size := Heap.lt_size e1
  have z2 : h1.objs.size ≠ x := fun z => by
    have := Heap.lt_size hx
    rw [← z] at this
    exact Nat.lt_irrefl _ (Nat.lt_trans this z1)
  exact hq h' _ t1 keep hx' (Nat.le_of_lt (Nat.lt_trans z1 (Heap.lt_size (k' _ _ z2 hmw))))
/-- what __init__ leaves of a fresh exception at x, where it stores f -/
structure InitEnd (h h' : Heap) (x C dx t1 : Addr) (f : Str) (v : Value) : Prop where
  keep : ∀ b o, b ≠ x → h.get? b = some o → h'.get? b = some o
  obj : h'.get? x = some { cls := .ref C, dict := some dx, data := .fields #[.ref t1, .none, .none, .none, .bool false, .none] }
  dbig : h.objs.size ≤ dx
  dne : dx ≠ x
  ns : h'.Ns1 dx (fun y => if y = f then some v else none)
/-- the __init__ of a class that stores f -/
structure ExFn1 (K : Frag) (C fI cc cda : Addr) (f y : Str) : Prop where
  fn : ∃ (qual tx : Str) (j : Nat) (oc : Value) (od : Option Addr) (doc pm : Value) (an : Option Addr) (ct : Value) (osl : Array (Option Value)) (p1 p2 q1 q2 q3 q4 q5 q6 q7 q8 q9 qa : Pos),
    K.lookup fI = some ⟨oc, od, .func (ksFn "__init__" qual (iA y p1 p2) [supS tx j q1 q2 q3 q4 q5 q6, atS f y q7 q8 q9 qa] (iS y) .none .none doc pm an (.ref cda) ct cc), osl⟩ ∧ codeIn K (.ref cda) qual = true ∧
    (∀ L, swapsWith (.Call (.Attribute (.Call (.Name "super" q1) [] [] q2) "__init__" q3) [.Constant (.str tx) j q4] [] q5) none q6.line (ksEnv qual (iS y) L fI (.ref cda) cc) = pure false) ∧
    (∀ L, eval (.Call (.Attribute (.Call (.Name "super" q1) [] [] q2) "__init__" q3) [.Constant (.str tx) j q4] [] q5) (ksEnv qual (iS y) L fI (.ref cda) cc) = (do
      let ov ← attributeBase (.Call (.Name "super" q1) [] [] q2) "__init__" (ksEnv qual (iS y) L fI (.ref cda) cc) (eval (.Call (.Name "super" q1) [] [] q2) (ksEnv qual (iS y) L fI (.ref cda) cc))
      standAt q3.atName
      let (f, first) ← holding [ov] (getMethod ov "__init__" (plS q1 q2 (ksEnv qual (iS y) L fI (.ref cda) cc)))
      callWith q5 f first (backTo q5 (starEach [.Constant (.str tx) j q4] (ksEnv qual (iS y) L fI (.ref cda) cc))) [])) ∧
    (∀ L, swapsWith (.Name y q9) (some (.Attribute (.Name "self" q7) f q8)) qa.line (ksEnv qual (iS y) L fI (.ref cda) cc) = pure false)
  noN : findIn K (.ref C) f = some none
  ys : (("self" : Str) == y) = false
  yd : (y == ("__debug__" : Str)) = false
  nc : ∀ x ∈ (iS y).names, x.2 ≠ .cell
  l1 : (iS y).names.lookup ("self" : Str) = some .local
  l2 : (iS y).names.lookup y = some .local
  l3 : (iS y).names.lookup ("super" : Str) = some .globalImplicit
  l4 : (iS y).names.lookup ("__class__" : Str) = some .free
  bd : ∀ (qual : Str) (body : List Stmt) (doc pm : Value) (an : Option Addr) (cv ct : Value) (p1 p2 : Pos) (x : Addr) (v : Value), bindArgs (ksFn "__init__" qual (iA y p1 p2) body (iS y) .none .none doc pm an cv ct cc) ⟨[.ref x, v], []⟩ = pure [(("self" : Str), Value.ref x), (y, v)]
structure ExFn0 (K : Frag) (fI cc cda : Addr) : Prop where
  fn : ∃ (qual tx : Str) (j : Nat) (oc : Value) (od : Option Addr) (doc pm : Value) (an : Option Addr) (ct : Value) (osl : Array (Option Value)) (p1 q1 q2 q3 q4 q5 q6 : Pos),
    K.lookup fI = some ⟨oc, od, .func (ksFn "__init__" qual (iA0 p1) [supS tx j q1 q2 q3 q4 q5 q6] iS0 .none .none doc pm an (.ref cda) ct cc), osl⟩ ∧ codeIn K (.ref cda) qual = true ∧
    (∀ L, swapsWith (.Call (.Attribute (.Call (.Name "super" q1) [] [] q2) "__init__" q3) [.Constant (.str tx) j q4] [] q5) none q6.line (ksEnv qual iS0 L fI (.ref cda) cc) = pure false) ∧
    (∀ L, eval (.Call (.Attribute (.Call (.Name "super" q1) [] [] q2) "__init__" q3) [.Constant (.str tx) j q4] [] q5) (ksEnv qual iS0 L fI (.ref cda) cc) = (do
      let ov ← attributeBase (.Call (.Name "super" q1) [] [] q2) "__init__" (ksEnv qual iS0 L fI (.ref cda) cc) (eval (.Call (.Name "super" q1) [] [] q2) (ksEnv qual iS0 L fI (.ref cda) cc))
      standAt q3.atName
      let (f, first) ← holding [ov] (getMethod ov "__init__" (plS q1 q2 (ksEnv qual iS0 L fI (.ref cda) cc)))
      callWith q5 f first (backTo q5 (starEach [.Constant (.str tx) j q4] (ksEnv qual iS0 L fI (.ref cda) cc))) []))
theorem init0 (T : ExCls prog K mg C fI cc cda) (Fn : ExFn0 K fI cc cda) {x t0 : Addr} {mb : Str → Option Value} (X : K.In s.heap) (hlim : s.heap.NoLimit) (hg : s.heap.Ns mainGlobals mg) (hb : s.heap.Ns builtinsNs mb) (hbt : mb "super" = bootBuiltins "super") (hx : s.heap.get? x = some (excO C t0)) (hroom : A.depth < recursionLimit)
    (hq : ∀ h' tk t1, (∀ b o, b ≠ x → s.heap.get? b = some o → h'.get? b = some o) → h'.get? x = some (excO C t1) → s.heap.objs.size ≤ h'.objs.size → R (.ok (.ret .none)) { s with heap := h', toks := tk }) :
    codeAny (model prog w) A (.call (.ref fI) ⟨[.ref x], []⟩) R s := by
  obtain ⟨qual, tx, j, oc, od, doc, pm, an, ct, osl, p1, q1, q2, q3, q4, q5, q6, ho, hcd, hsw, hev⟩ := Fn.fn
  have c0 : ∀ x ∈ iS0.names, x.2 ≠ .cell := by decide +kernel
  have l0 : iS0.names.lookup ("self" : Str) = some .local := by decide +kernel
  have l1 : iS0.names.lookup ("super" : Str) = some .globalImplicit := by decide +kernel
  have l2 : iS0.names.lookup ("__class__" : Str) = some .free := by decide +kernel
  have m0 : ([(("self" : Str), Value.ref x)].reverse.lookup ("self" : Str)) = some (.ref x) := by simp [List.lookup]
  refine ks_codeAny_call_defAt (fd := ksFn "__init__" qual (iA0 p1) [supS tx j q1 q2 q3 q4 q5 q6] iS0 .none .none doc pm an (.ref cda) ct cc) (body := [supS tx j q1 q2 q3 q4 q5 q6]) (binds := [("self", .ref x)]) hroom (X _ _ ho) rfl hlim (codeRec_of X hcd) rfl (BindsTo.of_eq (by first | rfl | with_unfolding_all rfl)) c0 (by
    intro y hy
    simp at hy
    subst hy
    exact l0) (fun h₁ hns hk₁ => ?_)
  have hxL : x ≠ s.heap.objs.size := Nat.ne_of_lt (Heap.lt_size hx)
  have hsz : s.heap.objs.size < h₁.objs.size := hns.lt
  refine ks_wpAt_execs_cons ?_
  refine sup_stmt (m := fun z => [(("self" : Str), Value.ref x)].reverse.lookup z) (L := s.heap.objs.size) T (X.keeps hk₁) (hg.keeps hk₁) (hb.keeps hk₁) hbt (hk₁ _ _ hx) hns m0 hxL ho rfl rfl rfl l1 l2 l0 (hsw _) (hev _) fun h' tk t1 k hx' z => ?_
  refine wpAt_of_wpAny (wpAny_execs_nil ?_)
  exact hq h' tk t1 (fun b o hb e => k b o hb (hk₁ b o e)) hx' (Nat.le_of_lt (Nat.lt_of_lt_of_le hsz z))
theorem init1 {f y : Str} (T : ExCls prog K mg C fI cc cda) (Fn : ExFn1 K C fI cc cda f y) {x t0 : Addr} {v : Value} {mb : Str → Option Value} (X : K.In s.heap) (hlim : s.heap.NoLimit) (hg : s.heap.Ns mainGlobals mg) (hb : s.heap.Ns builtinsNs mb) (hbt : mb "super" = bootBuiltins "super") (hx : s.heap.get? x = some (excO C t0)) (hlk : K.lookup x = none) (hroom : A.depth < recursionLimit)
    (hq : ∀ h' tk dx t1, InitEnd s.heap h' x C dx t1 f v → R (.ok (.ret .none)) { s with heap := h', toks := tk }) :
    codeAny (model prog w) A (.call (.ref fI) ⟨[.ref x, v], []⟩) R s := by
  obtain ⟨qual, tx, j, oc, od, doc, pm, an, ct, osl, p1, p2, q1, q2, q3, q4, q5, q6, q7, q8, q9, qa, ho, hcd, hsw, hev, hsw2⟩ := Fn.fn
  obtain ⟨nm, q, N, bs, bm, sn, sub, ab, col, dd, k0, k1, k2, k3, k5, hC, hbm⟩ := T.cls
  have hcl : clsIn K C = some { name := nm, bases := bs, mro := .ref C :: bm, ns := N, qualname := q, hasDict := true, slotNames := sn, subclasses := sub, abstract := ab, collection := col, hasDel := false } := by unfold clsIn; rw [hC] <;> rfl
  have ys := Fn.ys
  have l1 := Fn.l1
  have l2 := Fn.l2
  have l3 := Fn.l3
  have l4 := Fn.l4
  refine ks_codeAny_call_defAt (fd := ksFn "__init__" qual (iA y p1 p2) [supS tx j q1 q2 q3 q4 q5 q6, atS f y q7 q8 q9 qa] (iS y) .none .none doc pm an (.ref cda) ct cc) (body := [supS tx j q1 q2 q3 q4 q5 q6, atS f y q7 q8 q9 qa]) (binds := [("self", .ref x), (y, v)]) hroom (X _ _ ho) rfl hlim (codeRec_of X hcd) rfl (BindsTo.of_eq (Fn.bd ..)) Fn.nc (by
    intro z hz
    simp at hz
    rcases hz with h | h
    · rw [h]; exact l1
    · rw [h]; exact l2) (fun h₁ hns hk₁ => ?_)
  have hxL : x ≠ s.heap.objs.size := Nat.ne_of_lt (Heap.lt_size hx)
  have hsz : s.heap.objs.size < h₁.objs.size := hns.lt
  have m1 : ([(("self" : Str), Value.ref x), (y, v)].reverse.lookup ("self" : Str)) = some (.ref x) := by
    simp only [List.reverse_cons, List.reverse_nil, List.nil_append, List.cons_append, List.lookup, ys, beq_self_eq_true]
  have m2 : ([(("self" : Str), Value.ref x), (y, v)].reverse.lookup y) = some v := by
    simp only [List.reverse_cons, List.reverse_nil, List.nil_append, List.cons_append, List.lookup, beq_self_eq_true]
  refine ks_wpAt_execs_cons ?_
  refine sup_stmt (m := fun z => [(("self" : Str), Value.ref x), (y, v)].reverse.lookup z) (L := s.heap.objs.size) T (X.keeps hk₁) (hg.keeps hk₁) (hb.keeps hk₁) hbt (hk₁ _ _ hx) hns m1 hxL ho rfl rfl rfl l3 l4 l1 (hsw _) (hev _) fun h2 tk t1 k hx2 z => ?_
  have X2 : K.In h2 := fun a o e => k a o (fun w => by rw [w, hlk] at e; cases e) (hk₁ _ _ (X a o e))
  have hn2 : h2.Ns s.heap.objs.size (fun z => [(("self" : Str), Value.ref x), (y, v)].reverse.lookup z) := by
    obtain ⟨oL, es, ep, e1, r⟩ := hns
    exact ⟨oL, es, ep, k _ _ (Ne.symm hxL) e1, r⟩
  refine wpAt_of_wpAny (wpAny_execs_cons (plainObj_wpAny_Assign_Attribute ?_ (hsw2 _)))
  refine wpAny_Name (wpAny_loadName_local rfl l2 hn2 m2 ?_) Fn.yd
  refine wpAny_Name (wpAny_loadName_local rfl l1 hn2 m1 ?_) (by decide)
  refine set_plain X2 (ox := excO C t1) (od := none) ⟨hx2, rfl, rfl, trivial⟩ T.sa ?_
  refine exc_osa X2 hx2 hcl (show refsVE (.ref C :: bm) = true from hbm) rfl Fn.noN (fun h₃ tk₃ dx k₃ dn dne hx₃ hn₃ => ?_)
  exact wpAny_execs_nil (hq h₃ tk₃ dx t1 ⟨fun b o hb e => k₃ b o hb (k b o hb (hk₁ b o e)), hx₃, Nat.le_of_lt (Nat.lt_of_lt_of_le hsz (Nat.le_trans z dn)), dne, hn₃⟩)

/-- a made exception -/
structure Made1 (h h' : Heap) (e C d : Addr) (f : Str) (v : Value) : Prop where
  keep : ∀ b o, h.get? b = some o → h'.get? b = some o
  new : h.objs.size ≤ e
  obj : ∃ t1, h'.get? e = some { cls := .ref C, dict := some d, data := .fields #[.ref t1, .none, .none, .none, .bool false, .none] }
  dbig : h.objs.size ≤ d
  dne : d ≠ e
  ns : h'.Ns1 d (fun y => if y = f then some v else none)
structure Made0 (h h' : Heap) (e C : Addr) : Prop where
  keep : ∀ b o, h.get? b = some o → h'.get? b = some o
  new : h.objs.size ≤ e
  obj : ∃ t1, h'.get? e = some (excO C t1)
theorem one_size (v : Value) : [v].length ≤ sizeLine := by
  rw [sizeLine_eq]
  exact (by decide : 1 ≤ 16777216)
theorem made1 {f y : Str} (T : ExCls prog K mg C fI cc cda) (Fn : ExFn1 K C fI cc cda f y) {v : Value} {mb : Str → Option Value} (X : K.In s.heap) (hlim : s.heap.NoLimit) (hg : s.heap.Ns mainGlobals mg) (hb : s.heap.Ns builtinsNs mb) (hbt : mb "super" = bootBuiltins "super") (hroom : A.depth + 1 < recursionLimit)
    (hq : ∀ h' tk e d, Made1 s.heap h' e C d f v → R (.ok (.ret (.ref e))) { s with heap := h', toks := tk }) :
    codeAny (model prog w) A (.call (.ref C) ⟨[v], []⟩) R s := by
  obtain ⟨nm, q, N, bs, bm, sn, sub, ab, col, dd, k0, k1, k2, k3, k5, hC, hbm⟩ := T.cls
  obtain ⟨hp, g, dr, tk, os⟩ := s
  have k : ∀ b o, hp.get? b = some o → ((hp.push (kdv_tup [v])).push (excO C hp.objs.size)).get? b = some o := fun b o e => Heap.get?_push_of_some _ (Heap.get?_push_of_some _ e)
  have hget : ((hp.push (kdv_tup [v])).push (excO C hp.objs.size)).get? (hp.objs.size + 1) = some (excO C hp.objs.size) := by heap_get
  have hnx : K.lookup (hp.objs.size + 1) = none := by
    cases e : K.lookup (hp.objs.size + 1) with
    | none => rfl
    | some o =>
      have z : hp.get? (hp.objs.size + 1) = some o := X _ _ e
      exact absurd (Nat.lt_of_succ_lt (Heap.lt_size z)) (Nat.lt_irrefl _)
  refine call_own F.excBase_ValueError (fun X => refsVE_contains X bm hbm) (X _ _ hC) (looks_findIn X T.iC) (fun self => bind_fn X self T.tC) (one_size v) ?_
  refine init1 (s := ⟨(hp.push (kdv_tup [v])).push (excO C hp.objs.size), g, dr, tk, os⟩) T Fn (X.keeps k) (hlim.keeps k) (hg.keeps k) (hb.keeps k) hbt hget hnx ?_ fun h' tk' dx t1 ⟨k', hx, dn, dne, hns⟩ => ?_
  · show A.depth + 1 < recursionLimit
    exact hroom
  · have old : ∀ b o, hp.get? b = some o → h'.get? b = some o := fun b o e => k' b o (Nat.ne_of_lt (Nat.lt_succ_of_lt (Heap.lt_size e))) (k b o e)
    have z : hp.objs.size + 1 + 1 ≤ dx := by
      first
        | (simpa only [Heap.size_push] using dn)
        | exact dn
        | (have q := dn; rw [Heap.size_push, Heap.size_push] at q; exact q)
    exact ⟨rfl, hq h' tk' (hp.objs.size + 1) dx ⟨old, Nat.le_succ _, ⟨_, hx⟩, Nat.le_trans (Nat.le_trans (Nat.le_succ _) (Nat.le_succ _)) z, dne, hns⟩⟩
theorem made0 (T : ExCls prog K mg C fI cc cda) (Fn : ExFn0 K fI cc cda) {mb : Str → Option Value} (X : K.In s.heap) (hlim : s.heap.NoLimit) (hg : s.heap.Ns mainGlobals mg) (hb : s.heap.Ns builtinsNs mb) (hbt : mb "super" = bootBuiltins "super") (hroom : A.depth + 1 < recursionLimit)
    (hq : ∀ h' tk e, Made0 s.heap h' e C → R (.ok (.ret (.ref e))) { s with heap := h', toks := tk }) :
    codeAny (model prog w) A (.call (.ref C) ⟨[], []⟩) R s := by
  obtain ⟨nm, q, N, bs, bm, sn, sub, ab, col, dd, k0, k1, k2, k3, k5, hC, hbm⟩ := T.cls
  obtain ⟨hp, g, dr, tk, os⟩ := s
  have k : ∀ b o, hp.get? b = some o → ((hp.push (kdv_tup [])).push (excO C hp.objs.size)).get? b = some o := fun b o e => Heap.get?_push_of_some _ (Heap.get?_push_of_some _ e)
  have hget : ((hp.push (kdv_tup [])).push (excO C hp.objs.size)).get? (hp.objs.size + 1) = some (excO C hp.objs.size) := by heap_get
  refine call_own F.excBase_ValueError (fun X => refsVE_contains X bm hbm) (X _ _ hC) (looks_findIn X T.iC) (fun self => bind_fn X self T.tC) (by rw [sizeLine_eq]; exact (by decide : 0 ≤ 16777216)) ?_
  refine init0 (s := ⟨(hp.push (kdv_tup [])).push (excO C hp.objs.size), g, dr, tk, os⟩) T Fn (X.keeps k) (hlim.keeps k) (hg.keeps k) (hb.keeps k) hbt hget ?_ fun h' tk' t1 k' hx z => ?_
  · show A.depth + 1 < recursionLimit
    exact hroom
  · have old : ∀ b o, hp.get? b = some o → h'.get? b = some o := fun b o e => k' b o (Nat.ne_of_lt (Nat.lt_succ_of_lt (Heap.lt_size e))) (k b o e)
    exact ⟨rfl, hq h' tk' (hp.objs.size + 1) ⟨old, Nat.le_succ _, _, hx⟩⟩
end
end ExS
end PySem

namespace L2
open PySem PySem.Spec PyProof.Rows PySem.ExS
section
variable {X : Cx} {pins : List (Addr × Obj)} {σ : L2.St} {H : Hp} {s : Shared} {C fI cc cda : Addr} {f y x : Str} {k : Nat} {e : Expr} {es : List Expr} {te : TE} {ta : TA} {p pos : Pos}
theorem xd_ok {P : Program} {w : World} {H : Hp} {h : Heap} {d : Addr} {f : Str} {v : V} {u : Value} (r : RelV v u) (hn : h.Ns1 d (fun y => if y = f then some u else none)) : ObjOk P w H h d (exd d [(f, v)]) :=
  exd_ok hn (relO_put (fs := []) r fun g => True.intro)
/-- two new objects are laid and tracked -/
theorem Inv.laid2 {h' : Heap} {a d : Addr} {o u : HO} {t' : Nat} (I : Inv X pins σ H s) (k : ∀ b w, s.heap.get? b = some w → h'.get? b = some w) (ha : s.heap.objs.size ≤ a) (hd : s.heap.objs.size ≤ d) (ne : d ≠ a) (no : ∀ x, u ≠ .own x) (nt : ∀ xs, u ≠ .tup xs) (no2 : ∀ x, o ≠ .own x) (nt2 : ∀ xs, o ≠ .tup xs)
    (n1 : ObjOk X.prog X.w (upd (upd H d u) a o) h' d u) (n2 : ObjOk X.prog X.w (upd (upd H d u) a o) h' a o) : Inv X pins σ (upd (upd H d u) a o) { s with heap := h', toks := t' } := by
  have fa : H a = none := I.hok.fresh ha
  have fd : H d = none := I.hok.fresh hd
  have na : ∀ {b w}, s.heap.get? b = some w → b ≠ a := fun {b w} q => Nat.ne_of_lt (Nat.lt_of_lt_of_le (Heap.lt_size q) ha)
  have nd : ∀ {b w}, s.heap.get? b = some w → b ≠ d := fun {b w} q => Nat.ne_of_lt (Nat.lt_of_lt_of_le (Heap.lt_size q) hd)
  have up : ∀ {b w}, H b = some w → upd (upd H d u) a o b = some w := fun {b w} q => by rw [upd_ne (ne_of_none q fa), upd_ne (ne_of_none q fd)]; exact q
  refine I.un ⟨fun b w q n _ _ => k b w q, fun b w q n _ _ => ⟨w.slots, k b w q⟩, fun b w q n _ => by rw [upd_ne (na q), upd_ne (nd q)]; exact n, fun b w q _ => ⟨w, k b w q⟩, fun b xs q => up q, fun b w xs q => up q, fun b ps q => ⟨#[], by rw [up q]; simp⟩⟩ fun b w q => ?_
  by_cases hb : b = a
  · subst hb; rw [upd_same] at q; cases q; exact n2
  · rw [upd_ne hb] at q
    by_cases hb2 : b = d
    · subst hb2; rw [upd_same] at q; cases q; exact n1
    · rw [upd_ne hb2] at q
      exact (I.hok b w q).stay (fun c v _ z => k c v z) (fun c z => up z) fun c xs z => up z
/-- the value of C(e): a new exception, held -/
def tExV1 (C : Addr) (f : Str) (ta : TA) : TE := fun σ H Q => ta σ H fun vs H1 => ∃ v, vs = [v] ∧ ∀ a d, H1 a = none → H1 d = none → d ≠ a → Q (.ref a) (upd (upd H1 d (exd d [(f, v)])) a (exo a C (some d)))
def tExV0 (C : Addr) : TE := fun σ H Q => ∀ a, H a = none → Q (.ref a) (upd H a (exo a C none))
theorem pe_exv1 (T : ExCls X.prog X.K X.mg C fI cc cda) (Fn : ExFn1 X.K C fI cc cda f y) (hr : Room k X.A) (he : PA X [e] ta) (hm : X.mg x = some (.ref C)) (hg : Gl X x := by rfl) (hdb : (x == ("__debug__" : Str)) = false := by decide)
    (hst : starEach [e] X.env = [(false, eval e X.env)] := by rfl) (hpl : (backTo pos (starEach [] X.env)).any (·.1) = false := by rfl) : PE X (.Call (.Name x p) [e] [] pos) (tExV1 C f ta) := by
  refine ⟨fun pins s σ H Q I h => ?_⟩
  refine wpAny_Call_Name_kw (ld_glob I hg hm ?_ hdb)
  refine PySem.W.callWith_K (h₀ := X.base) I.ok.mod.kin T.kC (thn (he.run pos pins s σ H _ I h) fun us s1 ⟨vs, H1, I1, r1, v, ev, q⟩ => ⟨I1.kIn, ?_⟩) hst hpl
  subst ev
  obtain ⟨u, rfl, ru⟩ := vals1 r1
  show wpAny _ _ (call (.ref C) [u]) _ _ _
  obtain ⟨mb, h1, h2⟩ := I1.mod.blt
  have hlim := I1.nolimit
  have kin := I1.kIn
  have g1 := I1.mod.glob.keeps I1.bk
  have g2 := h1.keeps I1.bk
  obtain ⟨hp, g, dr, tk, os⟩ := s1
  refine wpAny_call (made1 T Fn kin hlim g1 g2 (h2 _ (by decide)) (by have := hr.dp; omega) fun h' tk' e d M => ?_)
  obtain ⟨t1, ho⟩ := M.obj
  have J := I1.laid2 (t' := tk') (o := exo e C (some d)) (u := exd d [(f, v)]) M.keep M.new M.dbig M.dne (fun x => exd_own) (fun xs => exd_tup) (fun x => exo_own) (fun xs => exo_tup) (xd_ok ru M.ns) (exo_ok ho)
  exact ⟨.ref e, _, J, rfl, q e d (I1.hok.fresh M.new) (I1.hok.fresh M.dbig) M.dne⟩
theorem pe_exv0 (T : ExCls X.prog X.K X.mg C fI cc cda) (Fn : ExFn0 X.K fI cc cda) (hr : Room k X.A) (hm : X.mg x = some (.ref C)) (hg : Gl X x := by rfl) (hdb : (x == ("__debug__" : Str)) = false := by decide) : PE X (.Call (.Name x p) [] [] pos) (tExV0 C) := by
  refine ⟨fun pins s σ H Q I h => ?_⟩
  refine wpAny_Call_Name_kw (ld_glob I hg hm ?_ hdb)
  refine PySem.W.callWith_K0 I.kIn T.kC ?_
  show wpAny _ _ (call (.ref C) []) _ _ _
  obtain ⟨mb, h1, h2⟩ := I.mod.blt
  have hlim := I.nolimit
  have kin := I.kIn
  have g1 := I.mod.glob.keeps I.bk
  have g2 := h1.keeps I.bk
  obtain ⟨hp, g, dr, tk, os⟩ := s
  refine wpAny_call (made0 T Fn kin hlim g1 g2 (h2 _ (by decide)) (by have := hr.dp; omega) fun h' tk' e M => ?_)
  obtain ⟨t1, ho⟩ := M.obj
  have J : Inv X pins σ (upd H e (exo e C none)) ⟨h', g, dr, tk', os⟩ := I.laid (t' := tk') (o := exo e C none) M.keep M.new (exo_ok ho)
  exact ⟨.ref e, _, J, rfl, h e (I.hok.fresh M.new)⟩
/-- e.f, e an exception that is held -/
def tExF (C : Addr) (f : Str) (te : TE) : TE := fun σ H Q => te σ H fun x H1 => ∃ a d fs v, x = .ref a ∧ H1 a = some (exo a C (some d)) ∧ H1 d = some (exd d fs) ∧ fs.lookup f = some v ∧ Q v H1
theorem pe_exf (T : ExCls X.prog X.K X.mg C fI cc cda) (hno : PySem.W.findIn X.K (.ref C) f = some none) (he : PE X e te) (hb : attributeBase e f X.env (eval e X.env) = eval e X.env := by rfl) : PE X (.Attribute e f pos) (tExF C f te) := by
  refine ⟨fun pins s σ H Q I h => ?_⟩
  refine attr_of hb (thn (he.run pins s σ H _ I h) fun u s1 hh => ?_)
  obtain ⟨x, H1, I1, rx, a, d, fs, v, ex, ea, ed, l, q⟩ := hh
  subst ex
  obtain rfl : u = Value.ref a := rx
  obtain ⟨t1, ha⟩ := exo_at I1.hok ea
  obtain ⟨mA, hns, hr⟩ := exd_at I1.hok ed
  obtain ⟨od, ho, hl⟩ := lookIn_ns hns
  obtain ⟨u, hu, ru⟩ := RelO.some_of (v := v) (o := mA f) (by rw [← l]; exact hr f)
  have J : PySem.W.InstAt s1.heap a { cls := .ref C, dict := some d, data := .fields #[.ref t1, .none, .none, .none, .bool false, .none] } C (some od) := ⟨ha, rfl, rfl, ho⟩
  exact HandSPX.exc_get I1.kIn J T.ga T.gg T.exC (PySem.W.findObj_own T.hdC hno rfl (by rw [hl, hu])) (handed_of ru) ⟨v, H1, I1.tok _, ru, q⟩
end
end L2

set_option Elab.async false
set_option linter.all false
set_option maxRecDepth 100000
set_option maxHeartbeats 4000000
/-! Fd7: lists joined, repeated, extended; all; count; == of data; exceptions as data. -/
namespace Fd
open PySem PySem.Spec PyProof.Rows L2
section
variable {T : List (Addr × Str)} {X : Cx} {ss : SS} {P : Post} {a b e : Expr} {es : List Expr} {xs ys : List D} {d : D} {x : Str} {p pos : Pos}
/-- xs + ys: a new list -/
theorem ev_cat (hl : xs.length + ys.length ≤ 100000) (ha : EV T X a ss (.lst xs)) (hb : EV T X b ss (.lst ys)) : EV T X (.BinOp a .Add b pos) ss (.lst (xs ++ ys)) :=
  ev_op op_cat ha hb fun B F H σ v u Q R i1 i2 q => by
    obtain ⟨l, vs, rfl, e1, e2⟩ := i1
    obtain ⟨m, us, rfl, f1, f2⟩ := i2
    refine ⟨l, m, vs, us, rfl, rfl, R.sub _ _ e1, R.sub _ _ f1, by rw [e2.length, f2.length]; exact small_len hl, fun p hp => ?_⟩
    have n := Nx.alloc (T := T) (o := .lst (vs ++ us)) R.sub hp
    exact q _ _ _ n (R.grow n) ⟨p, _, rfl, upd_same, IsL.mono n.f _ (e2.append f2)⟩
theorem isL_rep {K : PySem.W.Frag} {F : Hp} {xs : List D} {vs : List V} (h : IsL K F xs vs) : ∀ n : Nat, IsL K F (List.replicate n xs).flatten (List.replicate n vs).flatten
  | 0 => rfl
  | n + 1 => by
    rw [List.replicate_succ, List.replicate_succ, List.flatten_cons, List.flatten_cons]
    exact h.append (isL_rep h n)
/-- xs * k -/
theorem ev_rep {k : Int} (hk : 0 ≤ k ∧ k ≤ 1000) (hl : xs.length * k.toNat ≤ 100000) (ha : EV T X a ss (.lst xs)) (hb : EV T X b ss (.int k)) : EV T X (.BinOp a .Mult b pos) ss (.lst (List.replicate k.toNat xs).flatten) :=
  ev_op op_rep ha hb fun B F H σ v u Q R i1 i2 q => by
    obtain ⟨l, vs, rfl, e1, e2⟩ := i1
    refine ⟨l, k, vs, rfl, i2, R.sub _ _ e1, by omega, by omega, by rw [e2.length]; exact small_len hl, fun p hp => ?_⟩
    have n := Nx.alloc (T := T) (o := .lst (List.replicate k.toNat vs).flatten) R.sub hp
    exact q _ _ _ n (R.grow n) ⟨p, _, rfl, upd_same, IsL.mono n.f _ (isL_rep e2 _)⟩
/-- x.extend(ys) -/
theorem sv_extend (i : Nat) {x : Str} {px ap cp : Pos} (hx : ss[i]? = some (.own xs)) (he : EV T X e ss (.lst ys)) (k : P.nx (ss.set i (.own (xs ++ ys)))) (hl : xs.length + ys.length ≤ 100000)
    (hp : ∀ {te : TE}, PE X e te → PE X (.Call (.Attribute (.Name x px) "extend" ap) [e] [] cp) (tBM X.K "list" rExtend (tVar i) (tCons te tNil)) := by
      intro te h; exact pe_bm PySem.F.plainAttrs_list PySem.F.slot_list_extend PySem.F.type_list_extend mt_extend (pv _) (pa_cons h pa_nil))
    (hs : swapsWith (.Call (.Attribute (.Name x px) "extend" ap) [e] [] cp) none pos.line X.env = pure false := by rfl) :
    SV T X (.Expr (.Call (.Attribute (.Name x px) "extend" ap) [e] [] cp) pos) ss P := by
  refine SV.of (ps_expr (hp he) hs) fun B F H σ Dn R g => ?_
  have hi : i < ss.length := (List.getElem?_eq_some_iff.mp hx).1
  have hsl : i < σ.length := by rw [R.len]; exact hi
  obtain ⟨p, vs, e1, e2, e3, e4⟩ := R.slots i _ _ hx (List.getElem?_eq_getElem hsl)
  have hσ : σ[i]? = some (some (.ref p)) := by rw [List.getElem?_eq_getElem hsl, e1]
  refine ⟨.ref p, hσ, .inl ⟨rfl, vs, SqL.of e3⟩, ev_go R fun v F1 H1 n1 R1 i1 => ?_⟩
  obtain ⟨p', vs', q1, q2, q3, q4⟩ := R1.slots i _ _ hx (List.getElem?_eq_getElem hsl)
  rw [q1] at e1
  cases e1
  obtain ⟨m, us, rfl, f1, f2⟩ := i1
  refine ⟨p, m, _, us, rfl, rfl, q3, R1.sub _ _ f1, ?_, g.nx _ _ _ _ k (R1.chg hx rfl hσ rfl q2 ⟨p, _, rfl, q2, upd_same, q4.append f2⟩)⟩
  rw [q4.length, f2.length]
  exact small_len hl
theorem isL_bl {K : PySem.W.Frag} {F : Hp} : ∀ {bs : List Bool} {vs : List V}, IsL K F (bs.map D.bl) vs → vs = bs.map V.bl
  | [], _, h => h
  | b :: bs, _, h => by
    obtain ⟨v, r, rfl, h1, h2⟩ := h
    cases h1
    rw [isL_bl h2]
    rfl
/-- all(list of truth values) -/
theorem ev_all {bs : List Bool} (ha : EV T X e ss (.lst (bs.map D.bl))) (hm : X.mg "all" = none) (hc : X.calm = true := by rfl) (hg : Gl X "all" := by rfl) (he : starEach [e] X.env = [(false, eval e X.env)] := by rfl) : EV T X (.Call (.Name "all" p) [e] [] pos) ss (.bl (bs.all id)) :=
  ev_blt (cr_all hc) (evs_cons ha evs_nil he) hm (by decide +kernel) (fun B F H σ vs Q R i1 q => by
    obtain ⟨v, rfl, h⟩ := isL1 i1
    obtain ⟨l, us, rfl, e1, e2⟩ := h
    rw [isL_bl e2] at e1
    exact ⟨l, bs, rfl, SqL.of (R.sub _ _ e1), q _ F H R.nx R rfl⟩) hg (he := he)
theorem ev_any {bs : List Bool} (ha : EV T X e ss (.lst (bs.map D.bl))) (hm : X.mg "any" = none) (hc : X.calm = true := by rfl) (hg : Gl X "any" := by rfl) (he : starEach [e] X.env = [(false, eval e X.env)] := by rfl) : EV T X (.Call (.Name "any" p) [e] [] pos) ss (.bl (bs.any id)) :=
  ev_blt (cr_any hc) (evs_cons ha evs_nil he) hm (by decide +kernel) (fun B F H σ vs Q R i1 q => by
    obtain ⟨v, rfl, h⟩ := isL1 i1
    obtain ⟨l, us, rfl, e1, e2⟩ := h
    rw [isL_bl e2] at e1
    exact ⟨l, bs, rfl, SqL.of (R.sub _ _ e1), q _ F H R.nx R rfl⟩) hg (he := he)
/-! list.count(True) -/
def rCntB (K : PySem.W.Frag) : V → List V → Hp → VK → Prop := fun x xs H Q => ∃ (p : Addr) (bs : List Bool), x = .ref p ∧ xs = [.bl true] ∧ SqL K H p (bs.map V.bl) ∧ Q (.int ((bs.filter id).length : Nat)) H
def eqT : Value → Bool
  | .bool b => b
  | _ => false
theorem bool_vals : ∀ {bs : List Bool} {its : List Value}, Vals (bs.map V.bl) its → its = bs.map Value.bool
  | [], _, .nil => rfl
  | b :: bs, _, .cons r t => by
    cases r
    rw [bool_vals t]
    rfl
theorem count_bools : ∀ bs : List Bool, (bs.map Value.bool).countP eqT = (bs.filter id).length
  | [] => rfl
  | b :: bs => by
    rw [List.map_cons, List.countP_cons, count_bools bs, List.filter_cons]
    cases b
    · rfl
    · simp [eqT]
theorem mt_cntB : MtR X "list.count" (rCntB X.K) := by
  intro pins s σ H x xs v us Q I rx rxs h
  obtain ⟨p, bs, rfl, rfl, hs, q⟩ := h
  cases rx
  obtain ⟨u, rfl, ru⟩ := rxs.one
  obtain rfl : u = Value.bool true := ru
  obtain ⟨its, rv, ⟨⟨cls, dd, data, sl⟩, n, ho, hc, hdn, hd⟩, hlen⟩ := I.list hs
  simp only at hc hd
  subst hc hd
  have hi := bool_vals rv
  subst hi
  refine call_meets PySem.F.slot_list_count ⟨_, ho, rfl⟩ PySem.F.entry_list_count (PySem.F.args_list_count_2 _ _)
    (SeqAt.list_countAt p (bs.map Value.bool).toArray n dd sl (.bool true) eqT) ⟨ho, fun y hy => ?_, ?_⟩
  · have hy' : y ∈ bs.map Value.bool := by simpa using hy
    obtain ⟨b, _, rfl⟩ := List.mem_map.mp hy'
    have := eqAt_V (A := X.A.in1) (s := s) (y := .bl b) (x := .bl true) (u := .bool b) (v := .bool true) rfl rfl rfl rfl
    cases b <;> exact this
  · refine ⟨.int ((bs.filter id).length : Nat), H, I.tok _, ⟨s.toks, ?_⟩, q⟩
    show Value.int (((bs.map Value.bool).toArray.toList.countP eqT : Nat) : Int) s.toks = _
    rw [show (bs.map Value.bool).toArray.toList = bs.map Value.bool from rfl, count_bools]
theorem ev_countT {o : Expr} {bs : List Bool} {ap cp bp : Pos} {j} (ho : EV T X o ss (.lst (bs.map D.bl)))
    (hp : ∀ {to te : TE}, PE X o to → PE X (.Constant (.bool true) j bp) te → PE X (.Call (.Attribute o "count" ap) [.Constant (.bool true) j bp] [] cp) (tBM X.K "list" (rCntB X.K) to (tCons te tNil)) := by
      intro to te h h2; exact pe_bm PySem.F.plainAttrs_list PySem.F.slot_list_count PySem.F.type_list_count mt_cntB h (pa_cons h2 pa_nil)) :
    EV T X (.Call (.Attribute o "count" ap) [.Constant (.bool true) j bp] [] cp) ss (.int ((bs.filter id).length : Nat)) :=
  EV.of (hp ho (ev_bl (ss := ss))) fun B F H σ Q R q => ev_go R fun v F1 H1 n1 R1 i1 => by
    obtain ⟨l, us, rfl, e1, e2⟩ := i1
    rw [isL_bl e2] at e1
    refine ⟨.inl ⟨rfl, _, SqL.of (R1.sub _ _ e1)⟩, ev_go R1 fun w F2 H2 n2 R2 i2 => ?_⟩
    cases i2
    exact ⟨l, bs, rfl, rfl, SqL.of (R2.sub _ _ (n2.f _ _ e1)), q _ F2 H2 (n1.trans n2) R2 rfl⟩
end
/-! ### == of data -/
mutual
def D.py : D → Option PyData
  | .non => some .none | .bl b => some (.bool b) | .int i => some (.int i) | .str x => some (.str x)
  | .lst xs => (D.pys xs).map .list | .rdl xs => (D.pys xs).map .list | .tup xs => (D.pys xs).map .tuple
  | _ => none
def D.pys : List D → Option (List PyData)
  | [] => some []
  | x :: xs => match D.py x, D.pys xs with
    | some p, some ps => some (p :: ps)
    | _, _ => none
end
section
variable {K : PySem.W.Frag} {F H : Hp}
mutual
theorem py_dp (e : Ext F H) : ∀ (d : D) {v : V} {p : PyData}, Is K F d v → d.py = some p → Dp K H v p
  | .non, _, _, h, q => by cases h; cases q; exact .non
  | .bl b, _, _, h, q => by cases h; cases q; exact .bl b
  | .int i, _, _, h, q => by cases h; cases q; exact .int i
  | .str x, _, _, h, q => by cases h; cases q; exact .str x
  | .lst xs, _, _, h, q => by
    obtain ⟨a, vs, rfl, e1, e2⟩ := h
    obtain ⟨ps, hp, rfl⟩ := Option.map_eq_some_iff.mp q
    exact .lst (SqL.of (e _ _ e1)) (pys_dp e xs e2 hp)
  | .rdl xs, _, _, h, q => by
    obtain ⟨a, vs, rfl, e1, e2⟩ := h
    obtain ⟨ps, hp, rfl⟩ := Option.map_eq_some_iff.mp q
    exact .lst (ext_seqL e e1) (pys_dp e xs e2 hp)
  | .tup xs, _, _, h, q => by
    obtain ⟨a, vs, rfl, e1, e2⟩ := h
    obtain ⟨ps, hp, rfl⟩ := Option.map_eq_some_iff.mp q
    exact .tup (ext_seqT e e1) (pys_dp e xs e2 hp)
  | .ins _ _ _, _, _, _, q => by cases q
  | .dct _ _, _, _, _, q => by cases q
  | .tk _, _, _, _, q => by cases q
  | .dcT _ _, _, _, _, q => by cases q
  | .exc _ _ _, _, _, _, q => by cases q
  | .adr _, _, _, _, q => by cases q
  | .ty _, _, _, _, q => by cases q
theorem pys_dp (e : Ext F H) : ∀ (ds : List D) {vs : List V} {ps : List PyData}, IsL K F ds vs → D.pys ds = some ps → DpAll K H vs ps
  | [], _, _, h, q => by cases (show _ = _ from h); cases q; exact .nil
  | x :: xs, _, _, h, q => by
    obtain ⟨v, r, rfl, h1, h2⟩ := h
    unfold D.pys at q
    cases e1 : D.py x with
    | none => rw [e1] at q; cases q
    | some p =>
      cases e2 : D.pys xs with
      | none => rw [e1, e2] at q; cases q
      | some ps =>
        rw [e1, e2] at q
        cases q
        exact .cons (py_dp e x h1 e1) (pys_dp e xs h2 e2)
end
end
section
variable {T : List (Addr × Str)} {X : Cx} {ss : SS} {a b : Expr} {pos : Pos} {x y : D} {p q : PyData} {k : Nat}
theorem opD_eq (hr : Room k X.A) : OpD T X (compareOp .Eq) (fun x y d => ∃ p q, x.py = some p ∧ y.py = some q ∧ SeqAt.shaped p = true ∧ SeqAt.shaped q = true ∧ d = .bl (PyData.eqv p q)) := fun pins s σ H x y v u Q I rx ry ⟨F, dx, dy, d, e, nt, tb, i1, i2, ⟨p, q, h1, h2, h3, h4, h5⟩, k⟩ => by
  subst h5
  exact op_eqD hr.units pins s σ H x y v u Q I rx ry ⟨p, q, py_dp e _ i1 h1, py_dp e _ i2 h2, h3, h4, k _ F H (Nx.refl e) rfl⟩
theorem opD_ne (hr : Room k X.A) : OpD T X (compareOp .NotEq) (fun x y d => ∃ p q, x.py = some p ∧ y.py = some q ∧ SeqAt.shaped p = true ∧ SeqAt.shaped q = true ∧ d = .bl (!PyData.eqv p q)) := fun pins s σ H x y v u Q I rx ry ⟨F, dx, dy, d, e, nt, tb, i1, i2, ⟨p, q, h1, h2, h3, h4, h5⟩, k⟩ => by
  subst h5
  exact op_neD hr.units pins s σ H x y v u Q I rx ry ⟨p, q, py_dp e _ i1 h1, py_dp e _ i2 h2, h3, h4, k _ F H (Nx.refl e) rfl⟩
theorem tv_neD (hr : Room k X.A) (ha : EV T X a ss x) (hb : EV T X b ss y) (h1 : x.py = some p) (h2 : y.py = some q) (h3 : SeqAt.shaped p = true) (h4 : SeqAt.shaped q = true) : TV T X (.Compare a [.NotEq] [b] pos) ss (!PyData.eqv p q) :=
  tv_cmpD (opD_ne hr) ha hb ⟨p, q, h1, h2, h3, h4, rfl⟩
theorem tv_eqD (hr : Room k X.A) (ha : EV T X a ss x) (hb : EV T X b ss y) (h1 : x.py = some p) (h2 : y.py = some q) (h3 : SeqAt.shaped p = true) (h4 : SeqAt.shaped q = true) : TV T X (.Compare a [.Eq] [b] pos) ss (PyData.eqv p q) :=
  tv_cmpD (opD_eq hr) ha hb ⟨p, q, h1, h2, h3, h4, rfl⟩
end
/-! ### exceptions that are held -/
section
open PySem.ExS
variable {T : List (Addr × Str)} {X : Cx} {ss : SS} {e c : Expr} {es : List Expr} {d : D} {x f y : Str} {p pos : Pos} {C fI cc cda : Addr} {k : Nat}
theorem ev_exc1 (EC : ExCls X.prog X.K X.mg C fI cc cda) (Fn : ExFn1 X.K C fI cc cda f y) (hr : Room k X.A) (hm : X.mg x = some (.ref C)) (he : EV T X e ss d) (hg : Gl X x := by rfl) (hdb : (x == ("__debug__" : Str)) = false := by decide)
    (hst : starEach [e] X.env = [(false, eval e X.env)] := by rfl) (hpl : (backTo pos (starEach [] X.env)).any (·.1) = false := by rfl) : EV T X (.Call (.Name x p) [e] [] pos) ss (.exc C [f] [d]) :=
  EV.of (pe_exv1 EC Fn hr (evs_cons he evs_nil hst) hm hg hdb hst hpl) fun B F H σ Q R q => evs_go R fun vs F1 H1 n1 R1 i1 => by
    obtain ⟨v, rfl, h⟩ := isL1 i1
    refine ⟨v, rfl, fun a dd ha hd ne => ?_⟩
    have m1 := Nx.alloc (T := T) (o := exd dd [(f, v)]) R1.sub hd
    have ha' : upd H1 dd (exd dd [(f, v)]) a = none := by rw [upd_ne (Ne.symm ne)]; exact ha
    have m2 := Nx.alloc (T := T) (o := exo a C (some dd)) (F := upd F1 dd (exd dd [(f, v)])) m1.s ha'
    have m := (n1.trans m1).trans m2
    refine q _ _ _ m (R.grow m) ⟨a, some dd, [(f, v)], rfl, upd_same, rfl, .cons (Is.mono (m1.f.trans m2.f) _ h) .nil, fun d' e' => ?_, fun z => nomatch z⟩
    cases e'
    rw [upd_ne ne, upd_same]
theorem ev_exc0 (EC : ExCls X.prog X.K X.mg C fI cc cda) (Fn : ExFn0 X.K fI cc cda) (hr : Room k X.A) (hm : X.mg x = some (.ref C)) (hg : Gl X x := by rfl) (hdb : (x == ("__debug__" : Str)) = false := by decide) : EV T X (.Call (.Name x p) [] [] pos) ss (.exc C [] []) :=
  EV.of (pe_exv0 EC Fn hr hm hg hdb) fun B F H σ Q R q => fun a ha => by
    have m := Nx.alloc (T := T) (o := exo a C none) R.sub ha
    exact q _ _ _ m (R.grow m) ⟨a, none, [], rfl, upd_same, rfl, rfl, (fun d' e' => nomatch e'), fun _ => rfl⟩
theorem ev_excF (EC : ExCls X.prog X.K X.mg C fI cc cda) (hno : PySem.W.findIn X.K (.ref C) f = some none) (he : EV T X e ss (.exc C [f] [d])) (hb : attributeBase e f X.env (eval e X.env) = eval e X.env := by rfl) : EV T X (.Attribute e f pos) ss d :=
  EV.of (pe_exf EC hno he hb) fun B F H σ Q R q => ev_go R fun v F1 H1 n1 R1 i1 => by
    obtain ⟨a, od, fs, rfl, e1, e2, e3, e4, e5⟩ := i1
    cases fs with
    | nil => cases e2
    | cons q0 r =>
      cases r with
      | cons _ _ => cases e2
      | nil =>
        obtain ⟨g, v⟩ := q0
        obtain rfl : g = f := by simpa using e2
        obtain ⟨v', hv, iv⟩ := isL1 e3
        have : v = v' := by simpa using hv
        subst this
        cases od with
        | none => cases e5 rfl
        | some dd => exact ⟨a, dd, _, v, rfl, R1.sub _ _ e1, R1.sub _ _ (e4 dd rfl), by simp [List.lookup], q v F1 H1 n1 R1 iv⟩
/-- what isinstance asks of a class of exceptions -/
structure ExIs (K : PySem.W.Frag) (C : Addr) : Prop where
  cl : (PySem.W.clsIn K C).isSome = true
  ga : PySem.W.findIn K (.ref C) "__getattribute__" = some (some (.builtin "BaseException.__getattribute__"))
  gg : PySem.W.findIn K (.ref C) "__getattr__" = some none
  be : PySem.W.subIn K (.ref C) (.type "BaseException") = some true
  ca : PySem.W.findIn K (.ref C) "__class__" = some (some (.builtin "object.__class__"))
  gd : PySem.W.specialIn K (.builtin "object.__class__") "__get__" = some (some (.builtin "getset_descriptor.__get__"))
  tk : PySem.W.takesIn K (.builtin "object.__class__") = some true
  ob : PySem.W.mroIn K C (.type "object") = some true
def rIsE (K : PySem.W.Frag) : List V → Hp → VK → Prop := fun xs H Q => ∃ (a C : Addr) (od : Option Addr) (c : V) (u : Value) (b : Bool), xs = [.ref a, c] ∧ H a = some (exo a C od) ∧ (∀ d, od = some d → ∃ fs, H d = some (exd d fs)) ∧ ClsV c u ∧ ExIs K C ∧ PySem.W.kitOne K (.ref C) u = some b ∧ Q (.bl b) H
theorem call_isE : CallR X (.builtin "isinstance") (rIsE X.K) := by
  intro pins s σ H xs us Q I r h
  obtain ⟨a, C, od, c, u, b, rfl, ea, ed, k, T, e, q⟩ := h
  obtain ⟨u1, u2, rfl, r1, r2⟩ := vals2 r
  have e2 := k.eq r2
  subst e2
  cases r1
  obtain ⟨t1, ha⟩ := exo_at I.hok ea
  have J : ∃ oo, PySem.W.InstAt s.heap a { cls := .ref C, dict := od, data := .fields #[.ref t1, .none, .none, .none, .bool false, .none] } C oo := by
    cases od with
    | none => exact ⟨none, ha, rfl, rfl, trivial⟩
    | some d =>
      obtain ⟨fs, hd⟩ := ed d rfl
      obtain ⟨mA, ⟨o, es, ep, ho, _⟩, _⟩ := exd_at I.hok hd
      exact ⟨some o, ha, rfl, rfl, ho⟩
  obtain ⟨oo, J⟩ := J
  exact PySem.W.kia_one (PySem.W.kitx_exc (ox := { cls := .ref C, dict := od, data := .fields #[.ref t1, .none, .none, .none, .bool false, .none] }) (od := oo) T.cl T.ga T.gg T.be T.ca T.gd T.tk T.ob) I.kIn J e (fun z => nomatch z) fun tk => ⟨.bl b, H, I.tok tk, rfl, q⟩
/-- isinstance(e, D) -/
theorem ev_isE {ns : List Str} {xs : List D} {D' : Addr} {b : Bool} {cn : Str} {pc : Pos} (EC : ExIs X.K C) (he : EV T X e ss (.exc C ns xs)) (hcm : X.mg cn = some (.ref D')) (hk : PySem.W.kitOne X.K (.ref C) (.ref D') = some b) (hm : X.mg "isinstance" = none)
    (hcg : Gl X cn := by rfl) (hcd : (cn == ("__debug__" : Str)) = false := by decide) (hg : Gl X "isinstance" := by rfl) (hst : starEach [e, .Name cn pc] X.env = (false, eval e X.env) :: starEach [.Name cn pc] X.env := by rfl) (hst2 : starEach [.Name cn pc] X.env = [(false, eval (.Name cn pc) X.env)] := by rfl)
    (hpl : (backTo pos (starEach [.Name cn pc] X.env)).any (·.1) = false := by rfl) : EV T X (.Call (.Name "isinstance" p) [e, .Name cn pc] [] pos) ss (.bl b) :=
  EV.of (pe_callB call_isE hg hm (by decide +kernel) (pa_cons he (pa_cons (pe_glob hcg hcm (show RelV (.ref D') (.ref D') from rfl) hcd) pa_nil hst2) hst) (by decide) (by decide) hst hpl) fun B F H σ Q R q => ev_go R fun v F1 H1 n1 R1 i1 => by
    obtain ⟨a, od, fs, rfl, e1, e2, e3, e4, e5⟩ := i1
    exact ⟨a, C, od, _, _, b, rfl, R1.sub _ _ e1, fun d z => ⟨fs, R1.sub _ _ (e4 d z)⟩, .own D', EC, hk, q _ F1 H1 n1 R1 rfl⟩
/-- isinstance(e, ValueError) -/
theorem ev_isB {ns : List Str} {xs : List D} {b : Bool} {cn : Str} {tn : String} {pc : Pos} (EC : ExIs X.K C) (he : EV T X e ss (.exc C ns xs)) (hcm : X.mg cn = none) (hcv : bootBuiltins cn = some (.type tn)) (hk : PySem.W.kitOne X.K (.ref C) (.type tn) = some b) (hm : X.mg "isinstance" = none)
    (hcg : Gl X cn := by rfl) (hcn : cn ≠ "__name__" := by decide) (hcd : (cn == ("__debug__" : Str)) = false := by decide) (hg : Gl X "isinstance" := by rfl) (hst : starEach [e, .Name cn pc] X.env = (false, eval e X.env) :: starEach [.Name cn pc] X.env := by rfl) (hst2 : starEach [.Name cn pc] X.env = [(false, eval (.Name cn pc) X.env)] := by rfl)
    (hpl : (backTo pos (starEach [.Name cn pc] X.env)).any (·.1) = false := by rfl) : EV T X (.Call (.Name "isinstance" p) [e, .Name cn pc] [] pos) ss (.bl b) :=
  EV.of (pe_callB call_isE hg hm (by decide +kernel) (pa_cons he (pa_cons (pe_bltn hcg hcm hcv (show RelV (.ty tn) (.type tn) from rfl) hcn hcd) pa_nil hst2) hst) (by decide) (by decide) hst hpl) fun B F H σ Q R q => ev_go R fun v F1 H1 n1 R1 i1 => by
    obtain ⟨a, od, fs, rfl, e1, e2, e3, e4, e5⟩ := i1
    exact ⟨a, C, od, _, _, b, rfl, R1.sub _ _ e1, fun d z => ⟨fs, R1.sub _ _ (e4 d z)⟩, .ty tn, EC, hk, q _ F1 H1 n1 R1 rfl⟩
end
end Fd

set_option Elab.async false
set_option linter.all false
set_option maxRecDepth 100000
set_option maxHeartbeats 4000000
/-! Fd8: a, b = x, y; objects that are made: self.f = x in __init__, and C(..). -/
namespace Fd
open PySem PySem.Spec PyProof.Rows L2
section
variable {T : List (Addr × Str)} {X : Cx} {ss : SS} {P : Post} {a b c e : Expr} {es : List Expr} {d d1 d2 d3 : D} {x y z : Str} {pos : Pos}
theorem isL3 {K : PySem.W.Frag} {F : Hp} {x y z : D} {vs : List V} (h : IsL K F [x, y, z] vs) : ∃ u v w, vs = [u, v, w] ∧ Is K F x u ∧ Is K F y v ∧ Is K F z w := by
  obtain ⟨v, r, rfl, h1, h2⟩ := h
  obtain ⟨u, w, rfl, h3, h4⟩ := isL2 h2
  exact ⟨v, u, w, rfl, h1, h3, h4⟩
/-- a, b = x, y -/
theorem sv_par (i j : Nat) {px py pt : Pos} {kt k2 pt2} (he : EVs T X [a, b] ss [d1, d2]) (k : P.nx ((ss.set i (.d d1)).set j (.d d2))) (hN : X.N.Nodup) (hij : i ≠ j := by decide) (hc : X.calm = true := by rfl) (hi : X.N[i]? = some x := by rfl) (hj : X.N[j]? = some y := by rfl)
    (hx : X.env.scope.names.lookup x = some .local := by rfl) (hy : X.env.scope.names.lookup y = some .local := by rfl)
    (hw : swappedStores [.Tuple [.Name x px, .Name y py] kt pt] (.Tuple [a, b] k2 pt2) X.env = pure (some [x, y]) := by rfl)
    (hs : swapsWithSole [.Tuple [.Name x px, .Name y py] kt pt] (.Tuple [a, b] k2 pt2) pos.line X.env = pure false := by rfl) : SV T X (.Assign [.Tuple [.Name x px, .Name y py] kt pt] (.Tuple [a, b] k2 pt2) pos) ss P :=
  SV.of (ps_par hc hN hi hj hij hx hy he hw hs) fun B F H σ Dn R g => evs_go R fun vs F1 H1 n1 R1 i1 => by
    obtain ⟨v, w, rfl, h1, h2⟩ := isL2 i1
    exact ⟨v, w, rfl, g.nx _ _ _ _ k ((R1.put h1).put h2)⟩
theorem sv_par3 (i j l : Nat) {px py pz pt : Pos} {kt k2 pt2} (he : EVs T X [a, b, c] ss [d1, d2, d3]) (k : P.nx (((ss.set i (.d d1)).set j (.d d2)).set l (.d d3))) (hN : X.N.Nodup) (hij : i ≠ j := by decide) (hil : i ≠ l := by decide) (hjl : j ≠ l := by decide) (hc : X.calm = true := by rfl)
    (hi : X.N[i]? = some x := by rfl) (hj : X.N[j]? = some y := by rfl) (hl : X.N[l]? = some z := by rfl)
    (hx : X.env.scope.names.lookup x = some .local := by rfl) (hy : X.env.scope.names.lookup y = some .local := by rfl) (hz : X.env.scope.names.lookup z = some .local := by rfl)
    (hw : swappedStores [.Tuple [.Name x px, .Name y py, .Name z pz] kt pt] (.Tuple [a, b, c] k2 pt2) X.env = pure (some [x, y, z]) := by rfl)
    (hs : swapsWithSole [.Tuple [.Name x px, .Name y py, .Name z pz] kt pt] (.Tuple [a, b, c] k2 pt2) pos.line X.env = pure false := by rfl) : SV T X (.Assign [.Tuple [.Name x px, .Name y py, .Name z pz] kt pt] (.Tuple [a, b, c] k2 pt2) pos) ss P :=
  SV.of (ps_par3 hc hN hi hj hl hij hil hjl hx hy hz he hw hs) fun B F H σ Dn R g => evs_go R fun vs F1 H1 n1 R1 i1 => by
    obtain ⟨u, v, w, rfl, h1, h2, h3⟩ := isL3 i1
    exact ⟨u, v, w, rfl, g.nx _ _ _ _ k (((R1.put h1).put h2).put h3)⟩
/-- // by a divisor of either sign, not too great -/
def CDivX (_ j : Int) : Prop := j ≠ 0 ∧ j.natAbs.log2 < 9000
theorem op_fdivX : OpR X (binaryOp .FloorDiv) (rI CDivX fun i j => .int (i.fdiv j)) := opI fun _ _ _ _ _ _ _ hc q => floordiv_int hc.1 q (.inl (PyProof.noPylong_of_log2 hc.2))
theorem ev_fdivX {i j : Int} (hc : CDivX i j) (ha : EV T X a ss (.int i)) (hb : EV T X b ss (.int j)) : EV T X (.BinOp a .FloorDiv b pos) ss (.int (i.fdiv j)) :=
  ev_op op_fdivX ha hb fun B F H σ v u Q R i1 i2 q => ⟨i, j, i1, i2, hc, q _ F H R.nx R rfl⟩
/-! ### objects -/
theorem putF_new {f : Str} {v : V} : ∀ {fs : List (Str × V)}, f ∉ fs.map (·.1) → putF f v fs = fs ++ [(f, v)]
  | [], _ => rfl
  | (g, u) :: r, h => by
    have ne : g ≠ f := fun z => h (by simp [z])
    show (if g = f then (g, v) :: r else (g, u) :: putF f v r) = _
    rw [if_neg ne, putF_new (fs := r) fun z => h (by simp at z ⊢; exact .inr z)]
    rfl
/-- self.f = e, a new field -/
theorem sv_fldO (i : Nat) {p C : Addr} {ns : List Str} {xs : List D} {f s : Str} {po pa : Pos} (hi : ss[i]? = some (.obj p C ns xs)) (he : EV T X e ss d) (k : P.nx (ss.set i (.obj p C (ns ++ [f]) (xs ++ [d])))) (cl : Cls X.K C) (na : NoAttr X.K C f) (nf : f ∉ ns) (hl : ns.length < 1000)
    (hN : X.N[i]? = some s := by rfl) (hv : Vis X.env.scope s := by first | exact Or.inl rfl | exact Or.inr (Or.inl rfl) | exact Or.inr (Or.inr rfl)) (hd : (s == ("__debug__" : Str)) = false := by decide) (hcd : (s == ("__classdict__" : Str)) = false := by decide)
    (hs : swapsWith e (some (.Attribute (.Name s po) f pa)) pos.line X.env = pure false := by rfl) : SV T X (.Assign [.Attribute (.Name s po) f pa] e pos) ss P :=
  SV.of (ps_fld (pe_var hN hv hd hcd) he hs) fun B F H σ Dn R g => ev_go R fun v F1 H1 n1 R1 i1 => by
    have hsl : i < σ.length := by rw [R1.len]; exact (List.getElem?_eq_some_iff.mp hi).1
    obtain ⟨dx, fs, e1, e2, e3, e4, e5⟩ := R1.slots i _ _ hi (List.getElem?_eq_getElem hsl)
    have hσ : σ[i]? = some (some (.ref p)) := by rw [List.getElem?_eq_getElem hsl, e1]
    subst e4
    have key := R1.chg (o := .ins C dx (putF f v fs)) (s' := .obj p C (fs.map (·.1) ++ [f]) (xs ++ [d])) hi rfl hσ rfl e2 ⟨dx, _, rfl, e2, upd_same, by rw [putF_new nf]; simp, by rw [putF_new nf, List.map_append]; exact e5.snoc i1⟩
    exact ⟨.ref p, hσ, p, C, dx, fs, rfl, e3, cl, na, by simpa using hl, g.nx _ _ F1 _ k key⟩
end
section
variable {T : List (Addr × Str)} {K : PySem.W.Frag} {B : Hp × Hp} {F H : Hp} {σ : L2.St} {ss : SS}
/-- an own object is never changed again: a datum -/
theorem StR.freezeO {i : Nat} {C : Addr} {ns : List Str} {xs : List D} {p : Addr} (R : StR T K B F H σ ss) (h : ss[i]? = some (.obj p C ns xs)) : ∃ F', Nx T B.1 B.2 F' H ∧ Is K F' (.ins C ns xs) (.ref p) := by
  have hi : i < ss.length := (List.getElem?_eq_some_iff.mp h).1
  have hsl : i < σ.length := by rw [R.len]; exact hi
  obtain ⟨dx, fs, e, e1, e2, e3, e4⟩ := R.slots i _ _ h (List.getElem?_eq_getElem hsl)
  have hσ : σ[i]? = some (some (.ref p)) := by rw [List.getElem?_eq_getElem hsl, e]
  have hB := R.own i _ p h rfl hσ
  have xF : Ext F (upd F p (.ins C dx fs)) := Ext.upd e1
  refine ⟨upd F p (.ins C dx fs), ⟨R.bF.trans xF, R.bH, fun q u z => ?_, fun q ps z => ?_, fun q u z => ?_⟩, p, dx, fs, rfl, upd_same, e3, IsL.mono xF _ e4⟩
  · by_cases hq : q = p
    · subst hq; rw [upd_same] at z; rw [e2]; exact z
    · rw [upd_ne hq] at z; exact R.sub q u z
  · by_cases hq : q = p
    · subst hq; rw [upd_same] at z; cases z
    · rw [upd_ne hq] at z; exact absurd z (R.nt q ps)
  · by_cases hq : q = p
    · subst hq; exact .inr (.inl hB)
    · rw [upd_ne hq] at z; exact R.new q u z
end
/-- an __init__ that makes of the data ds the object d of the class C -/
def spM (T : List (Addr × Str)) (K : PySem.W.Frag) (C : Addr) (n : Nat) (pre : List D → List Str → List D → Prop) : Sp := fun vs H Q _ => ∃ H0 F p dx us ds ns xs, vs = .ref p :: us ∧ H0 p = none ∧ H0 dx = none ∧ dx ≠ p ∧ H = upd (upd H0 dx (.own p)) p (.ins C dx []) ∧ Ext F H0 ∧ (∀ p ps, F p ≠ some (.tbl ps)) ∧ LamX.Tabs T H0 ∧ IsL K F ds us ∧ ds.length = n ∧ pre ds ns xs ∧
  ∀ F1 H1, Nx T F H0 F1 H1 → Is K F1 (.ins C ns xs) (.ref p) → Q .non H1
def startO (p C : Addr) (N : List Str) (ds : List D) : SS := S.obj p C [] [] :: (ds.map S.d ++ List.replicate (N.length - (ds.length + 1)) S.no)
section
variable {T : List (Addr × Str)} {P : Program} {w : World} {K : PySem.W.Frag} {mg : Str → Option Value} {base : Heap} {C : Addr}
theorem start_strO {N : List Str} {F H : Hp} {ds : List D} {us : List V} {p dx : Addr} (hp : H p = none) (hd : H dx = none) (ne : dx ≠ p) (x : Ext F H) (nt : ∀ p ps, F p ≠ some (.tbl ps)) (tb : LamX.Tabs T H) (h : IsL K F ds us) :
    StR T K (F, H) F (upd (upd H dx (.own p)) p (.ins C dx [])) (L2.start N (.ref p :: us)) (startO p C N ds) := by
  have hF : ∀ q, H q = none → F q = none := fun q e => by
    cases z : F q with
    | none => rfl
    | some u => rw [x q u z] at e; cases e
  have hH : Ext H (upd (upd H dx (.own p)) p (.ins C dx [])) := (Ext.upd hd).trans (Ext.upd (by rw [upd_ne (Ne.symm ne)]; exact hp))
  have m0 : ∀ (i : Nat) (s : S), (startO p C N ds)[i]? = some s → s.mine = true → i = 0 := fun i s e m => by
    cases i with
    | zero => rfl
    | succ i =>
      have := start_mine (i := i) (m := N.length - (ds.length + 1)) (ds := ds) (s := s) (by simpa [startO] using e)
      rw [this] at m; cases m
  refine ⟨?_, fun _ _ h => h, .of hH, x.trans hH, nt, tb.ext hH, fun q o e => .inl (by show F q ≠ none; rw [e]; exact fun z => nomatch z), fun i s o e1 e2 => ?_, fun i s q e1 m e2 => ?_, fun i j s t q e1 e2 m1 m2 _ _ => (m0 i s e1 m1).trans (m0 j t e2 m2).symm⟩
  · unfold L2.start startO; simp [h.length]
  · cases i with
    | zero =>
      simp [startO] at e1
      subst e1
      simp [L2.start] at e2
      subst e2
      exact ⟨dx, [], rfl, hF p hp, upd_same, rfl, rfl⟩
    | succ i =>
      have e1' : (ds.map S.d ++ List.replicate (N.length - (ds.length + 1)) S.no)[i]? = some s := by simpa [startO] using e1
      have e2' : (us.map some ++ List.replicate (N.length - (ds.length + 1)) none)[i]? = some o := by
        simpa [L2.start, h.length] using e2
      have q := start_slots (N := N) (F := F) (H := H) _ i s o h e1' e2'
      have mm := start_mine e1'
      cases s with
      | no => exact True.intro
      | d x => exact q
      | own _ => cases mm
      | obj _ _ _ _ => cases mm
      | dic _ _ => cases mm
      | dicT _ _ => cases mm
  · have z := m0 i s e1 m
    subst z
    simp [L2.start] at e2
    subst e2
    exact .of hp
/-- a def of the text as it stands behind the top, its code object cdv; defaults let -/
structure FunZ (K : PySem.W.Frag) (x qual : Str) (st : Stmt) (f : Addr) (fd : FuncData) (cdv : Value) : Prop where
  ex : ∃ (oc : Value) (od : Option Addr) (dV kV doc pm : Value) (an : Option Addr) (ct : Value) (osl : Array (Option Value)),
    fd = PySem.W.fnOf x qual (defArgs st) (defBody st) (defScope st) dV kV doc pm an cdv ct ∧ K.lookup f = some ⟨oc, od, .func fd, osl⟩ ∧ PySem.W.codeIn K cdv qual = true
  kp : PySem.W.keepIn K (.ref f) = true
theorem FunZ.ok {CX : CXT} {x qual : Str} {st : Stmt} {f : Addr} {fd : FuncData} {cdv : Value} {N ps : List Str} {k : Nat} {sp : Sp} (F : FunZ K x qual st f fd cdv) (S : FnScope N ps (defScope st)) (len : ∀ vs H Q E, sp vs H Q E → vs.length = ps.length)
    (h : ∀ (A : Around) (outer : List Env) (s : Shared) (H : Hp) (vs : List V) (Q : VK) (E : XK), Room k (A.deeper (envOfC qual (defScope st) s.heap.objs.size f cdv)) → sp vs H Q E →
      ∃ t, PSs (cxOf CX P w K mg base N qual (defScope st) f cdv A outer s H E) (defBody st) t ∧ t { nx := fun _ H' => Q .non H', rt := Q } (L2.start N vs) H) : FnOk P w K mg base CX (k + 1) f fd ps sp := by
  obtain ⟨oc, od, dV, kV, doc, pm, an, ct, osl, rfl, lk, hcd⟩ := F.ex
  exact fn_of lk hcd S len h
theorem Fun.z {x qual : Str} {st : Stmt} {f : Addr} {fd : FuncData} (F : Fun K x qual st f fd) : ∃ cdv, FunZ K x qual st f fd cdv := by
  obtain ⟨oc, od, kV, doc, pm, an, cdv, ct, osl, e, lk, hcd⟩ := F.ex
  exact ⟨cdv, ⟨oc, od, .none, kV, doc, pm, an, ct, osl, e, lk, hcd⟩, F.kp⟩
/-- THE RULE for an __init__ -/
theorem init_ok {x qual : Str} {st : Stmt} {f : Addr} {fd : FuncData} {N ps : List Str} {k n : Nat} {pre : List D → List Str → List D → Prop} {cdv : Value} (F : FunZ K x qual st f fd cdv) (S' : FnScope N ps (defScope st)) (hn : ps.length = n + 1)
    (h : ∀ (A : Around) (outer : List Env) (s : Shared) (H : Hp) (E : XK) (p : Addr) (ds : List D) (ns : List Str) (xs : List D), Room k (A.deeper (envOfC qual (defScope st) s.heap.objs.size f cdv)) → ds.length = n → pre ds ns xs →
      SVs T (bodyX CX0 P w K mg base N qual st f cdv A outer s H E) (defBody st) (startO p C N ds) { nx := fun ss => ss[0]? = some (.obj p C ns xs), rt := fun _ => False }) : FnOk P w K mg base CX0 (k + 1) f fd ps (spM T K C n pre) := by
  refine F.ok S' (fun vs H Q E ⟨H0, F, p, dx, us, ds, ns, xs, e, _, _, _, _, _, _, _, i, l, _⟩ => by rw [e, hn, List.length_cons, i.length, l]) (fun A outer s H vs Q E hr hsp => ?_)
  obtain ⟨H0, F0, p, dx, us, ds, ns, xs, e, hp, hd, ne, rfl, xF, nt, tb, i, l, pr, q⟩ := hsp
  subst e
  refine ⟨_, (h A outer s _ E p ds ns xs hr l pr).nox, (F0, H0), F0, _, _, ⟨rfl, rfl⟩, start_strO hp hd ne xF nt tb i, fun ss' σ' F1 H1 e R1 => ?_, fun _ _ _ _ _ _ z => z.elim, fun _ _ _ _ z => z.elim, fun _ _ _ _ z => z.elim⟩
  obtain ⟨F2, n2, i2⟩ := R1.freezeO e
  exact q F2 H1 n2 i2
end
section
variable {T : List (Addr × Str)} {X : Cx} {ss : SS} {e : Expr} {es : List Expr} {d : D} {ds : List D} {x : Str} {p pos : Pos} {n k : Nat} {C : Addr} {ns : List Str} {xs : List D} {pre : List D → List Str → List D → Prop}
/-- the class under the module's name x, made of n data (level k), its defaults dvs -/
def MD (T : List (Addr × Str)) (P : Program) (w : World) (K : PySem.W.Frag) (mg : Str → Option Value) (base : Heap) (x : Str) (C : Addr) (n k : Nat) (pre : List D → List Str → List D → Prop) : Prop :=
  ∃ f fd ps, mg x = some (.ref C) ∧ Mk K C f ∧ ps.length = n + 1 ∧ FnOk P w K mg base CX0 k f fd ps (spM T K C n pre) ∧ Binds K fd ps []
/-- C(..) -/
theorem ev_make (G : MD T X.prog X.w X.K X.mg X.base x C n k pre) (hr : Room (k + 1) X.A) (ha : EVs T X (e :: es) ss ds) (hp : pre ds ns xs) (hn : ds.length = n := by rfl) (hg : Gl X x := by rfl) (hdb : (x == ("__debug__" : Str)) = false := by decide)
    (he : starEach (e :: es) X.env = (false, eval e X.env) :: starEach es X.env := by rfl) (hpl : (backTo pos (starEach es X.env)).any (·.1) = false := by rfl) : EV T X (.Call (.Name x p) (e :: es) [] pos) ss (.ins C ns xs) := by
  obtain ⟨f, fd, ps, h1, h2, h3, h4, h5⟩ := G
  refine EV.of (pe_make (E := E0) h2 h4 hr hg h1 h5 .nil pass0 ha hdb he hpl) fun B F H σ Q R q => evs_go R fun vs F1 H1 n1 R1 i1 => fun y dx hy hdx ne => ?_
  rw [List.append_nil]
  exact ⟨H1, F1, y, dx, vs, ds, ns, xs, rfl, hy, hdx, ne, rfl, R1.sub, R1.nt, R1.tb, i1, hn, hp, fun F2 H2 n2 i2 => ⟨rfl, q _ F2 H2 (n1.trans n2) (R1.grow n2) i2⟩⟩
end
end Fd

set_option Elab.async false
set_option linter.all false
set_option maxRecDepth 100000
set_option maxHeartbeats 4000000
/-! Fd9: isinstance of data. -/
namespace Fd
open PySem PySem.Spec PyProof.Rows L2
/-- what isinstance asks of the class of an own object -/
structure InK (K : PySem.W.Frag) (C : Addr) : Prop where
  cl : Cls K C
  ca : PySem.W.findIn K (.ref C) "__class__" = some (some (.builtin "object.__class__"))
  gd : PySem.W.specialIn K (.builtin "object.__class__") "__get__" = some (some (.builtin "getset_descriptor.__get__"))
  tk : PySem.W.takesIn K (.builtin "object.__class__") = some true
  ob : PySem.W.mroIn K C (.type "object") = some true
def D.cls (K : PySem.W.Frag) : D → Prop
  | .ins C _ _ => InK K C
  | .rdl _ => False
  | _ => True
theorem is_tyx {K : PySem.W.Frag} {F H : Hp} {d : D} {v : V} {t : Value} (h : d.ty? = some t) (c : d.cls K) (i : Is K F d v) (e : Ext F H) : TyX K H v t := by
  cases d with
  | non => cases i; cases h; exact .base .non
  | bl b => cases i; cases h; exact .base (.bl b)
  | int z => cases i; cases h; exact .base (.int z)
  | str z => cases i; cases h; exact .base (.str z)
  | lst xs => obtain ⟨a, vs, rfl, e1, _⟩ := i; cases h; exact .base (.lst (e _ _ e1))
  | ins C ns xs => obtain ⟨a, dx, fs, rfl, e1, _⟩ := i; cases h; exact .base (.ins (e _ _ e1) c.cl c.ca c.gd c.tk c.ob)
  | dct ks xs => obtain ⟨a, kvs, rfl, e1, _⟩ := i; cases h; exact .base (.dK (e _ _ e1))
  | tup xs =>
    obtain ⟨a, vs, rfl, e1, _⟩ := i
    cases h
    rcases ext_seqT e e1 with q | ⟨o, its, n, q1, q2, _⟩
    · rcases q with q | ⟨o, q⟩
      · exact .base (.tup q)
      · exact .fTuple q
    · exact .kTuple q1 q2
  | rdl _ => exact c.elim
  | _ => cases h
section
variable {T : List (Addr × Str)} {X : Cx} {ss : SS} {e : Expr} {d : D} {t : Value} {b : Bool} {cn : Str} {tn : String} {C : Addr} {p pc pos : Pos}
/-- isinstance(e, T), T a built-in type -/
theorem ev_isT (he : EV T X e ss d) (ht : d.ty? = some t) (hd : d.cls X.K) (hk : PySem.W.kitOne X.K t (.type tn) = some b) (hcm : X.mg cn = none) (hcv : bootBuiltins cn = some (.type tn)) (hm : X.mg "isinstance" = none)
    (hcg : Gl X cn := by rfl) (hcn : cn ≠ "__name__" := by decide) (hcd : (cn == ("__debug__" : Str)) = false := by decide) (hg : Gl X "isinstance" := by rfl) (hst : starEach [e, .Name cn pc] X.env = (false, eval e X.env) :: starEach [.Name cn pc] X.env := by rfl) (hst2 : starEach [.Name cn pc] X.env = [(false, eval (.Name cn pc) X.env)] := by rfl)
    (hpl : (backTo pos (starEach [.Name cn pc] X.env)).any (·.1) = false := by rfl) : EV T X (.Call (.Name "isinstance" p) [e, .Name cn pc] [] pos) ss (.bl b) :=
  EV.of (pe_callB call_isi hg hm (by decide +kernel) (pa_cons he (pa_cons (pe_bltn hcg hcm hcv (show RelV (.ty tn) (.type tn) from rfl) hcn hcd) pa_nil hst2) hst) (by decide) (by decide) hst hpl) fun B F H σ Q R q => ev_go R fun v F1 H1 n1 R1 i1 =>
    ⟨v, .ty tn, t, .type tn, b, rfl, .ty tn, is_tyx ht hd i1 R1.sub, hk, q _ F1 H1 n1 R1 rfl⟩
/-- isinstance(e, C), C an own class -/
theorem ev_isO (he : EV T X e ss d) (ht : d.ty? = some t) (hd : d.cls X.K) (hk : PySem.W.kitOne X.K t (.ref C) = some b) (hcm : X.mg cn = some (.ref C)) (hm : X.mg "isinstance" = none)
    (hcg : Gl X cn := by rfl) (hcd : (cn == ("__debug__" : Str)) = false := by decide) (hg : Gl X "isinstance" := by rfl) (hst : starEach [e, .Name cn pc] X.env = (false, eval e X.env) :: starEach [.Name cn pc] X.env := by rfl) (hst2 : starEach [.Name cn pc] X.env = [(false, eval (.Name cn pc) X.env)] := by rfl)
    (hpl : (backTo pos (starEach [.Name cn pc] X.env)).any (·.1) = false := by rfl) : EV T X (.Call (.Name "isinstance" p) [e, .Name cn pc] [] pos) ss (.bl b) :=
  EV.of (pe_callB call_isi hg hm (by decide +kernel) (pa_cons he (pa_cons (pe_glob hcg hcm (show RelV (.ref C) (.ref C) from rfl) hcd) pa_nil hst2) hst) (by decide) (by decide) hst hpl) fun B F H σ Q R q => ev_go R fun v F1 H1 n1 R1 i1 =>
    ⟨v, .ref C, t, .ref C, b, rfl, .own C, is_tyx ht hd i1 R1.sub, hk, q _ F1 H1 n1 R1 rfl⟩
end
end Fd

set_option Elab.async false
set_option linter.all false
set_option maxRecDepth 100000
set_option maxHeartbeats 4000000
/-! Fd10: the end of a law's proof: the script among the data. -/
namespace Fd
open PySem PySem.Spec PyProof.Rows L2
/-- the heap without its tables of code objects -/
def noTbl (H : Hp) : Hp := fun p => match H p with
  | some (.tbl _) => none
  | o => o
theorem noTbl_ext (H : Hp) : Ext (noTbl H) H := fun p o e => by
  unfold noTbl at e
  split at e
  · cases e
  · exact e
theorem noTbl_nt (H : Hp) : ∀ p ps, noTbl H p ≠ some (.tbl ps) := fun p ps e => by
  unfold noTbl at e
  split at e
  · cases e
  · rename_i h; exact h ps e
theorem noTbl_at {H : Hp} {p : Addr} {o : HO} (h : H p = some o) (n : ∀ ps, o ≠ .tbl ps) : noTbl H p = some o := by
  unfold noTbl
  rw [h]
  split
  · rename_i ps e; cases e; exact absurd rfl (n ps)
  · rfl
theorem noTbl_seq {K : PySem.W.Frag} {H : Hp} {a : Addr} {vs : List V} (h : SqL K H a vs) : SqL K (noTbl H) a vs := by
  rcases h with q | q
  · rcases q with q | ⟨o, q⟩
    · exact .inl (.inl (noTbl_at q fun _ z => nomatch z))
    · exact .inl (.inr ⟨o, noTbl_at q fun _ z => nomatch z⟩)
  · exact .inr q
theorem ints_is {K : PySem.W.Frag} {H : Hp} : ∀ ns : List Int, IsL K H (ns.map D.int) (ns.map V.int)
  | [] => rfl
  | n :: r => ⟨_, _, rfl, rfl, ints_is r⟩
/-- what the law's def is asked of -/
def pLaw (ds : List D) (d : D) : Prop := ∃ ns : List Int, ds = [.rdl (ns.map D.int)] ∧ ns.length ≤ 63 ∧ d = .bl true
/-- THE END: the goal that k_head and k_fill leave, from the contract of the law's def (level k, parameter x) -/
theorem walk {l : PySem.W.OpenLaw} {q : Program} {loose : List Str} {XP : (Str → Option Value) → Heap → Prop} {YP : World → Heap → Prop} {d : DefRec} {K : Params → PySem.W.Frag} {x : Str} (k : Nat) (hk : Room k callerA) (hn : l.most = some 63) (hdf : d.params.defaults = [])
    (hY : ∀ (w : World) (h : Heap), YP w h → (K w.params).In h)
    (F : ∀ (w : World) (mg : Str → Option Value) (fa : Addr) (h : Heap), (K w.params).In h → h.Ns mainGlobals mg → mg d.name = some (.ref fa) →
      ∃ fd : FuncData, (∀ (s : Shared) (u : Value), BindsTo s fd ⟨[u], []⟩ [(x, u)]) ∧ ∀ base : Heap, (K w.params).In base → base.Ns mainGlobals mg → FnOk l.prog w (K w.params) mg base CX0 k fa fd [x] (spD [] (K w.params) 1 pLaw)) :
    PySem.W.WalkO q loose XP YP l.row.toRowW d [] (fun f vs => PySem.call f vs) :=
  L2.walk_of (n := 63) (k := k) (x := x) (CX := fun _ => CX0) (sp := fun w => spD [] (K w.params) 1 pLaw) hn (by decide) hdf hk hY F
    (fun w H a ns hl _ hS => ⟨noTbl H, [.rdl (ns.map D.int)], .bl true, noTbl_ext H, noTbl_nt H, (fun p hp => nomatch hp), ⟨_, _, rfl, ⟨a, ns.map V.int, rfl, noTbl_seq hS, ints_is ns⟩, rfl⟩, rfl, ⟨ns, rfl, hl, rfl⟩, fun v F1 H1 _ e => e⟩) fun _ _ _ _ _ z => z
end Fd

set_option Elab.async false
set_option linter.all false
set_option maxRecDepth 100000
set_option maxHeartbeats 4000000
/-! Fd11: zip and enumerate. -/
namespace Fd
open PySem PySem.Spec PyProof.Rows L2
def zips (xs ys : List D) : List D := (xs.zip ys).map fun p => .tup [p.1, p.2]
theorem zips_get {xs ys : List D} {i : Nat} {x y : D} (h1 : xs[i]? = some x) (h2 : ys[i]? = some y) : (zips xs ys)[i]? = some (.tup [x, y]) := by
  unfold zips
  rw [List.getElem?_map, List.getElem?_zip_eq_some (z := (x, y)) |>.mpr ⟨h1, h2⟩]
  rfl
theorem pair_new {T : List (Addr × Str)} {K : PySem.W.Frag} {F H : Hp} {q : Addr} {x y : D} {v u : V} (s : Ext F H) (h : H q = none) (ix : Is K F x v) (iy : Is K F y u) : Nx T F H (upd F q (.tup [v, u])) (upd H q (.tup [v, u])) ∧ Is K (upd F q (.tup [v, u])) (.tup [x, y]) (.ref q) := by
  have n := Nx.alloc (T := T) (o := .tup [v, u]) s h
  exact ⟨n, q, [v, u], rfl, SqT.of upd_same, .cons (Is.mono n.f _ ix) (.cons (Is.mono n.f _ iy) .nil)⟩
section
variable {T : List (Addr × Str)} {X : Cx} {ss : SS} {e e2 : Expr} {xs ys : List D} {p pos tpos : Pos} {elts : List Expr} {kk : Nat}
theorem iv_zip (ha : EV T X e ss (.lst xs)) (hb : EV T X e2 ss (.lst ys)) (hm : X.mg "zip" = none) (hg : Gl X "zip" := by rfl) (hs : starEach [e, e2] X.env = (false, eval e X.env) :: starEach [e2] X.env := by rfl) (hs2 : starEach [e2] X.env = [(false, eval e2 X.env)] := by rfl)
    (hpl : (backTo pos (starEach [e2] X.env)).any (·.1) = false := by rfl) : IV T X (.Tuple elts kk tpos) (.Call (.Name "zip" p) [e, e2] [] pos) ss (zips xs ys) :=
  IV.of (pi_zip hg hm (evs_cons ha (evs_cons hb evs_nil hs2) hs) hs hpl) fun B F H σ R R0 q => evs_go R0 fun vs F1 H1 n1 R1 i1 => by
    obtain ⟨v, w, rfl, h1, h2⟩ := isL2 i1
    obtain ⟨a, us, rfl, a1, a2⟩ := h1
    obtain ⟨b, ws, rfl, b1, b2⟩ := h2
    refine ⟨a, b, us, ws, rfl, SqL.of (R1.sub _ _ a1), SqL.of (R1.sub _ _ b1), q _ F1 H1 n1 R1 ⟨fun i F H x1 x2 hi => ?_, fun F H x1 x2 => ?_⟩⟩
    · have hl : i < xs.length ∧ i < ys.length := by
        simp [zips] at hi; exact ⟨by omega, by omega⟩
      have sa : SqL X.K H a us := SqL.of (x2 _ _ (x1 _ _ a1))
      have sb : SqL X.K H b ws := SqL.of (x2 _ _ (x1 _ _ b1))
      obtain ⟨v, hv, iv⟩ := IsL.get' a2 (List.getElem?_eq_getElem hl.1)
      obtain ⟨u, hu, iu⟩ := IsL.get' b2 (List.getElem?_eq_getElem hl.2)
      refine ⟨⟨us, ws, v, u, sa, sb, hv, hu⟩, fun x H' y => ?_⟩
      obtain ⟨T, v', u', rfl, hT, rfl, g1, g2⟩ := y
      have e1 := g1 us sa
      have e2 := g2 ws sb
      rw [hv] at e1; rw [hu] at e2
      cases e1; cases e2
      obtain ⟨n, it⟩ := pair_new x2 hT (Is.mono x1 _ iv) (Is.mono x1 _ iu)
      exact ⟨_, _, n, zips_get (List.getElem?_eq_getElem hl.1) (List.getElem?_eq_getElem hl.2), it⟩
    · refine ⟨us, ws, SqL.of (x2 _ _ (x1 _ _ a1)), SqL.of (x2 _ _ (x1 _ _ b1)), ?_⟩
      rw [a2.length, b2.length]
      simp [zips]; omega
/-- (0, x), (1, y), .. -/
def nums : Nat → List D → List D
  | _, [] => []
  | k, x :: xs => .tup [.int (k : Nat), x] :: nums (k + 1) xs
theorem nums_len : ∀ (xs : List D) (k : Nat), (nums k xs).length = xs.length
  | [], _ => rfl
  | x :: xs, k => by simp [nums, nums_len xs]
theorem nums_get : ∀ (xs : List D) (k i : Nat) (x : D), xs[i]? = some x → (nums k xs)[i]? = some (.tup [.int ((k + i : Nat) : Int), x])
  | [], _, _, _, h => by simp at h
  | y :: ys, k, 0, x, h => by simp at h; subst h; rfl
  | y :: ys, k, i + 1, x, h => by
    simp at h
    have := nums_get ys (k + 1) i x h
    rw [show k + 1 + i = k + (i + 1) by omega] at this
    simpa [nums] using this
theorem iv_enum (ha : EV T X e ss (.lst xs)) (hm : X.mg "enumerate" = none) (hg : Gl X "enumerate" := by rfl) (hs : starEach [e] X.env = [(false, eval e X.env)] := by rfl) : IV T X (.Tuple elts kk tpos) (.Call (.Name "enumerate" p) [e] [] pos) ss (nums 0 xs) :=
  IV.of (pi_enum hg hm (evs_cons ha evs_nil hs) hs) fun B F H σ R R0 q => evs_go R0 fun vs F1 H1 n1 R1 i1 => by
    obtain ⟨v, rfl, h1⟩ := isL1 i1
    obtain ⟨a, us, rfl, a1, a2⟩ := h1
    refine ⟨a, us, rfl, SqL.of (R1.sub _ _ a1), q _ F1 H1 n1 R1 ⟨fun i F H x1 x2 hi => ?_, fun F H x1 x2 => ?_⟩⟩
    · have hl : i < xs.length := by rw [nums_len] at hi; exact hi
      have sa : SqL X.K H a us := SqL.of (x2 _ _ (x1 _ _ a1))
      obtain ⟨v, hv, iv⟩ := IsL.get' a2 (List.getElem?_eq_getElem hl)
      refine ⟨⟨us, v, sa, hv⟩, fun x H' y => ?_⟩
      obtain ⟨T, v', rfl, hT, rfl, g1⟩ := y
      have e1 := g1 us sa
      rw [hv] at e1
      cases e1
      obtain ⟨n, it⟩ := pair_new (K := X.K) (x := .int (i : Nat)) (v := .int (i : Nat)) x2 hT rfl (Is.mono x1 _ iv)
      refine ⟨_, _, n, nums_get xs 0 i _ (List.getElem?_eq_getElem hl), ?_⟩
      rw [Nat.zero_add]
      exact it
    · refine ⟨us, SqL.of (x2 _ _ (x1 _ _ a1)), ?_⟩
      rw [a2.length, nums_len]
      exact Nat.le_refl _
end
end Fd

set_option Elab.async false
set_option linter.all false
set_option maxRecDepth 100000
set_option maxHeartbeats 4000000
/-! Fd12: C(..) with default values; a target among cells. -/
namespace Fd
open PySem PySem.Spec PyProof.Rows L2
section
variable {T : List (Addr × Str)} {X : Cx} {ss : SS} {P : Post} {e a b c : Expr} {es : List Expr} {ds dd : List D} {d1 d2 d3 : D} {x y z : Str} {p pos : Pos} {n k : Nat} {C : Addr} {ns : List Str} {xs : List D} {pre : List D → List Str → List D → Prop} {dvs : List V} {dds : List Value}
/-- the class under the module's name x, made of n data, the last of them by default dds -/
def MDd (T : List (Addr × Str)) (P : Program) (w : World) (K : PySem.W.Frag) (mg : Str → Option Value) (base : Heap) (x : Str) (C : Addr) (n k : Nat) (pre : List D → List Str → List D → Prop) (dds : List Value) : Prop :=
  ∃ f fd ps, mg x = some (.ref C) ∧ Mk K C f ∧ ps.length = n + 1 ∧ FnOk P w K mg base CX0 k f fd ps (spM T K C n pre) ∧ Binds K fd ps dds
theorem ev_makeD (G : MDd T X.prog X.w X.K X.mg X.base x C n k pre dds) (hd : Vals dvs dds) (hI : ∀ F : Hp, IsL X.K F dd dvs) (hr : Room (k + 1) X.A) (ha : EVs T X (e :: es) ss ds) (hp : pre (ds ++ dd) ns xs) (hn : (ds ++ dd).length = n := by rfl) (hg : Gl X x := by rfl) (hdb : (x == ("__debug__" : Str)) = false := by decide)
    (he : starEach (e :: es) X.env = (false, eval e X.env) :: starEach es X.env := by rfl) (hpl : (backTo pos (starEach es X.env)).any (·.1) = false := by rfl) : EV T X (.Call (.Name x p) (e :: es) [] pos) ss (.ins C ns xs) := by
  obtain ⟨f, fd, ps, h1, h2, h3, h4, h5⟩ := G
  refine EV.of (pe_make (E := E0) h2 h4 hr hg h1 h5 hd pass0 ha hdb he hpl) fun B F H σ Q R q => evs_go R fun vs F1 H1 n1 R1 i1 => fun y dx hy hdx ne => ?_
  exact ⟨H1, F1, y, dx, vs ++ dvs, ds ++ dd, ns, xs, rfl, hy, hdx, ne, rfl, R1.sub, R1.nt, R1.tb, i1.append (hI F1), hn, hp, fun F2 H2 n2 i2 => ⟨rfl, q _ F2 H2 (n1.trans n2) (R1.grow n2) i2⟩⟩
/-- a, b, c = x, y, z by a tuple (targets that are cells, too) -/
theorem sv_tup3 (i j l : Nat) {px py pz pt : Pos} {kt : Nat} (he : EV T X e ss (.tup [d1, d2, d3])) (k : P.nx (((ss.set i (.d d1)).set j (.d d2)).set l (.d d3))) (hN : X.N.Nodup) (hc : X.calm = true := by rfl)
    (hi : X.N[i]? = some x := by rfl) (hj : X.N[j]? = some y := by rfl) (hl : X.N[l]? = some z := by rfl)
    (hx : Loc X.env.scope x := by first | exact Or.inl rfl | exact Or.inr rfl) (hy : Loc X.env.scope y := by first | exact Or.inl rfl | exact Or.inr rfl) (hz : Loc X.env.scope z := by first | exact Or.inl rfl | exact Or.inr rfl)
    (fx : X.fn x = true ∨ X.env.scope.names.lookup x = some .local := by first | exact .inl rfl | exact .inr rfl) (fy : X.fn y = true ∨ X.env.scope.names.lookup y = some .local := by first | exact .inl rfl | exact .inr rfl) (fz : X.fn z = true ∨ X.env.scope.names.lookup z = some .local := by first | exact .inl rfl | exact .inr rfl)
    (hs : swapsWithSole [.Tuple [.Name x px, .Name y py, .Name z pz] kt pt] e pos.line X.env = pure false := by rfl) (hw : swappedStores [.Tuple [.Name x px, .Name y py, .Name z pz] kt pt] e X.env = pure none := by rfl)
    (h1 : (assignEach [.Tuple [.Name x px, .Name y py, .Name z pz] kt pt] X.env).map (·.2) = [assign (.Tuple [.Name x px, .Name y py, .Name z pz] kt pt) X.env] := by rfl) :
    SV T X (.Assign [.Tuple [.Name x px, .Name y py, .Name z pz] kt pt] e pos) ss P :=
  SV.of (ps_asg he (pg_tup hc (pgs_cons (pg_name hN hi hx fx) (pgs_cons (pg_name hN hj hy fy) (pgs_cons (pg_name hN hl hz fz) pgs_nil)))) hs hw h1) fun B F H σ Dn R g => ev_go R fun v F1 H1 n1 R1 i1 => by
    exact tg_go (t := .many [i, j, l]) (ws := []) R1 i1 rfl (fun _ _ => .inr rfl) fun σ' R2 _ => g.nx _ _ _ _ k R2
end
end Fd

set_option Elab.async false
set_option linter.all false
set_option maxRecDepth 100000
set_option maxHeartbeats 4000000
/-! Fd13: what raises, and a lambda that is asked for it. -/
namespace Fd
open PySem PySem.Spec PyProof.Rows L2
/-- a def that raises c of the data ds, wherever pre ds -/
def spX (T : List (Addr × Str)) (K : PySem.W.Frag) (n : Nat) (pre : List D → Prop) (c : Value) : Sp := fun vs H _ E => ∃ F ds, Ext F H ∧ (∀ p ps, F p ≠ some (.tbl ps)) ∧ LamX.Tabs T H ∧ IsL K F ds vs ∧ ds.length = n ∧ pre ds ∧ ∀ d H1, Gr T H H1 → E c d H1
/-- an __init__ that raises -/
def spMX (T : List (Addr × Str)) (K : PySem.W.Frag) (C : Addr) (n : Nat) (pre : List D → Prop) (c : Value) : Sp := fun vs H _ E => ∃ H0 F p dx us ds, vs = .ref p :: us ∧ H0 p = none ∧ H0 dx = none ∧ dx ≠ p ∧ H = upd (upd H0 dx (.own p)) p (.ins C dx []) ∧ Ext F H0 ∧ (∀ p ps, F p ≠ some (.tbl ps)) ∧ LamX.Tabs T H0 ∧ IsL K F ds us ∧ ds.length = n ∧ pre ds ∧ ∀ d H1, Gr T H0 H1 → E c d H1
/-- e raises c: E is what is told of the exception -/
def RX (T : List (Addr × Str)) (X : Cx) (e : Expr) (ss : SS) (c : Value) (E : XK) : Prop := PE X e (fun σ H _ => ∃ B F, StR T X.K B F H σ ss ∧ ∀ d H1, Gr T H H1 → E c d H1)
def RS (T : List (Addr × Str)) (X : Cx) (sts : List Stmt) (ss : SS) (c : Value) (E : XK) : Prop := PSs X sts (fun _ σ H => ∃ B F, StR T X.K B F H σ ss ∧ ∀ d H1, Gr T H H1 → E c d H1)
abbrev xX (P : Program) (w : World) (K : PySem.W.Frag) (mg : Str → Option Value) (base : Heap) (N : List Str) (qual : Str) (st : Stmt) (f : Addr) (cdv : Value) (A : Around) (outer : List Env) (s : Shared) (H : Hp) (E : XK) : Cx :=
  cxOf (L2.CX P w) P w K mg base N qual (defScope st) f cdv A outer s H E
section
variable {T : List (Addr × Str)} {P : Program} {w : World} {K : PySem.W.Frag} {mg : Str → Option Value} {base : Heap} {C : Addr} {x qual : Str} {st : Stmt} {f : Addr} {fd : FuncData} {cdv c : Value} {N ps : List Str} {k n : Nat} {pre : List D → Prop}
theorem fx_ok (F : FunZ K x qual st f fd cdv) (S : FnScope N ps (defScope st)) (hn : ps.length = n)
    (h : ∀ (A : Around) (outer : List Env) (s : Shared) (H : Hp) (E : XK) (ds : List D), Room k (A.deeper (envOfC qual (defScope st) s.heap.objs.size f cdv)) → ds.length = n → pre ds →
      Takes (xX P w K mg base N qual st f cdv A outer s H E) (fun cls d _ H => E cls d H) → RS T (xX P w K mg base N qual st f cdv A outer s H E) (defBody st) (startS N ds) c E) : FnOk P w K mg base (L2.CX P w) (k + 1) f fd ps (spX T K n pre c) :=
  F.ok S (fun vs H Q E ⟨F, ds, _, _, _, i, l, _⟩ => by rw [i.length, l, hn]) fun A outer s H vs Q E hr ⟨F0, ds, x, nt, tb, i, l, p, q⟩ =>
    ⟨_, h A outer s H E ds hr l p (takes_of rfl rfl rfl rfl), (F0, H), F0, start_str x nt tb i, q⟩
theorem initx_ok (F : FunZ K x qual st f fd cdv) (S : FnScope N ps (defScope st)) (hn : ps.length = n + 1)
    (h : ∀ (A : Around) (outer : List Env) (s : Shared) (H : Hp) (E : XK) (p : Addr) (ds : List D), Room k (A.deeper (envOfC qual (defScope st) s.heap.objs.size f cdv)) → ds.length = n → pre ds →
      Takes (xX P w K mg base N qual st f cdv A outer s H E) (fun cls d _ H => E cls d H) → RS T (xX P w K mg base N qual st f cdv A outer s H E) (defBody st) (startO p C N ds) c E) : FnOk P w K mg base (L2.CX P w) (k + 1) f fd ps (spMX T K C n pre c) := by
  refine F.ok S (fun vs H Q E ⟨H0, F, p, dx, us, ds, e, _, _, _, _, _, _, _, i, l, _⟩ => by rw [e, hn, List.length_cons, i.length, l]) fun A outer s H vs Q E hr ⟨H0, F0, p, dx, us, ds, e, hp, hd, ne, eH, xF, nt, tb, i, l, pr, q⟩ => ?_
  subst e; subst eH
  have hH : Ext H0 (upd (upd H0 dx (.own p)) p (.ins C dx [])) := (Ext.upd hd).trans (Ext.upd (by rw [upd_ne (Ne.symm ne)]; exact hp))
  exact ⟨_, h A outer s _ E p ds hr l pr (takes_of rfl rfl rfl rfl), (F0, H0), F0, start_strO hp hd ne xF nt tb i, fun d H1 g => q d H1 ((Gr.of hH).trans g)⟩
end
section
variable {T : List (Addr × Str)} {X : Cx} {ss : SS} {e o a : Expr} {es : List Expr} {d : D} {ds : List D} {x m : Str} {p pos apos : Pos} {n k : Nat} {C : Addr} {ns : List Str} {xs : List D} {c : Value} {E : XK} {cnd : Expr} {A B rest : List Stmt}
theorem rs_ret (h : RX T X e ss c E) : RS T X (.Return (some e) pos :: rest) ss c E :=
  PSs.imp (pss_cons (ps_ret h) (pss_all (T := T))) fun D σ H q => q
theorem rs_ifT (hc : TV T X cnd ss true) (h : RS T X A ss c E) : RS T X (.If cnd A B pos :: rest) ss c E :=
  PSs.imp (pss_cons (ps_if hc h (pss_all (T := T) (sts := B))) (pss_all (T := T))) fun D σ H ⟨B0, F, R, q⟩ => tv_go R fun F1 H1 n1 R1 => ⟨B0, F1, R1, fun d H2 g => q d H2 (n1.h.trans g)⟩
theorem rs_raise {tn N I : String} {msg : Str} {j : Nat} {p2 pos' : Pos} (tk : Takes X (fun cls d _ H => E cls d H)) (F : ExcB tn N I) (hm : X.mg x = none) (hv : bootBuiltins x = some (.type tn)) (hg : Gl X x := by rfl) (hc : X.calm = true := by rfl) (hn : x ≠ "__name__" := by decide) (hdb : (x == ("__debug__" : Str)) = false := by decide) :
    RS T X (.Raise (some (.Call (.Name x p) [.Constant (.str msg) j p2] [] pos)) none pos' :: rest) ss (.type tn) E :=
  PSs.imp (pss_cons (ps_raiseB hc tk F hg hm hv hn hdb) (pss_all (T := T))) fun D σ H ⟨B0, F, R, q⟩ => q none H (.refl H)
/-- the class, whose making raises c -/
def MDX (T : List (Addr × Str)) (P : Program) (w : World) (K : PySem.W.Frag) (mg : Str → Option Value) (base : Heap) (x : Str) (C : Addr) (n k : Nat) (pre : List D → Prop) (c : Value) : Prop :=
  ∃ f fd ps, mg x = some (.ref C) ∧ Mk K C f ∧ ps.length = n + 1 ∧ FnOk P w K mg base (L2.CX P w) k f fd ps (spMX T K C n pre c) ∧ Binds K fd ps []
theorem rx_make {pre : List D → Prop} (G : MDX T X.prog X.w X.K X.mg X.base x C n k pre c) (hx : Passes (L2.CX X.prog X.w) X E) (hr : Room (k + 1) X.A) (ha : EVs T X (e :: es) ss ds) (hp : pre ds) (hn : ds.length = n := by rfl) (hg : Gl X x := by rfl) (hdb : (x == ("__debug__" : Str)) = false := by decide)
    (he : starEach (e :: es) X.env = (false, eval e X.env) :: starEach es X.env := by rfl) (hpl : (backTo pos (starEach es X.env)).any (·.1) = false := by rfl) : RX T X (.Call (.Name x p) (e :: es) [] pos) ss c E := by
  obtain ⟨f, fd, ps, h1, h2, h3, h4, h5⟩ := G
  refine PE.imp (pe_make (E := E) h2 h4 hr hg h1 h5 .nil hx ha hdb he hpl) fun σ H Q ⟨B, F, R, q⟩ => evs_go R fun vs F1 H1 n1 R1 i1 => fun y dx hy hdx ne => ?_
  rw [List.append_nil]
  exact ⟨H1, F1, y, dx, vs, ds, rfl, hy, hdx, ne, rfl, R1.sub, R1.nt, R1.tb, i1, hn, hp, fun d H2 g => q d H2 (n1.h.trans g)⟩
theorem no_lookup {m : Str} : ∀ {fs : List (Str × V)}, m ∉ fs.map (·.1) → fs.lookup m = none
  | [], _ => rfl
  | (g, u) :: r, h => by
    have ne : (m == g) = false := by
      rw [beq_eq_false_iff_ne]; rintro rfl; exact h List.mem_cons_self
    rw [List.lookup_cons, ne]
    exact no_lookup fun z => h (List.mem_cons_of_mem _ z)
/-- o.m(..), m an own method that raises -/
theorem rx_meth {pl : Sem Bool} {pre : List D → Prop} {f : Addr} {fd : FuncData} {ps : List Str} (he : EV T X o ss (.ins C ns xs)) (cl : Cls X.K C) (hm : Meth X.K C m f) (G : FnOk X.prog X.w X.K X.mg X.base (L2.CX X.prog X.w) k f fd ps (spX T X.K n pre c)) (hb : Binds X.K fd ps []) (hx : Passes (L2.CX X.prog X.w) X E) (hr : Room k X.A)
    (ha : EVs T X (e :: es) ss ds) (hp : pre (.ins C ns xs :: ds)) (hmn : m ∉ ns) (hn : (D.ins C ns xs :: ds).length = n := by rfl)
    (hst : starEach (e :: es) X.env = (false, eval e X.env) :: starEach es X.env := by rfl) (hpl : (backTo pos (starEach es X.env)).any (·.1) = false := by rfl)
    (ht : eval (.Call (.Attribute o m apos) (e :: es) [] pos) X.env = (do
      let ov ← eval o X.env; standAt apos.atName; let (f, first) ← holding [ov] (getMethod ov m pl); callWith pos f first (backTo pos (starEach (e :: es) X.env)) (backToKw pos (keywordEach [] X.env))) := by rfl) :
    RX T X (.Call (.Attribute o m apos) (e :: es) [] pos) ss c E := by
  refine PE.imp (pe_meth he cl hm G hr hb .nil hx ha hst hpl ht) fun σ H Q ⟨B, F, R, q⟩ => ev_go R fun v F1 H1 n1 R1 i1 => ?_
  obtain ⟨y, dx, fs, rfl, e1, e2, e3⟩ := id i1
  refine ⟨y, dx, fs, rfl, R1.sub _ _ e1, no_lookup (by rw [e2]; exact hmn), evs_go R1 fun us F2 H2 n2 R2 i2 => ?_⟩
  rw [List.append_nil]
  exact ⟨F2, _, R2.sub, R2.nt, R2.tb, IsL.cons (Is.mono n2.f _ i1) i2, hn, hp, fun d H3 g => q d H3 ((n1.h.trans n2.h).trans g)⟩
/-- o.m(..), m an own method -/
theorem ev_meth {pl : Sem Bool} {pre : List D → D → Prop} {f : Addr} (he : EV T X o ss (.ins C ns xs)) (cl : Cls X.K C) (M : OwnM T X.prog X.w X.K X.mg X.base C m n k pre f) (hr : Room k X.A)
    (ha : EVs T X (e :: es) ss ds) (hp : pre (.ins C ns xs :: ds) d) (hmn : m ∉ ns) (hn : (D.ins C ns xs :: ds).length = n := by rfl)
    (hst : starEach (e :: es) X.env = (false, eval e X.env) :: starEach es X.env := by rfl) (hpl : (backTo pos (starEach es X.env)).any (·.1) = false := by rfl)
    (ht : eval (.Call (.Attribute o m apos) (e :: es) [] pos) X.env = (do
      let ov ← eval o X.env; standAt apos.atName; let (f, first) ← holding [ov] (getMethod ov m pl); callWith pos f first (backTo pos (starEach (e :: es) X.env)) (backToKw pos (keywordEach [] X.env))) := by rfl) :
    EV T X (.Call (.Attribute o m apos) (e :: es) [] pos) ss d := by
  obtain ⟨fd, ps, hb, hps, G⟩ := M.ok
  refine EV.of (pe_meth (E := E0) he cl ⟨M.at_, M.fn, M.kp⟩ G hr hb .nil pass0 ha hst hpl ht) fun B F H σ Q R q => ev_go R fun v F1 H1 n1 R1 i1 => ?_
  obtain ⟨y, dx, fs, rfl, e1, e2, e3⟩ := id i1
  refine ⟨y, dx, fs, rfl, R1.sub _ _ e1, no_lookup (by rw [e2]; exact hmn), evs_go R1 fun us F2 H2 n2 R2 i2 => ?_⟩
  rw [List.append_nil]
  exact ⟨F2, _, d, R2.sub, R2.nt, R2.tb, IsL.cons (Is.mono n2.f _ i1) i2, hn, hp, fun v F3 H3 n3 i3 => q v F3 H3 ((n1.trans n2).trans n3) (R2.grow n3) i3⟩
end
end Fd

set_option Elab.async false
set_option linter.all false
set_option maxRecDepth 100000
set_option maxHeartbeats 4000000
/-! Fd14: a def that is handed a lambda and tells whether it raises. -/
namespace Fd
open PySem PySem.Spec PyProof.Rows L2
/-- what such a def makes of the lambda's reading: True where c comes, False else -/
def TTR (c : Value) : (XK → Hp → VK → Prop) → Hp → VK → Prop := fun tl H Q => tl (fun cls _ H' => cls = c ∧ Q (.bl true) H') H (fun _ H' => Q (.bl false) H')
theorem raises_gives {X : Cx} {Ng : List Str} {x a e q : Str} {sg : Scope} {g : Addr} {cdg c : Value} {j j' : Nat} {p1 p2 p3 p4 p5 p6 p7 p8 p9 p10 : Pos} (hge : sg.names.lookup e = some .globalImplicit) (hme : X.mg e = none) (hbe : bootBuiltins e = some c) (hne : e ≠ "__name__") (hde : (e == ("__debug__" : Str)) = false)
    (hex : PySem.W.exmOne X.K c c = some true) (h0 : ∀ f : Addr, (L2.start Ng [V.ref f])[0]? = some (some (V.ref f))) :
    LamX.GivesTo X Ng x sg g cdg [.Try [.Expr (.Call (.Name a p1) [] [] p2) p3] [.ExceptHandler (some (.Name e p4)) none [.Return (some (.Constant (.bool true) j p5)) p6] p7] [] [] p8, .Return (some (.Constant (.bool false) j' p9)) p10] a q (TTR c) := by
  intro f cc s H Q tl act hc h
  refine ⟨_, pss_cons (ps_try_only (c := c) (Wout := fun _ _ _ _ => False)
    (tb := fun W D σ HZ => ∃ Ech : XK, (∀ cls d σ' H', Ech cls d H' → W cls d σ' H') ∧ σ[0]? = some (some (.ref f)) ∧ HZ cc = some (LamX.CodeO cc q) ∧ tl Ech HZ fun _ H1 => D.nx σ H1)
    rfl rfl ⟨hge, hde, .inr ⟨hme, hbe, hne⟩⟩ LamX.takes0 (fun W pn xe tk _ => ?_) (fun b oe cls d pn _ _ => pss_one (ps_ret pe_bl))) (pss_one (ps_ret pe_bl)), ?_⟩
  · refine ⟨fun pins s' σ HZ D I hq => ?_⟩
    obtain ⟨Ech, hW, h1, h2, h3⟩ := hq
    exact (pss_one (ps_expr (pos := p3) (act W pn xe Ech p1 p2 tk hW))).run pins s' σ HZ D I ⟨h1, h2, h3⟩
  · refine ⟨fun cls _ H' => cls = c ∧ Q (.bl true) H', fun cls d σ' H' ⟨e1, e2⟩ => ?_, h0 f, hc, h⟩
    subst e1
    exact ⟨true, hex, fun _ b _ => e2, fun z => nomatch z⟩
section
variable {T : List (Addr × Str)} {X : Cx} {ss : SS} {p pos lpos : Pos} {k : Nat} {c : Value} {x a : Str} {st : Stmt} {g cA P : Addr} {fdg : FuncData} {cdg : Value} {Ng : List Str} {params : Arguments} {body : Expr} {scope : Scope}
theorem exN_gr {H H1 : Hp} (e : LamX.ExtN H H1) (t : LamX.Tabs T H1) : Gr T H H1 := ⟨fun p o h n => e p o h n, fun _ => t⟩
theorem StR.gr {B : Hp × Hp} {F H H1 : Hp} {σ : L2.St} {K : PySem.W.Frag} (R : StR T K B F H σ ss) (g : Gr T H H1) : Nx T F H F H1 :=
  ⟨fun _ _ h => h, g, fun q o h => g.k q o (R.sub q o h) (fun ps z => R.nt q ps (by rw [h, z])), fun _ _ h => h, fun q o h => .inl (by rw [h]; exact fun z => nomatch z)⟩
/-- x(lambda: body), x a def that tells whether it raises c; it does -/
theorem ev_lamR (FG : FunZ X.K x x st g fdg cdg) (hm : X.mg x = some (.ref g)) (hb : Binds X.K fdg [a] []) (Sg : FnScope Ng [a] (defScope st)) (hNg : Ng[0]? = some a) (hva : Vis (defScope st) a)
    (hG : LamX.GivesTo X Ng x (defScope st) g cdg (defBody st) a (X.env.qual ++ "<lambda>") (TTR c)) (TB : LamX.TabB X.base X.mg cA P) (hcode : X.env.code = .ref cA) (hmT : (P, X.env.qual ++ "<lambda>") ∈ T) (hu : ∀ p ∈ T, p.1 = P → p.2 = X.env.qual ++ "<lambda>")
    (hr : Room (k + 2) X.A) (L : LamX.LamS X.env.scope scope) (hdef : defaultsOf params X.env = ([], [])) (hbind : ∀ (q : Str) (cl : List (Str × Addr)) (pm cv ctv : Value), bindArgs (PySem.W.kla_fn "<lambda>" q params body scope cl pm cv ctv) ⟨[], []⟩ = pure [])
    (hbody : ∀ (A : Around) (outer : List Env) (s : Shared) (H : Hp) (E : XK) (f cc : Addr), Room k (A.deeper (LamX.lamEnv X scope s.heap.objs.size f cc)) → Takes (LamX.lamCx X A outer s H E scope f cc) (fun cls d _ H => E cls d H) → Passes (L2.CX X.prog X.w) (LamX.lamCx X A outer s H E scope f cc) E → RX T (LamX.lamCx X A outer s H E scope f cc) body ss c E)
    (hg : Gl X x := by rfl) (hdb : (x == ("__debug__" : Str)) = false := by decide) (hd : (a == ("__debug__" : Str)) = false := by decide) (hcd : (a == ("__classdict__" : Str)) = false := by decide) : EV T X (.Call (.Name x p) [.Lambda params body scope lpos] [] pos) ss (.bl true) := by
  obtain ⟨oc, od, dV, kV, doc, pm, an, ct, osl, rfl, lk, hcg⟩ := FG.ex
  refine EV.of (LamX.pe_lamcall (T := T) (TT := TTR c) (t := fun E σ H _ => ∃ B F, StR T X.K B F H σ ss ∧ ∀ d H1, Gr T H H1 → E c d H1) hg hm FG.kp lk hcg hb Sg hNg hva hG TB hcode hmT hu hr L hdef hbind (fun A outer s H E f cc hr2 => ?_) hdb hd hcd) fun B F H σ Q R q => ⟨R.tb, fun H1 e t => ?_⟩
  · have tk : Takes (LamX.lamCx X A outer s H E scope f cc) (fun cls d _ H => E cls d H) := takes_of rfl rfl rfl rfl
    exact hbody A outer s H E f cc hr2 tk (passes_call tk fun _ _ _ _ h => h)
  · have n1 := R.gr (exN_gr e t)
    have R1 := R.grow n1
    refine ⟨B, F, R1, fun d H2 g2 => ⟨rfl, ?_⟩⟩
    have n2 := n1.trans (R1.gr g2)
    exact q _ F H2 n2 (R.grow n2) rfl
end
section
variable {T : List (Addr × Str)} {P : Program} {w : World} {K : PySem.W.Frag} {mg : Str → Option Value} {base : Heap}
/-- fd_ok, the code object known -/
theorem fdz_ok {x qual : Str} {st : Stmt} {f : Addr} {fd : FuncData} {cdv : Value} {N ps : List Str} {k n : Nat} {pre : List D → D → Prop} (F : FunZ K x qual st f fd cdv) (S : FnScope N ps (defScope st)) (hn : ps.length = n)
    (h : ∀ (A : Around) (outer : List Env) (s : Shared) (H : Hp) (E : XK) (ds : List D) (d : D), Room k (A.deeper (envOfC qual (defScope st) s.heap.objs.size f cdv)) → ds.length = n → pre ds d →
      SVs T (bodyX CX0 P w K mg base N qual st f cdv A outer s H E) (defBody st) (startS N ds) { nx := fun _ => d = .non, rt := fun d' => d' = d }) : FnOk P w K mg base CX0 (k + 1) f fd ps (spD T K n pre) := by
  refine F.ok S (fun vs H Q E ⟨F, ds, d, _, _, _, i, l, _⟩ => by rw [i.length, l, hn]) fun A outer s H vs Q E hr ⟨F0, ds, d, x, nt, tb, i, l, p, q⟩ => ?_
  refine ⟨_, (h A outer s H E ds d hr l p).nox, (F0, H), F0, _, _, ⟨rfl, rfl⟩, start_str x nt tb i, fun ss' σ' F1 H1 e R1 => ?_, fun d' v ss' σ' F1 H1 e R1 i1 => ?_, fun _ _ _ _ z => z.elim, fun _ _ _ _ z => z.elim⟩
  · subst e
    exact q .non F1 H1 R1.back rfl
  · subst e
    exact q v F1 H1 R1.back i1
end
end Fd

set_option Elab.async false
set_option linter.all false
set_option maxRecDepth 100000
set_option maxHeartbeats 4000000
/-! Fd15: C(k = .., m = ..) by two keywords; False in a list of True. -/
namespace Fd
open PySem PySem.Spec PyProof.Rows L2
section
variable {X : Cx} {CX : CXT} {k : Nat} {f C : Addr} {fd : FuncData} {ps ks : List Str} {sp : Sp} {E : XK} {x : Str} {p pos : Pos} {kws : List Keyword} {tk : TA} {g : List Value → List Value → List Value} {gV : List V → List V → List V}
/-- C(k = v, ..): no value by its place -/
theorem pe_makeK0 (M : Mk X.K C f) (G : FnOk X.prog X.w X.K X.mg X.base CX k f fd ps sp) (hr : Room (k + 1) X.A) (hm : X.mg x = some (.ref C)) (hb : KBn X.K fd ps 1 ks g gV) (hx : Passes CX X E) (hkw : PK X kws tk) (hg : Gl X x := by rfl)
    (hall : (backToKw pos (keywordEach kws X.env)).all (·.1.isSome) = true := by rfl) (hks : (backToKw pos (keywordEach kws X.env)).filterMap (·.1) = ks := by rfl) (hdb : (x == ("__debug__" : Str)) = false := by decide)
    (hpl : ((backTo pos (starEach [] X.env)).any (·.1) || (backToKw pos (keywordEach kws X.env)).any (·.1.isNone)) = false := by rfl) :
    PE X (.Call (.Name x p) [] kws pos) (fun σ H Q => tk σ H fun zs H2 => zs.length = ks.length ∧ ∀ y dx, H2 y = none → H2 dx = none → dx ≠ y → sp (gV [.ref y] zs) (upd (upd H2 dx (.own y)) y (.ins C dx [])) (fun v H3 => v = .non ∧ Q (.ref y) H3) E) := by
  refine ⟨fun pins s σ H Q I h => wpAny_Call_Name_kw (ld_glob I hg hm ?_ hdb)⟩
  refine PySem.W.callWith_KW0 (h₀ := X.base) I.ok.mod.kin M.kp hall ?_ hpl
  refine thn (hkw.run pos pins s σ H _ I h) fun ws s2 ⟨zs, H2, I2, rz, l2, q2⟩ => ⟨I2.kIn, ?_⟩
  rw [hks]
  exact run_makeN (n := 0) M G hr hb hx I2 .nil rz rfl l2 q2
end
section
variable {T : List (Addr × Str)} {X : Cx} {ss : SS} {e a : Expr} {d1 d2 : D} {x k1 k2 : Str} {p pos p1 p2 : Pos} {n k : Nat} {C : Addr} {ns : List Str} {xs : List D} {pre : List D → List Str → List D → Prop}
/-- the class, made by its two parameters' names, the second one first -/
def MDk (T : List (Addr × Str)) (P : Program) (w : World) (K : PySem.W.Frag) (mg : Str → Option Value) (base : Heap) (x : Str) (C : Addr) (k : Nat) (pre : List D → List Str → List D → Prop) (k1 k2 : Str) : Prop :=
  ∃ f fd ps g gV, mg x = some (.ref C) ∧ Mk K C f ∧ FnOk P w K mg base CX0 k f fd ps (spM T K C 2 pre) ∧ KBn K fd ps 1 [k1, k2] g gV ∧ ∀ (y u v : V), gV [y] [u, v] = [y, v, u]
theorem ev_makeK (G : MDk T X.prog X.w X.K X.mg X.base x C k pre k1 k2) (hr : Room (k + 1) X.A) (h1 : EV T X e ss d1) (h2 : EV T X a ss d2) (hp : pre [d2, d1] ns xs) (hg : Gl X x := by rfl)
    (hall : (backToKw pos (keywordEach [⟨some k1, e, p1⟩, ⟨some k2, a, p2⟩] X.env)).all (·.1.isSome) = true := by rfl) (hks : (backToKw pos (keywordEach [⟨some k1, e, p1⟩, ⟨some k2, a, p2⟩] X.env)).filterMap (·.1) = [k1, k2] := by rfl) (hdb : (x == ("__debug__" : Str)) = false := by decide)
    (hpl : ((backTo pos (starEach [] X.env)).any (·.1) || (backToKw pos (keywordEach [⟨some k1, e, p1⟩, ⟨some k2, a, p2⟩] X.env)).any (·.1.isNone)) = false := by rfl) : EV T X (.Call (.Name x p) [] [⟨some k1, e, p1⟩, ⟨some k2, a, p2⟩] pos) ss (.ins C ns xs) := by
  obtain ⟨f, fd, ps, g, gV, e1, e2, e3, e4, e5⟩ := G
  refine EV.of (pe_makeK0 (E := E0) e2 e3 hr e1 e4 pass0 (pk_cons h1 (pk_cons h2 pk_nil)) hg hall hks hdb hpl) fun B F H σ Q R q => ev_go R fun v F1 H1 n1 R1 i1 => ev_go R1 fun u F2 H2 n2 R2 i2 => ⟨rfl, fun y dx hy hdx ne => ?_⟩
  rw [e5]
  exact ⟨H2, F2, y, dx, [u, v], [d2, d1], ns, xs, rfl, hy, hdx, ne, rfl, R2.sub, R2.nt, R2.tb, IsL.cons i2 (IsL.cons (Is.mono n2.f _ i1) IsL.nil), rfl, hp, fun F3 H3 n3 i3 => ⟨rfl, q _ F3 H3 ((n1.trans n2).trans n3) (R2.grow n3) i3⟩⟩
/-- False in a list of three True -/
theorem tv_inT {j : Nat} (he : EV T X e ss (.lst (List.replicate 3 (.bl true)))) (h1 : behindInMarks .In e = false := by rfl) : TV T X (.Compare (.Constant (.bool false) j p) [.In] [e] pos) ss false :=
  tv_cmp op_in_seq ev_bl he (fun B F H σ v u Q R i1 i2 q => by
    obtain ⟨a, vs, rfl, e1, e2⟩ := i2
    obtain rfl : v = .bl false := i1
    have ev : vs = [.bl true, .bl true, .bl true] := isL_bl (bs := [true, true, true]) e2
    subst ev
    exact ⟨a, _, rfl, .inl (SqL.of (R.sub _ _ e1)), rfl, rfl, q F H R.nx R⟩) h1
theorem pt_ifE {c a b : Expr} {tc ta tb : TT} (hc : PT X c tc) (ha : PT X a ta) (hb : PT X b tb) : PT X (.IfExp c a b pos) (fun σ H Q => tc σ H fun d H1 => if d = true then ta σ H1 Q else tb σ H1 Q) := by
  refine ⟨fun pins s σ H Q I h => isTrue_IfExp (thn (hc.run pins s σ H _ I h) fun d s1 ⟨H1, I1, q1⟩ => ?_)⟩
  cases d with
  | true => exact ha.run pins s1 σ H1 Q I1 q1
  | false => exact hb.run pins s1 σ H1 Q I1 q1
/-- a if c else b, as a test -/
theorem tv_ifE {c a b : Expr} {t u : Bool} (hc : TV T X c ss t) (h1 : t = true → TV T X a ss u) (h2 : t = false → TV T X b ss u) : TV T X (.IfExp c a b pos) ss u := by
  have p1 : PT X a (tTv T X.K fun ss' d' => TV T X a ss' d') := pt_fam fun _ _ h => h
  have p2 : PT X b (tTv T X.K fun ss' d' => TV T X b ss' d') := pt_fam fun _ _ h => h
  refine TV.of (pt_ifE hc p1 p2) fun B F H σ Q R q => tv_go R fun F1 H1 n1 R1 => ?_
  cases t with
  | true => exact iteT ⟨B, F1, ss, u, h1 rfl, R1, fun F2 H2 n2 R2 => q F2 H2 (n1.trans n2) R2⟩
  | false => exact iteF ⟨B, F1, ss, u, h2 rfl, R1, fun F2 H2 n2 R2 => q F2 H2 (n1.trans n2) R2⟩
end
end Fd

set_option Elab.async false
set_option linter.all false
set_option maxRecDepth 100000
set_option maxHeartbeats 4000000
/-! Fd16: the end of a law's proof with tables of code objects; raw facts to defs and methods. -/
namespace Fd
open PySem PySem.Spec PyProof.Rows L2
/-- THE END with tables: cs the makers' code objects and their tables, T the tables' names -/
theorem walkT {l : PySem.W.OpenLaw} {q : Program} {loose : List Str} {XP : (Str → Option Value) → Heap → Prop} {YP : World → Heap → Prop} {d : DefRec} {K : Params → PySem.W.Frag} {x : Str} (k : Nat) (hk : Room k callerA) (hn : l.most = some 63) (hdf : d.params.defaults = [])
    (hY : ∀ (w : World) (h : Heap), YP w h → (K w.params).In h)
    (F : ∀ (w : World) (mg : Str → Option Value) (fa : Addr) (h : Heap), YP w h → (K w.params).In h → h.Ns mainGlobals mg → mg d.name = some (.ref fa) →
      ∃ (fd : FuncData) (cs : List (Addr × Addr)) (T : List (Addr × Str)), (∀ p ∈ cs, h.get? p.2 = some { cls := .none, data := .fields #[] }) ∧ (∀ p ∈ cs, (K w.params).lookup p.2 = none) ∧ (∀ p ∈ cs, PySem.W.CodeHd h p.1 p.2) ∧ (∀ p ∈ T, p.1 ∈ cs.map (·.2)) ∧
        (∀ (s : Shared) (u : Value), BindsTo s fd ⟨[u], []⟩ [(x, u)]) ∧ ∀ base : Heap, (K w.params).In base → base.Ns mainGlobals mg → (∀ p ∈ cs, LamX.TabB base mg p.1 p.2) → FnOk l.prog w (K w.params) mg base CX0 k fa fd [x] (spD T (K w.params) 1 pLaw)) :
    PySem.W.WalkO q loose XP YP l.row.toRowW d [] (fun f vs => PySem.call f vs) := by
  refine LamX.walk_ofTs (n := 63) (k := k) (x := x) (CX := fun _ => CX0) hn (by decide) hdf hk hY (fun w mg fa h Y KX G hm => ?_) fun _ _ _ _ _ z => z
  obtain ⟨fd, cs, T, h1, h2, h3, h4, h5, h6⟩ := F w mg fa h Y KX G hm
  refine ⟨fd, cs, spD T (K w.params) 1 pLaw, h1, h2, h3, h5, fun H a ns hl _ hH hS => ?_, h6⟩
  refine ⟨noTbl H, [.rdl (ns.map D.int)], .bl true, noTbl_ext H, noTbl_nt H, fun p hp => ?_, ⟨_, _, rfl, ⟨a, ns.map V.int, rfl, noTbl_seq hS, ints_is ns⟩, rfl⟩, rfl, ⟨ns, rfl, hl, rfl⟩, fun v F1 H1 _ e => e⟩
  obtain ⟨c, hc, e⟩ := List.mem_map.mp (h4 p hp)
  exact LamX.TabS.nil (by rw [← e]; exact hH c hc)
section
variable {K : PySem.W.Frag} {mg : Str → Option Value} {h : Heap}
/-- a def of the top: its function object at f, its code object cdv -/
structure Dz (K : PySem.W.Frag) (mg : Str → Option Value) (x : Str) (st : Stmt) (f : Addr) (cdv : Value) : Prop where
  at_ : mg x = some (.ref f)
  fn : ∃ fd, Fun K x x st f fd ∧ FunZ K x x st f fd cdv
theorem dz_mk (X : K.In h) (G : h.Ns mainGlobals mg) {x : Str} {st : Stmt} {f : Addr} {oc : Value} {od an : Option Addr} {osl : Array (Option Value)} {kV doc pm cdv ct : Value} (a : PySem.W.nsIn K mainGlobals x = some (some (.ref f)))
    (l : K.lookup f = some ⟨oc, od, .func (PySem.W.fnOf x x (defArgs st) (defBody st) (defScope st) .none kV doc pm an cdv ct), osl⟩) (c : PySem.W.codeIn K cdv x = true) (k : PySem.W.keepIn K (.ref f) = true) : Dz K mg x st f cdv :=
  ⟨PySem.W.mg_of X G a, _, fun_mk l c k, ⟨oc, od, .none, kV, doc, pm, an, ct, osl, rfl, l, c⟩, k⟩
/-- a method m of the class C -/
structure Mz (K : PySem.W.Frag) (C : Addr) (m qual : Str) (st : Stmt) (f : Addr) (cdv : Value) : Prop where
  me : Meth K C m f
  fn : ∃ fd, Fun K m qual st f fd ∧ FunZ K m qual st f fd cdv
theorem mz_mk {C : Addr} {m qual : Str} {st : Stmt} {f : Addr} {oc : Value} {od an : Option Addr} {osl : Array (Option Value)} {kV doc pm cdv ct : Value} (a : PySem.W.findIn K (.ref C) m = some (some (.ref f))) (b : PySem.W.isFn K (.ref f) = true)
    (l : K.lookup f = some ⟨oc, od, .func (PySem.W.fnOf m qual (defArgs st) (defBody st) (defScope st) .none kV doc pm an cdv ct), osl⟩) (c : PySem.W.codeIn K cdv qual = true) (k : PySem.W.keepIn K (.ref f) = true) : Mz K C m qual st f cdv :=
  ⟨⟨a, b, k⟩, _, fun_mk l c k, ⟨oc, od, .none, kV, doc, pm, an, ct, osl, rfl, l, c⟩, k⟩
/-- an __init__ whose last parameter has the default value 1 -/
structure Iz (K : PySem.W.Frag) (C : Addr) (qual : Str) (st : Stmt) (f : Addr) (fd : FuncData) (cdv : Value) : Prop where
  mk' : Mk K C f
  z : FunZ K "__init__" qual st f fd cdv
  d : FunD K "__init__" qual (defArgs st) (defBody st) (defScope st) [.int 1] [] f fd
theorem iz_mk {C Td : Addr} {qual : Str} {st : Stmt} {f : Addr} {oc oc2 : Value} {od od2 an : Option Addr} {osl osl2 : Array (Option Value)} {kV doc pm cdv ct : Value} {arr : Array Value} {n2 : Nat} (m1 : PySem.W.makesIn K C = true) (a : PySem.W.findIn K (.ref C) "__init__" = some (some (.ref f))) (b : PySem.W.isFn K (.ref f) = true) (kC : PySem.W.keepIn K (.ref C) = true)
    (l : K.lookup f = some ⟨oc, od, .func (PySem.W.fnOf "__init__" qual (defArgs st) (defBody st) (defScope st) (.ref Td) kV doc pm an cdv ct), osl⟩) (c : PySem.W.codeIn K cdv qual = true) (k : PySem.W.keepIn K (.ref f) = true)
    (t : K.lookup Td = some ⟨oc2, od2, .seq arr n2, osl2⟩) (e : ∃ tk, arr.toList = [Value.int 1 tk]) : Iz K C qual st f (PySem.W.fnOf "__init__" qual (defArgs st) (defBody st) (defScope st) (.ref Td) kV doc pm an cdv ct) cdv := by
  obtain ⟨tk, e⟩ := e
  refine ⟨⟨m1, a, b, kC⟩, ⟨⟨oc, od, .ref Td, kV, doc, pm, an, ct, osl, rfl, l, c⟩, k⟩, ⟨oc, od, .ref Td, kV, doc, pm, an, cdv, ct, osl, rfl, l, c, .inr ⟨by simp, Td, _, arr.toList, n2, rfl, t, by simp, ?_⟩, .inl rfl⟩, k⟩
  rw [e]
  exact .cons ⟨_, rfl⟩ .nil
end
end Fd

set_option Elab.async false
set_option linter.all false
set_option maxRecDepth 100000
set_option maxHeartbeats 4000000
/-! Fd17: texts: methods, slices, signs; str of an own object; f-strings. -/
namespace Fd
open PySem PySem.Spec PyProof.Rows L2
section
variable {T : List (Addr × Str)} {X : Cx} {ss : SS} {o e e1 e2 : Expr} {x y z : Str} {d dy : D} {p pos apos p2 : Pos} {i j : Int}
/-- o.m(e), o a text -/
theorem ev_m1 {id : String} {name : Str} {r : V → List V → Hp → VK → Prop} (slot : Slot "str" name id) (ty : typeOf (.builtin id) = pure (.type "method_descriptor")) (rule : MtR X id r) (ho : EV T X o ss (.str x)) (he : EV T X e ss dy)
    (k : ∀ B F H σ u Q, StR T X.K B F H σ ss → Is X.K F dy u → (∀ z F1 H1, Nx T F H F1 H1 → StR T X.K B F1 H1 σ ss → Is X.K F1 d z → Q z H1) → r (.str x) [u] H Q)
    (hs : starEach [e] X.env = [(false, eval e X.env)] := by rfl) (hbase : attributeBase o name X.env (eval o X.env) = eval o X.env := by rfl) (hline : (apos.endLine == pos.line) = true := by rfl) : EV T X (.Call (.Attribute o name apos) [e] [] pos) ss d :=
  EV.of (pe_m1 slot ty rule ho he hs hbase hline) fun B F H σ Q R q => ev_go R fun v F1 H1 n1 R1 i1 => by
    cases (show v = .str x from i1)
    refine ⟨⟨x, rfl⟩, ev_go R1 fun u F2 H2 n2 R2 i2 => k B F2 H2 σ u Q R2 i2 fun z F3 H3 n3 R3 i3 => q z F3 H3 ((n1.trans n2).trans n3) R3 i3⟩
theorem ev_unprefix (hl : x.length ≤ 100000) (ho : EV T X o ss (.str x)) (he : EV T X e ss (.str y)) (hs : starEach [e] X.env = [(false, eval e X.env)] := by rfl) (hbase : attributeBase o "removeprefix" X.env (eval o X.env) = eval o X.env := by rfl) (hline : (apos.endLine == pos.line) = true := by rfl) :
    EV T X (.Call (.Attribute o "removeprefix" apos) [e] [] pos) ss (.str (Txt.removeprefix x y)) :=
  ev_m1 PySem.F.slot_str_removeprefix PySem.F.type_str_removeprefix mt_removeprefix ho he (fun B F H σ u Q R i q => by
    cases (show u = .str y from i)
    exact ⟨x, y, rfl, rfl, small_len hl, q _ F H R.nx R rfl⟩) hs hbase hline
theorem ev_starts (ho : EV T X o ss (.str x)) (he : EV T X e ss (.str y)) (hs : starEach [e] X.env = [(false, eval e X.env)] := by rfl) (hbase : attributeBase o "startswith" X.env (eval o X.env) = eval o X.env := by rfl) (hline : (apos.endLine == pos.line) = true := by rfl) :
    EV T X (.Call (.Attribute o "startswith" apos) [e] [] pos) ss (.bl (Txt.startswith x y)) :=
  ev_m1 PySem.F.slot_str_startswith PySem.F.type_str_startswith mt_startswith ho he (fun B F H σ u Q R i q => by
    cases (show u = .str y from i)
    exact ⟨x, y, rfl, rfl, q _ F H R.nx R rfl⟩) hs hbase hline
theorem ev_part (hy : (y.length == 0) = false) (hl : x.length ≤ 100000) (ho : EV T X o ss (.str x)) (he : EV T X e ss (.str y)) (hs : starEach [e] X.env = [(false, eval e X.env)] := by rfl) (hbase : attributeBase o "partition" X.env (eval o X.env) = eval o X.env := by rfl) (hline : (apos.endLine == pos.line) = true := by rfl) :
    EV T X (.Call (.Attribute o "partition" apos) [e] [] pos) ss (.tup [.str (Txt.partition x y).1, .str (Txt.partition x y).2.1, .str (Txt.partition x y).2.2]) :=
  ev_m1 PySem.F.slot_str_partition PySem.F.type_str_partition mt_partition ho he (fun B F H σ u Q R i q => by
    cases (show u = .str y from i)
    refine ⟨x, y, rfl, rfl, hy, small_len hl, fun a ha => ?_⟩
    exact q _ _ _ (Nx.alloc R.sub ha) (R.alloc ha) ⟨a, _, rfl, SqT.of upd_same, IsL.cons rfl (IsL.cons rfl (IsL.cons rfl IsL.nil))⟩) hs hbase hline
theorem isL_strs {K : PySem.W.Frag} {F : Hp} : ∀ ys : List Str, IsL K F (ys.map D.str) (ys.map V.str)
  | [] => rfl
  | y :: r => ⟨_, _, rfl, rfl, isL_strs r⟩
theorem ev_split (hy : (y.length == 0) = false) (hl : x.length ≤ 99990) (ho : EV T X o ss (.str x)) (he : EV T X e ss (.str y)) (hs : starEach [e] X.env = [(false, eval e X.env)] := by rfl) (hbase : attributeBase o "split" X.env (eval o X.env) = eval o X.env := by rfl) (hline : (apos.endLine == pos.line) = true := by rfl) :
    EV T X (.Call (.Attribute o "split" apos) [e] [] pos) ss (.lst ((Txt.split x y).map D.str)) :=
  ev_m1 PySem.F.slot_str_split PySem.F.type_str_split mt_split ho he (fun B F H σ u Q R i q => by
    cases (show u = .str y from i)
    refine ⟨x, y, rfl, rfl, hy, by rw [sizeLine_eq]; omega, fun a ha => ?_⟩
    exact q _ _ _ (Nx.alloc R.sub ha) (R.alloc ha) ⟨a, _, rfl, upd_same, isL_strs _⟩) hs hbase hline
/-- x[i] -/
theorem ev_sign {c : Nat} (h : ∃ n : Nat, i = n ∧ x.cps.toList[n]? = some c) (hl : x.length ≤ 100000) (ha : EV T X o ss (.str x)) (hb : EV T X e ss (.int i)) (hs : PlainIxT e := by exact fun _ _ => rfl) : EV T X (.Subscript o e pos) ss (.str ⟨#[c]⟩) :=
  EV.of (pe_item_str ha hb hs) fun B F H σ Q R q => ev_go R fun v F1 H1 n1 R1 i1 => ev_go R1 fun u F2 H2 n2 R2 i2 => by
    obtain ⟨n, rfl, hn⟩ := h
    cases (show v = .str x from i1)
    cases (show u = .int _ from i2)
    have hlt : n < x.length := by
      have := (List.getElem?_eq_some_iff.mp hn).1
      simpa [Str.length] using this
    refine ⟨x, _, c, rfl, rfl, by omega, by omega, by omega, ?_, q _ F2 H2 (n1.trans n2) R2 rfl⟩
    rw [← Array.getElem?_toList]
    simpa using hn
/-- x[lo:hi] -/
def PV (T : List (Addr × Str)) (X : Cx) (o : Option Expr) (ss : SS) (l : Option Int) : Prop := (o = none ∧ l = none) ∨ ∃ e i, o = some e ∧ l = some i ∧ EV T X e ss (.int i)
theorem pv_none : PV T X none ss none := .inl ⟨rfl, rfl⟩
theorem pv_some (h : EV T X e ss (.int i)) : PV T X (some e) ss (some i) := .inr ⟨e, i, rfl, rfl, h⟩
def tPV (T : List (Addr × Str)) (K : PySem.W.Frag) (ss : SS) (l : Option Int) : TO := fun σ H Q => ∃ B F, StR T K B F H σ ss ∧ ∀ F1 H1, Nx T F H F1 H1 → StR T K B F1 H1 σ ss → Q l H1
theorem po_pv {o : Option Expr} {l : Option Int} (h : PV T X o ss l) : PO X o (tPV T X.K ss l) := by
  rcases h with ⟨rfl, rfl⟩ | ⟨e, i, rfl, rfl, h⟩
  · exact ⟨fun pins s σ H Q I ⟨B, F, R, q⟩ => (po_none (X := X)).run pins s σ H Q I (q F H R.nx R)⟩
  · refine ⟨fun pins s σ H Q I ⟨B, F, R, q⟩ => (po_some h).run pins s σ H Q I (ev_go R fun v F1 H1 n1 R1 i1 => ?_)⟩
    exact ⟨i, i1, q F1 H1 n1 R1⟩
theorem ev_cut {lo hi : Option Expr} {l u : Option Int} (hz : x.length ≤ 100000) (ha : EV T X o ss (.str x)) (hl : PV T X lo ss l) (hu : PV T X hi ss u) : EV T X (.Subscript o (.Slice lo hi none p2) pos) ss (.str (cutS x l u)) :=
  EV.of (pe_slice sl_str ha (po_pv hl) (po_pv hu)) fun B F H σ Q R q => ev_go R fun v F1 H1 n1 R1 i1 => by
    cases (show v = .str x from i1)
    exact ⟨B, F1, R1, fun F2 H2 n2 R2 => ⟨B, F2, R2, fun F3 H3 n3 R3 => ⟨x, rfl, small_len hz, q _ F3 H3 ((n1.trans n2).trans n3) R3 rfl⟩⟩⟩
/-- int(x) -/
theorem ev_intS {n : Int} (hn : PySem.intText? x = some n) (hl : x.length ≤ 640) (ha : EV T X e ss (.str x)) (hm : X.mg "int" = none) (hg : Gl X "int" := by rfl) (he : starEach [e] X.env = [(false, eval e X.env)] := by rfl) : EV T X (.Call (.Name "int" p) [e] [] pos) ss (.int n) :=
  ev_bty call_int_str (evs_cons ha evs_nil he) hm (by decide +kernel) (fun B F H σ vs Q R i1 q => by
    obtain ⟨v, rfl, h⟩ := isL1 i1
    cases (show v = .str x from h)
    exact ⟨x, n, rfl, hn, hl, q _ F H R.nx R rfl⟩) hg (he := he)
/-- c in x, c not in x: a sign -/
theorem ev_inC {c : Nat} (ha : EV T X o ss (.str ⟨#[c]⟩)) (hb : EV T X e ss (.str x)) (h1 : behindInMarks .In e = false := by rfl) : EV T X (.Compare o [.In] [e] pos) ss (.bl (decide (c ∈ x.cps.toList))) :=
  ev_cmp op_in_sign ha hb (fun B F H σ v u Q R i1 i2 q => by
    cases (show v = .str ⟨#[c]⟩ from i1); cases (show u = .str x from i2)
    exact ⟨c, x, rfl, rfl, q _ F H R.nx R rfl⟩) h1
theorem tv_notInC {c : Nat} (ha : EV T X o ss (.str ⟨#[c]⟩)) (hb : EV T X e ss (.str x)) (h1 : behindInMarks .NotIn e = false := by rfl) : TV T X (.Compare o [.NotIn] [e] pos) ss (!decide (c ∈ x.cps.toList)) :=
  tv_cmp op_notIn_sign ha hb (fun B F H σ v u Q R i1 i2 q => by
    cases (show v = .str ⟨#[c]⟩ from i1); cases (show u = .str x from i2)
    exact ⟨c, x, rfl, rfl, q F H R.nx R⟩) h1
/-- x is None -/
theorem is_non {K : PySem.W.Frag} {F : Hp} {d : D} {v : V} (h : Is K F d v) (hd : d ≠ .non) : v ≠ .non := by
  intro e; subst e
  cases d with
  | non => exact hd rfl
  | bl b => cases (show V.non = .bl b from h)
  | int i => cases (show V.non = .int i from h)
  | str x => cases (show V.non = .str x from h)
  | lst xs => obtain ⟨a, vs, e, _⟩ := h; cases e
  | rdl xs => obtain ⟨a, vs, e, _⟩ := h; cases e
  | tup xs => obtain ⟨a, vs, e, _⟩ := h; cases e
  | ins C ns xs => obtain ⟨a, dx, fs, e, _⟩ := h; cases e
  | dct ks xs => obtain ⟨a, kvs, e, _⟩ := h; cases e
  | tk k => obtain ⟨a, e, _⟩ := h; cases e
  | dcT ks xs => obtain ⟨a, kvs, e, _⟩ := h; cases e
  | exc C ns xs => obtain ⟨a, od, fs, e, _⟩ := h; cases e
  | adr a => cases (show V.non = .ref a from h)
  | ty n => cases (show V.non = .ty n from h)
  | hx a dd f x => obtain ⟨e, _⟩ := h; cases e
theorem tv_isN (b : Bool) (ha : EV T X o ss d) (hb : (b = true ∧ d = .non) ∨ (b = false ∧ d ≠ .non)) {j : Nat} {pn : Pos} (h1 : behindInMarks .Is (.Constant .none j pn) = false := by rfl) : TV T X (.Compare o [.Is] [.Constant .none j pn] pos) ss b :=
  tv_cmp op_isN ha ev_non (fun B F H σ v u Q R i1 i2 q => by
    refine ⟨i2, ?_⟩
    rcases hb with ⟨rfl, rfl⟩ | ⟨rfl, hd⟩
    · cases (show v = .non from i1)
      exact q F H R.nx R
    · rw [decide_eq_false (is_non i1 hd)]
      exact q F H R.nx R) h1
end
end Fd

set_option Elab.async false
set_option linter.all false
set_option maxRecDepth 100000
set_option maxHeartbeats 4000000
/-! Fd18: an own exception with one attribute, raised and caught with its name. -/
namespace Fd
open PySem PySem.Spec PyProof.Rows L2 PySem.ExS
section
variable {X : Cx} {C fI cc cda : Addr} {f y x : Str} {k : Nat} {e : Expr} {ta : TA} {p pos : Pos}
/-- C(e), to be raised: its dict is known -/
theorem pmk_exv1 (EC : ExCls X.prog X.K X.mg C fI cc cda) (Fn : ExFn1 X.K C fI cc cda f y) (rs : Raises X (.ref C)) (hr : Room k X.A) (he : PA X [e] ta) (hm : X.mg x = some (.ref C)) (hg : Gl X x := by rfl) (hdb : (x == ("__debug__" : Str)) = false := by decide)
    (hst : starEach [e] X.env = [(false, eval e X.env)] := by rfl) (hpl : (backTo pos (starEach [] X.env)).any (·.1) = false := by rfl) :
    PMk X (.Call (.Name x p) [e] [] pos) (fun σ H Q => ta σ H fun vs H1 => ∃ v, vs = [v] ∧ ∀ d, H1 d = none → Q (.ref C) (some d) (upd H1 d (.xd [(f, v)]))) := by
  intro pins s σ H Q I h
  refine wpAny_Call_Name_kw (ld_glob I hg hm ?_ hdb)
  refine PySem.W.callWith_K (h₀ := X.base) I.ok.mod.kin EC.kC (thn (he.run pos pins s σ H _ I h) fun us s1 ⟨vs, H1, I1, r1, v, ev, q⟩ => ⟨I1.kIn, ?_⟩) hst hpl
  subst ev
  obtain ⟨u, rfl, ru⟩ := vals1 r1
  show wpAny _ _ (call (.ref C) [u]) _ _ _
  obtain ⟨mb, h1, h2⟩ := I1.mod.blt
  have hlim := I1.nolimit
  have kin := I1.kIn
  have g1 := I1.mod.glob.keeps I1.bk
  have g2 := h1.keeps I1.bk
  have bare := I1.bare
  obtain ⟨hp, g, dr, tk, os⟩ := s1
  refine wpAny_call (made1 EC Fn kin hlim g1 g2 (h2 _ (by decide)) (by have := hr.dp; omega) fun h' tk' a d M => ?_)
  obtain ⟨t1, ho⟩ := M.obj
  obtain ⟨G, gG, gN⟩ := restrict h' fun b => !decide (b = a)
  have Ga : G.get? a = none := gN a (by simp)
  have Go : ∀ b, b ≠ a → G.get? b = h'.get? b := fun b nb => gG b (by simpa using nb)
  have old : ∀ b o, hp.get? b = some o → G.get? b = some o := fun b o e => by
    rw [Go b (Nat.ne_of_lt (Nat.lt_of_lt_of_le (Heap.lt_size e) M.new))]
    exact M.keep b o e
  have Gd : G.Ns1 d (fun y => if y = f then some u else none) := by
    obtain ⟨od, es, ep, e1, c⟩ := M.ns
    exact ⟨od, es, ep, by rw [Go d M.dne]; exact e1, c⟩
  have okd : ObjOk X.prog X.w (upd H1 d (.xd [(f, v)])) G d (.xd [(f, v)]) := ⟨_, Gd, relO_put (fs := []) ru fun g => True.intro⟩
  have J : Inv X pins σ (upd H1 d (.xd [(f, v)])) ⟨G, g, dr, tk', os⟩ := I1.laid (t' := tk') (o := .xd [(f, v)]) old M.dbig okd
  have na : upd H1 d (.xd [(f, v)]) a = none := by rw [upd_ne (Ne.symm M.dne)]; exact I1.hok.fresh M.new
  exact ⟨a, _, _, ⟨G, g, dr, tk', os⟩, _, .ref C, some d, rfl, J, fun b o e => by
    have nb : b ≠ a := fun z => by rw [z] at e; rw [show ({ heap := G, gens := g, drawn := dr, toks := tk', os := os } : Shared).heap.get? a = none from Ga] at e; cases e
    exact (Go b nb).symm.trans e, Ga, ho, ⟨rfl, rfl⟩, rfl, rfl, na, rfl, bare, rs, q d (I1.hok.fresh M.dbig)⟩
end
/-- what is told of a raised exception: its class and its dict -/
def Told (C : Addr) (f : Str) (v : V) (c : Value) (d : Option Addr) (H : Hp) : Prop := c = .ref C ∧ ∃ dd, d = some dd ∧ H dd = some (.xd [(f, v)])
/-- a def that raises, J told of the exception -/
def spY (T : List (Addr × Str)) (K : PySem.W.Frag) (n : Nat) (pre : List D → (Value → Option Addr → Hp → Prop) → Prop) : Sp := fun vs H _ E => ∃ F ds J, Ext F H ∧ (∀ p ps, F p ≠ some (.tbl ps)) ∧ LamX.Tabs T H ∧ IsL K F ds vs ∧ ds.length = n ∧ pre ds J ∧ ∀ c d H1, Gr T H H1 → J c d H1 → E c d H1
def RY (T : List (Addr × Str)) (X : Cx) (sts : List Stmt) (ss : SS) (J : Value → Option Addr → Hp → Prop) (E : XK) : Prop := PSs X sts (fun _ σ H => ∃ B F, StR T X.K B F H σ ss ∧ ∀ c d H1, Gr T B.2 H1 → J c d H1 → E c d H1)
abbrev AllRy (T : List (Addr × Str)) (X : Cx) (sts : List Stmt) (J : Value → Option Addr → Hp → Prop) (E : XK) : TS := fun _ σ H => ∃ B F ss, RY T X sts ss J E ∧ StR T X.K B F H σ ss ∧ ∀ c d H1, Gr T B.2 H1 → J c d H1 → E c d H1
section
variable {T : List (Addr × Str)} {X : Cx} {ss : SS} {P : Post} {st : Stmt} {sts rest A B : List Stmt} {e cnd : Expr} {J : Value → Option Addr → Hp → Prop} {E : XK} {pos p : Pos} {C fI cc cda : Addr} {f y x : Str} {k n : Nat} {d : D} {z : Str} {pos' : Pos}
theorem pss_ry : PSs X sts (AllRy T X sts J E) := ⟨fun pins s σ H D I ⟨B, F, ss, h, R, q⟩ => h.run pins s σ H D I ⟨B, F, R, q⟩⟩
theorem ry_cons (h : SV T X st ss ⟨fun ss' => RY T X rest ss' J E, fun _ => False, fun _ => False, fun _ => False⟩) : RY T X (st :: rest) ss J E := by
  refine PSs.imp (pss_cons h (pss_ry (T := T) (J := J) (E := E))) fun D σ H ⟨B, F, R, q⟩ => ?_
  exact ⟨B, F, ss, _, ⟨rfl, rfl⟩, R, fun ss' σ' F1 H1 hn R1 => ⟨B, F1, ss', hn, R1, q⟩, fun _ _ _ _ _ _ z => z.elim, fun _ _ _ _ z => z.elim, fun _ _ _ _ z => z.elim⟩
theorem ry_ifT (hc : TV T X cnd ss true) (h : RY T X A ss J E) : RY T X (.If cnd A B pos :: rest) ss J E :=
  PSs.imp (pss_cons (ps_if hc h (pss_all (T := T) (sts := B))) (pss_all (T := T))) fun D σ H ⟨B0, F, R, q⟩ => tv_go R fun F1 H1 n1 R1 => ⟨B0, F1, R1, q⟩
/-- raise C(e), e a text -/
theorem ry_raise (tk : Takes X (fun cls d _ H => E cls d H)) (EC : ExCls X.prog X.K X.mg C fI cc cda) (Fn : ExFn1 X.K C fI cc cda f y) (rs : Raises X (.ref C)) (hr : Room k X.A) (hm : X.mg x = some (.ref C)) (he : EV T X e ss (.str z)) (hg : Gl X x := by rfl) (hc : X.calm = true := by rfl) (hdb : (x == ("__debug__" : Str)) = false := by decide)
    (hst : starEach [e] X.env = [(false, eval e X.env)] := by rfl) (hpl : (backTo pos (starEach [] X.env)).any (·.1) = false := by rfl) : RY T X (.Raise (some (.Call (.Name x p) [e] [] pos)) none pos' :: rest) ss (Told C f (.str z)) E := by
  refine PSs.imp (pss_cons (ps_raise hc tk (pmk_exv1 EC Fn rs hr (evs_cons he evs_nil hst) hm hg hdb hst hpl)) (pss_all (T := T))) fun D σ H ⟨B0, F, R, q⟩ => ?_
  refine evs_go R fun vs F1 H1 n1 R1 i1 => ?_
  obtain ⟨v, rfl, i⟩ := isL1 i1
  cases (show v = .str z from i)
  refine ⟨_, rfl, fun d hd => q _ _ _ (R1.bH.trans (Gr.of (Ext.upd hd))) ⟨rfl, d, rfl, upd_same⟩⟩
end
section
variable {T : List (Addr × Str)} {P : Program} {w : World} {K : PySem.W.Frag} {mg : Str → Option Value} {base : Heap} {x qual : Str} {st : Stmt} {f : Addr} {fd : FuncData} {cdv : Value} {N ps : List Str} {k n : Nat} {pre : List D → (Value → Option Addr → Hp → Prop) → Prop}
theorem fy_ok (F : FunZ K x qual st f fd cdv) (S : FnScope N ps (defScope st)) (hn : ps.length = n)
    (h : ∀ (A : Around) (outer : List Env) (s : Shared) (H : Hp) (E : XK) (ds : List D) (J : Value → Option Addr → Hp → Prop), Room k (A.deeper (envOfC qual (defScope st) s.heap.objs.size f cdv)) → ds.length = n → pre ds J →
      Takes (xX P w K mg base N qual st f cdv A outer s H E) (fun cls d _ H => E cls d H) → RY T (xX P w K mg base N qual st f cdv A outer s H E) (defBody st) (startS N ds) J E) : FnOk P w K mg base (L2.CX P w) (k + 1) f fd ps (spY T K n pre) :=
  F.ok S (fun vs H Q E ⟨F, ds, J, _, _, _, i, l, _⟩ => by rw [i.length, l, hn]) fun A outer s H vs Q E hr ⟨F0, ds, J, x, nt, tb, i, l, p, q⟩ =>
    ⟨_, h A outer s H E ds J hr l p (takes_of rfl rfl rfl rfl), (F0, H), F0, start_str x nt tb i, q⟩
/-- the def under the module's name x, in the runs in which it raises -/
def FY (T : List (Addr × Str)) (P : Program) (w : World) (K : PySem.W.Frag) (mg : Str → Option Value) (base : Heap) (x : Str) (n k : Nat) (pre : List D → (Value → Option Addr → Hp → Prop) → Prop) : Prop :=
  ∃ f fd ps, mg x = some (.ref f) ∧ PySem.W.keepIn K (.ref f) = true ∧ Binds K fd ps [] ∧ ps.length = n ∧ FnOk P w K mg base (L2.CX P w) k f fd ps (spY T K n pre)
end
section
variable {T : List (Addr × Str)} {X : Cx} {ss : SS} {e : Expr} {es : List Expr} {ds : List D} {J : Value → Option Addr → Hp → Prop} {x : Str} {p pos : Pos} {n k : Nat} {pre : List D → (Value → Option Addr → Hp → Prop) → Prop} {E : XK}
theorem ry_call (G : FY T X.prog X.w X.K X.mg X.base x n k pre) (hx : Passes (L2.CX X.prog X.w) X E) (hr : Room k X.A) (ha : EVs T X (e :: es) ss ds) (hp : pre ds J) (hn : ds.length = n := by rfl) (hg : Gl X x := by rfl) (hdb : (x == ("__debug__" : Str)) = false := by decide)
    (he : starEach (e :: es) X.env = (false, eval e X.env) :: starEach es X.env := by rfl) (hpl : (backTo pos (starEach es X.env)).any (·.1) = false := by rfl) :
    PE X (.Call (.Name x p) (e :: es) [] pos) (fun σ H _ => ∃ B F, StR T X.K B F H σ ss ∧ ∀ c d H1, Gr T H H1 → J c d H1 → E c d H1) := by
  obtain ⟨f, fd, ps, h1, h2, h3, h4, h5⟩ := G
  refine PE.imp (pe_call h5 hr hg h1 h2 h3 .nil hx ha hdb he hpl) fun σ H Q ⟨B, F, R, q⟩ => evs_go R fun vs F1 H1 n1 R1 i1 => ?_
  show spY T X.K n pre (vs ++ []) H1 Q E
  rw [List.append_nil]
  exact ⟨F1, ds, J, R1.sub, R1.nt, R1.tb, i1, hn, hp, fun c d H2 g j => q c d H2 (n1.h.trans g) j⟩
end
end Fd

set_option Elab.async false
set_option linter.all false
set_option maxRecDepth 100000
set_option maxHeartbeats 4000000
/-! Fd19: try with a clause that names the exception; str of an own object; f-strings of ints. -/
namespace Fd
open PySem PySem.Spec PyProof.Rows L2 PySem.ExS
section
variable {T : List (Addr × Str)} {X : Cx} {ss : SS} {P : Post} {st : Stmt} {body : List Stmt} {h₀ : ExceptHandler} {hs : List ExceptHandler} {e e1 e2 : Expr} {pos p p1 p2 p3 p4 p5 p6 p7 p8 p9 pa pb : Pos} {C : Addr} {f x n tag : Str} {z : Str} {i j j' : Nat}
theorem sv_tryN (h : SVs T X.nox body ss P) : SV T X (.Try body (h₀ :: hs) [] [] pos) ss P := ps_try_thru0 h
/-- try: return (.., r(e)) / except C as n: return (tag, n.f), where r raises C with the text z -/
theorem sv_tryE {r : Str} {k : Nat} {pre : List D → (Value → Option Addr → Hp → Prop) → Prop} {ds : List D} {es : List Expr} (G : FY T X.prog X.w X.K X.mg X.base r ds.length k pre) (hr : Room k X.A) (hp : pre ds (Told C f (.str z)))
    (ha : ∀ (pn : List (Addr × Obj)) (xe : Value → Shared → Prop), EVs T (X.tr pn xe) (e :: es) ss ds) (xf : XfC X.K C) (hno : PySem.W.findIn X.K (.ref C) f = some none) (hx : PySem.W.exmOne X.K (.ref C) (.ref C) = some true) (hm : X.mg x = some (.ref C)) (hk : P.rt (.tup [.str tag, .str z]))
    (hstk : X.stack = X.env :: X.outer := by rfl) (hf : X.env.frame = some X.env.locals := by rfl) (hN : X.N.Nodup) (hi : X.N[i]? = some n) (hln : X.env.kindOf n = some .local) (hin : i < ss.length) (hv : Vis X.env.scope n) (hg : Gl X x := by rfl) (hgr : Gl X r := by rfl) (tk : Takes X (fun _ _ _ _ => False))
    (hcm : X.calm = true := by rfl) (hd : (n == ("__debug__" : Str)) = false := by decide) (hcd : (n == ("__classdict__" : Str)) = false := by decide) (hdx : (x == ("__debug__" : Str)) = false := by decide) (hdr : (r == ("__debug__" : Str)) = false := by decide)
    (he : starEach (e :: es) X.env = (false, eval e X.env) :: starEach es X.env := by rfl) (hpl : (backTo p3 (starEach es X.env)).any (·.1) = false := by rfl) (hb : attributeBase (.Name n p7) f X.env (eval (.Name n p7) X.env) = eval (.Name n p7) X.env := by rfl) :
    SV T X (.Try [.Return (some (.Tuple [.Constant (.str (Str.ofString "number")) j p1, .Call (.Name r p2) (e :: es) [] p3] j' p4)) p5] [.ExceptHandler (some (.Name x p6)) (some n) [.Return (some (.Tuple [.Constant (.str tag) j p8, .Attribute (.Name n p7) f p9] j' pa)) pb] p] [] [] pos) ss P := by
  obtain ⟨fr, fd, ps, h1, h2, h3, h4, h5⟩ := G
  refine SV.of (ps_try_as (c := .ref C) (i := i) (Wout := fun _ _ _ _ => False) (tb := fun W D σ H => ∃ B F, StR T X.K B F H σ ss ∧ ∀ c d H1, Gr T H H1 → Told C f (.str z) c d H1 → W c d σ H1)
    hstk hf hN hi hln ⟨hg, hdx, .inl hm⟩ tk (fun W pn xe tk' _ => ?_) (fun a oe cls d pn hz hfl => pss_one (ps_ret (pe_tup (pa_cons pe_str (pa_cons (pe_xf xf hno hz hfl (pe_var hi hv hd hcd) hb) pa_nil)))))) fun B F H σ Dn R g => ?_
  · refine PSs.imp (pss_one (ps_ret (pe_tup (pa_cons pe_str (pa_cons (pe_callS (X := X.tr pn xe) (CX := L2.CX X.prog X.w) (E := WE W) h5 hr hgr h1 h2 h3 (fun σ => passAt tk' σ) (ha pn xe) hdr he hpl) pa_nil))))) fun D σ H ⟨B, F, R, q⟩ => ?_
    refine evs_go (T := T) (K := X.K) R fun vs F1 H1 n1 R1 i1 => ?_
    exact ⟨F1, ds, _, R1.sub, R1.nt, R1.tb, i1, rfl, hp, fun c d H2 g2 j2 => q c d H2 (n1.h.trans g2) j2⟩
  · refine ⟨B, F, R, fun c d H1 g1 ⟨ec, dd, ed, hdd⟩ => ?_⟩
    subst ec; subst ed
    refine ⟨true, hx, fun _ a ha' => ?_, fun z => nomatch z⟩
    have hl : i < σ.length := by rw [R.len]; exact hin
    refine ⟨.ref a, by rw [List.getElem?_set_self hl], rfl, rfl, dd, _, .str z, rfl, hdd, by simp, Nat.le_trans (show ([L2.V.str tag, L2.V.str z] : List L2.V).length ≤ 100000 by simp) (small_len (Nat.le_refl _)), fun q hq => ?_⟩
    have R1 := R.grow (R.gr g1)
    exact g.rt (.tup [.str tag, .str z]) _ ss σ _ _ hk (R1.alloc hq) ⟨q, _, rfl, SqT.of upd_same, IsL.cons rfl (IsL.cons rfl IsL.nil)⟩
end
end Fd

set_option Elab.async false
set_option linter.all false
set_option maxRecDepth 100000
set_option maxHeartbeats 4000000
/-! Fd20: str of an own object; a text that the module names. -/
namespace Fd
open PySem PySem.Spec PyProof.Rows L2
section
variable {T : List (Addr × Str)} {X : Cx} {ss : SS} {e a b : Expr} {p pos : Pos} {C f : Addr} {k : Nat} {pre : List D → D → Prop} {ns : List Str} {xs : List D} {x y z : Str}
theorem units2 {A : Around} (hr : Room (k + 2) A) : A.in1.in1.units < cLine := (hr.in1).in1.units0
theorem ev_strO (M : OwnM T X.prog X.w X.K X.mg X.base C "__str__" 1 k pre f) (hr : Room (k + 2) X.A) (he : EV T X e ss (.ins C ns xs)) (hp : pre [.ins C ns xs] (.str z)) (hm : X.mg "str" = none) (hg : Gl X "str" := by rfl) (hs : starEach [e] X.env = [(false, eval e X.env)] := by rfl) :
    EV T X (.Call (.Name "str" p) [e] [] pos) ss (.str z) := by
  have hc : CallR X (.type "str") (fun vs H Q => ∃ F v, Ext F H ∧ (∀ p ps, F p ≠ some (.tbl ps)) ∧ LamX.Tabs T H ∧ vs = [v] ∧ Is X.K F (.ins C ns xs) v ∧ ∀ v F1 H1, Nx T F H F1 H1 → Is X.K F1 (.str z) v → Q v H1) := by
    intro pins s σ H vs us Q I rv ⟨F, v, e, nt, tb, ev, i, q⟩
    subst ev
    obtain ⟨u, rfl, ru⟩ := vals1 rv
    obtain ⟨y, dx, fs, rfl, e1, _⟩ := id i
    cases ru
    obtain ⟨mA, J, _⟩ := ins_get I.hok (e _ _ e1)
    obtain ⟨od, J, _⟩ := J.look
    refine PySem.W.kso_call (units2 hr) I.kIn J M.at_ M.fn (wpAny_mono (OwnM.run (X := Cx.in1 (Cx.in1 X)) (P := X.prog) (w := X.w) (K := X.K) (mg := X.mg) (base := X.base) (vs := [.ref y]) (Q := fun v H1 => v = .str z ∧ Q v H1) M hr.in1.in1 (Inv.in1 (Inv.in1 I)) (.cons rfl .nil) e nt tb (.cons i .nil) rfl hp fun v F1 H1 n1 iv => ⟨iv, q v F1 H1 n1 iv⟩) (fun v s' h => ?_) fun _ _ w => w)
    obtain ⟨v', H', I', rv', ev', q'⟩ := h
    subst ev'
    obtain ⟨t, rfl⟩ := (show ∃ t, v = Value.str z t from rv')
    exact ⟨.str z, H', Inv.out1 (Inv.out1 I'), ⟨t, rfl⟩, q'⟩
  exact ev_bty hc (evs_cons he evs_nil hs) hm (by decide +kernel) (fun B F H σ vs Q R i1 q => by
    obtain ⟨v, rfl, h⟩ := isL1 i1
    exact ⟨F, v, R.sub, R.nt, R.tb, rfl, h, fun v F1 H1 n1 i2 => q v F1 H1 n1 (R.grow n1) i2⟩) hg (he := hs)
/-- a text that the module names -/
theorem ev_glS {t : Tok} {n : Str} (hm : X.mg n = some (.str x t)) (hg : Gl X n := by rfl) (hd : (n == ("__debug__" : Str)) = false := by decide) : EV T X (.Name n pos) ss (.str x) :=
  EV.of (pe_glob hg hm (r := ⟨t, rfl⟩) (v := .str x) hd) fun B F H σ Q R q => q _ F H R.nx R rfl
theorem eqv_str (x y : Str) : PyData.eqv (.str x) (.str y) = decide (x = y) := by
  by_cases h : x = y <;> simp [PyData.eqv, h]
theorem ev_neS (ha : EV T X a ss (.str x)) (hb : EV T X b ss (.str y)) (h1 : behindInMarks .NotEq b = false := by first | exact nobehind _ (by decide) (by decide) | rfl) : EV T X (.Compare a [.NotEq] [b] pos) ss (.bl (!decide (x = y))) :=
  ev_cmp op_ne ha hb (fun B F H σ v u Q R i1 i2 q => by
    cases i1; cases i2
    exact ⟨rfl, q _ F H R.nx R (by show V.bl _ = V.bl _; rw [dec_str, Bool.beq_eq_decide_eq])⟩) h1
theorem tv_neS (ha : EV T X a ss (.str x)) (hb : EV T X b ss (.str y)) (h1 : behindInMarks .NotEq b = false := by first | exact nobehind _ (by decide) (by decide) | rfl) : TV T X (.Compare a [.NotEq] [b] pos) ss (!decide (x = y)) :=
  tv_cmp op_ne ha hb (fun B F H σ v u Q R i1 i2 q => by
    cases i1; cases i2
    refine ⟨rfl, ?_⟩
    rw [dec_str]
    rw [Bool.beq_eq_decide_eq] at *
    exact q F H R.nx R) h1
theorem tv_eqS (ha : EV T X a ss (.str x)) (hb : EV T X b ss (.str y)) (h1 : behindInMarks .Eq b = false := by first | exact nobehind _ (by decide) (by decide) | rfl) : TV T X (.Compare a [.Eq] [b] pos) ss (decide (x = y)) :=
  tv_cmp op_eq ha hb (fun B F H σ v u Q R i1 i2 q => by
    cases i1; cases i2
    refine ⟨rfl, ?_⟩
    rw [dec_str]
    exact q F H R.nx R) h1
end
end Fd

set_option Elab.async false
set_option linter.all false
set_option maxRecDepth 100000
set_option maxHeartbeats 4000000
/-! Fd21: dicts with keys that are whole numbers or texts: a dict of one's own, filled, asked, read; frozen, and asked. -/
namespace Fd
open PySem PySem.Spec PyProof.Rows L2
/-- a key as a datum -/
def kD : Key → D
  | .inl i => .int i
  | .inr x => .str x

section
variable {κ : Type} [DecidableEq κ]
/-- what stands under a key -/
def look : List κ → List D → κ → Option D
  | k' :: ks, x :: xs, k => if k' = k then some x else look ks xs k
  | _, _, _ => none
def hasK (ks : List κ) (k : κ) : Bool := ks.any fun k' => decide (k' = k)
def putKs (ks : List κ) (k : κ) : List κ := if hasK ks k = true then ks else ks ++ [k]
def repl : List κ → List D → κ → D → List D
  | k' :: ks, x :: xs, k, d => (if k' = k then d else x) :: repl ks xs k d
  | _, xs, _, _ => xs
def putXs (ks : List κ) (xs : List D) (k : κ) (d : D) : List D := if hasK ks k = true then repl ks xs k d else xs ++ [d]
variable {K : PySem.W.Frag} {F : Hp}
theorem is_kD {k : Key} {v : V} (h : Is K F (kD k) v) : v = kV k := by cases k <;> exact h
theorem look_ok : ∀ {ks : List κ} {xs : List D} {kvs : List (κ × V)} (k : κ), kvs.map (·.1) = ks → IsL K F xs (kvs.map (·.2)) →
    (look ks xs k = none ∧ valV kvs k = none ∧ hasK ks k = false) ∨ ∃ d v, look ks xs k = some d ∧ valV kvs k = some v ∧ Is K F d v ∧ hasK ks k = true
  | [], xs, [], k, _, _ => .inl ⟨by cases xs <;> rfl, rfl, rfl⟩
  | [], _, _ :: _, _, e, _ => nomatch e
  | k' :: ks, [], (a, u) :: kvs, k, e, h => nomatch h
  | k' :: ks, x :: xs, (a, u) :: kvs, k, e, h => by
    obtain ⟨e0, e'⟩ := List.cons.inj e
    cases e0
    obtain ⟨v, r, e1, h1, h2⟩ := h
    obtain ⟨rfl, rfl⟩ := List.cons.inj e1
    by_cases q : a = k
    · subst q
      exact .inr ⟨x, u, by simp [look], valV_pos rfl, h1, by simp [hasK]⟩
    · rcases look_ok k e' h2 with ⟨w1, w2, w3⟩ | ⟨d, v, w1, w2, w3, w4⟩
      · exact .inl ⟨by simpa [look, q] using w1, by rw [valV_neg q]; exact w2, by simpa [hasK, q] using w3⟩
      · exact .inr ⟨d, v, by simpa [look, q] using w1, by rw [valV_neg q]; exact w2, w3, by simpa [hasK, q] using w4⟩
  | k' :: ks, _, [], _, e, _ => nomatch e
theorem repl_ok {d : D} {v : V} (hd : Is K F d v) : ∀ {ks : List κ} {xs : List D} {kvs : List (κ × V)} (k : κ), kvs.map (·.1) = ks → IsL K F xs (kvs.map (·.2)) →
    IsL K F (repl ks xs k d) ((kvs.map fun kv => if kv.1 = k then (kv.1, v) else kv).map (·.2))
  | [], xs, [], k, _, h => by cases xs with
    | nil => exact rfl
    | cons x xs => exact nomatch h
  | [], _, _ :: _, _, e, _ => nomatch e
  | k' :: ks, [], (a, u) :: kvs, k, e, h => nomatch h
  | k' :: ks, x :: xs, (a, u) :: kvs, k, e, h => by
    obtain ⟨e0, e'⟩ := List.cons.inj e
    cases e0
    obtain ⟨w, r, e1, h1, h2⟩ := h
    obtain ⟨rfl, rfl⟩ := List.cons.inj e1
    have ih := repl_ok hd k e' h2
    by_cases q : a = k
    · subst q
      simp only [repl, List.map_cons, if_true]
      exact .cons hd ih
    · simp only [repl, List.map_cons, if_neg q]
      exact .cons h1 ih
  | k' :: ks, _, [], _, e, _ => nomatch e
theorem repl_keys (k : κ) (v : V) : ∀ kvs : List (κ × V), (kvs.map fun kv => if kv.1 = k then (kv.1, v) else kv).map (·.1) = kvs.map (·.1)
  | [] => rfl
  | (a, u) :: r => by
    simp only [List.map_cons, repl_keys k v r]
    by_cases q : a = k <;> simp [q]
theorem put_ok {d : D} {v : V} {ks : List κ} {xs : List D} {kvs : List (κ × V)} (hd : Is K F d v) (k : κ) (e : kvs.map (·.1) = ks) (h : IsL K F xs (kvs.map (·.2))) :
    (putK kvs k v).map (·.1) = putKs ks k ∧ IsL K F (putXs ks xs k d) ((putK kvs k v).map (·.2)) := by
  have hm : (kvs.any fun kv => decide (kv.1 = k)) = hasK ks k := by
    subst e
    unfold hasK
    rw [List.any_map]
    rfl
  unfold putK putKs putXs
  rw [← hm]
  by_cases q : (kvs.any fun kv => decide (kv.1 = k)) = true
  · rw [if_pos q, if_pos q, if_pos q]
    exact ⟨(repl_keys k v kvs).trans e, repl_ok hd k e h⟩
  · rw [if_neg q, if_neg q, if_neg q]
    subst e
    refine ⟨by simp, ?_⟩
    rw [List.map_append]
    exact h.snoc hd
end
section
variable {T : List (Addr × Str)} {K : PySem.W.Frag} {B : Hp × Hp} {F H F1 H1 F2 H2 : Hp} {σ : L2.St} {ss : SS}
/-- a dict of one's own is never changed again: a datum -/
theorem StR.freezeD {i : Nat} {ks : List Key} {xs : List D} (R : StR T K B F H σ ss) (h : ss[i]? = some (.dic ks xs)) : ∃ F', Ext F F' ∧ StR T K B F' H σ (ss.set i (.d (.dct ks xs))) := by
  have hi : i < ss.length := (List.getElem?_eq_some_iff.mp h).1
  have hs : i < σ.length := by rw [R.len]; exact hi
  obtain ⟨p, kvs, e, e1, e2, ek, hx⟩ := R.slots i _ _ h (List.getElem?_eq_getElem hs)
  have hσ : σ[i]? = some (some (.ref p)) := by rw [List.getElem?_eq_getElem hs, e]
  have hB := R.own i _ p h rfl hσ
  have xF : Ext F (upd F p (.dK kvs)) := Ext.upd e1
  refine ⟨upd F p (.dK kvs), xF, ⟨by simp [R.len], R.bF.trans xF, R.bH, fun q u z => ?_, fun q ps z => ?_, R.tb, fun q u z => ?_, fun j s o z1 z2 => ?_, fun j s q z1 m z2 => ?_, fun j k s t q z1 z2 m1 m2 z3 z4 => ?_⟩⟩
  · by_cases hq : q = p
    · subst hq; rw [upd_same] at z; rw [e2]; exact z
    · rw [upd_ne hq] at z; exact R.sub q u z
  · by_cases hq : q = p
    · subst hq; rw [upd_same] at z; cases z
    · rw [upd_ne hq] at z; exact R.nt q ps z
  · by_cases hq : q = p
    · subst hq; exact .inr (.inl hB)
    · rw [upd_ne hq] at z; exact R.new q u z
  · rcases set_get z1 with ⟨q, rfl⟩ | ⟨q, z1⟩
    · subst q
      rw [hσ] at z2
      cases z2
      exact ⟨.ref p, rfl, p, kvs, rfl, upd_same, ek, IsL.mono xF _ hx⟩
    · have w := R.slots j s o z1 z2
      have ne : ∀ {p' : Addr}, s.mine = true → o = some (.ref p') → p' ≠ p := fun {p'} m e' z => q (R.dis i j _ s p h z1 rfl m hσ (by rw [z2, e', z]))
      cases s with
      | no => exact True.intro
      | d x => obtain ⟨v, w1, w2⟩ := w; exact ⟨v, w1, Is.mono xF x w2⟩
      | own ys => obtain ⟨p', us, w1, w2, w3, w4⟩ := w; exact ⟨p', us, w1, by rw [upd_ne (ne rfl w1)]; exact w2, w3, IsL.mono xF _ w4⟩
      | obj p' C ns ys => obtain ⟨dx, fs, w1, w2, w3, w4, w5⟩ := w; exact ⟨dx, fs, w1, by rw [upd_ne (ne rfl w1)]; exact w2, w3, w4, IsL.mono xF _ w5⟩
      | dic ks ys => obtain ⟨p', kvs', w1, w2, w3, w4, w5⟩ := w; exact ⟨p', kvs', w1, by rw [upd_ne (ne rfl w1)]; exact w2, w3, w4, IsL.mono xF _ w5⟩
      | dicT ks ys => obtain ⟨p', kvs', w1, w2, w3, w4, w5⟩ := w; exact ⟨p', kvs', w1, by rw [upd_ne (ne rfl w1)]; exact w2, w3, w4, IsL.mono xF _ w5⟩
  · rcases set_get z1 with ⟨_, rfl⟩ | ⟨_, z1⟩
    · cases m
    · exact R.own j s q z1 m z2
  · rcases set_get z1 with ⟨_, rfl⟩ | ⟨_, z1⟩
    · cases m1
    · rcases set_get z2 with ⟨_, rfl⟩ | ⟨_, z2⟩
      · cases m2
      · exact R.dis j k s t q z1 z2 m1 m2 z3 z4
end
section
variable {T : List (Addr × Str)} {X : Cx} {ss : SS} {P : Post} {st : Stmt} {sts rest : List Stmt} {a e value : Expr} {d : D} {ks : List Key} {xs : List D} {kk : Key} {pos pos' : Pos} {n : Nat}
/-- a dict of one's own is a datum from here on -/
theorem sv_freezeD (i : Nat) (hi : ss[i]? = some (.dic ks xs)) (h : SV T X st (ss.set i (.d (.dct ks xs))) P) : SV T X st ss P :=
  SV.of h fun B F H σ Dn R g => let ⟨F', _, R'⟩ := R.freezeD hi; ⟨B, F', _, P, ⟨rfl, rfl⟩, R', g.nx, g.rt, g.bk, g.ct⟩
theorem svs_freezeD (i : Nat) (hi : ss[i]? = some (.dic ks xs)) (h : SVs T X sts (ss.set i (.d (.dct ks xs))) P) : SVs T X sts ss P :=
  SVs.of h fun B F H σ Dn R g => let ⟨F', _, R'⟩ := R.freezeD hi; ⟨B, F', _, P, ⟨rfl, rfl⟩, R', g.nx, g.rt, g.bk, g.ct⟩
/-- x = {}: a dict of one's own -/
theorem sv_newD (i : Nat) {x : Str} {pl : Pos} (k : P.nx (ss.set i (.dic [] []))) (hN : X.N.Nodup) (hi : X.N[i]? = some x := by rfl) (hx : Loc X.env.scope x := by first | exact Or.inl rfl | exact Or.inr rfl)
    (hs : swapsWith (.Dict [] [] pl) (some (.Name x pos')) pos.line X.env = pure false := by rfl) (hf : X.fn x = true ∨ X.env.scope.names.lookup x = some .local := by first | exact .inl rfl | exact .inr rfl | assumption) :
    SV T X (.Assign [.Name x pos'] (.Dict [] [] pl) pos) ss P :=
  SV.of (ps_set hN hi hx pe_dnewK hs hf) fun B F H σ Dn R g => fun p hp =>
    g.nx _ _ _ _ k (R.newOwn hp rfl ⟨p, [], rfl, R.free hp, upd_same, rfl, rfl⟩)
/-- x[a] = value -/
theorem sv_putD (i : Nat) {x : Str} {px : Pos} (hx : ss[i]? = some (.dic ks xs)) (hr : Room n X.A) (hv : EV T X value ss d) (ha : EV T X a ss (kD kk)) (k : P.nx (ss.set i (.dic (putKs ks kk) (putXs ks xs kk d)))) (hl : ks.length ≤ 100000)
    (hp : PE X (.Name x px) (tVar i) := by exact pv _) (hs : swapsWith value (some (.Subscript (.Name x px) a pos')) pos.line X.env = pure false := by rfl) :
    SV T X (.Assign [.Subscript (.Name x px) a pos'] value pos) ss P := by
  refine SV.of (ps_dput (by have := hr.units; omega) hp ha hv hs) fun B F H σ Dn R g => ?_
  have hi : i < ss.length := (List.getElem?_eq_some_iff.mp hx).1
  have hsl : i < σ.length := by rw [R.len]; exact hi
  refine ev_go R fun v F1 H1 n1 R1 i1 => ?_
  obtain ⟨p, kvs, e1, e2, e3, ek, e4⟩ := R1.slots i _ _ hx (List.getElem?_eq_getElem hsl)
  have hσ : σ[i]? = some (some (.ref p)) := by rw [List.getElem?_eq_getElem hsl, e1]
  refine ⟨.ref p, hσ, ev_go R1 fun u F2 H2 n2 R2 i2 => ?_⟩
  obtain ⟨p', kvs', q1, q2, q3, qk, q4⟩ := R2.slots i _ _ hx (List.getElem?_eq_getElem hsl)
  rw [q1] at e1
  cases e1
  obtain rfl := is_kD i2
  obtain ⟨w1, w2⟩ := put_ok (Is.mono n2.f _ i1) kk qk q4
  have hlen : kvs'.length < sizeLine := by
    have : kvs'.length = ks.length := by rw [← qk, List.length_map]
    rw [this, sizeLine_eq]; omega
  exact ⟨p, _, rfl, DPut.k q3 hlen, g.nx _ _ _ _ k (R2.chg hx rfl hσ rfl q2 ⟨p, _, rfl, q2, upd_same, w1, w2⟩)⟩
/-- x[a] of a dict of one's own -/
theorem ev_getO (i : Nat) {x : Str} {px : Pos} (hx : ss[i]? = some (.dic ks xs)) (hr : Room n X.A) (ha : EV T X a ss (kD kk)) (hl : look ks xs kk = some d) (hp : PE X (.Name x px) (tVar i) := by exact pv _) (hs : NoSl a := by exact fun _ _ => rfl) :
    EV T X (.Subscript (.Name x px) a pos) ss d := by
  refine EV.of (pe_dget (by have := hr.units; omega) hp ha hs) fun B F H σ Q R q => ?_
  have hi : i < ss.length := (List.getElem?_eq_some_iff.mp hx).1
  have hsl : i < σ.length := by rw [R.len]; exact hi
  obtain ⟨p, kvs, e1, e2, e3, ek, e4⟩ := R.slots i _ _ hx (List.getElem?_eq_getElem hsl)
  refine ⟨.ref p, by rw [List.getElem?_eq_getElem hsl, e1], ev_go R fun u F2 H2 n2 R2 i2 => ?_⟩
  obtain ⟨p', kvs', q1, q2, q3, qk, q4⟩ := R2.slots i _ _ hx (List.getElem?_eq_getElem hsl)
  rw [q1] at e1
  cases e1
  obtain rfl := is_kD i2
  rcases look_ok kk qk q4 with ⟨w, _⟩ | ⟨d', v, w1, w2, w3, _⟩
  · rw [w] at hl; cases hl
  · rw [hl] at w1; cases w1
    exact ⟨p, v, rfl, by rw [← w2]; exact DGet.k q3, q _ _ _ n2 R2 w3⟩
/-- e[a] of a dict that is a datum -/
theorem ev_getD (hr : Room n X.A) (he : EV T X e ss (.dct ks xs)) (ha : EV T X a ss (kD kk)) (hl : look ks xs kk = some d) (hs : NoSl a := by exact fun _ _ => rfl) : EV T X (.Subscript e a pos) ss d :=
  EV.of (pe_dget (by have := hr.units; omega) he ha hs) fun B F H σ Q R q => ev_go R fun v F1 H1 n1 R1 i1 => ev_go R1 fun u F2 H2 n2 R2 i2 => by
    obtain ⟨p, kvs, rfl, e2, ek, e4⟩ := i1
    obtain rfl := is_kD i2
    rcases look_ok kk ek e4 with ⟨w, _⟩ | ⟨d', v, w1, w2, w3, _⟩
    · rw [w] at hl; cases hl
    · rw [hl] at w1; cases w1
      exact ⟨p, v, rfl, by rw [← w2]; exact DGet.k (R2.sub _ _ (n2.f _ _ e2)), q _ _ _ (n1.trans n2) R2 (Is.mono n2.f _ w3)⟩
/-- a in x, of a dict of one's own -/
theorem tv_inO (i : Nat) {x : Str} {px : Pos} (hx : ss[i]? = some (.dic ks xs)) (hr : Room n X.A) (ha : EV T X a ss (kD kk)) (hp : PE X (.Name x px) (tVar i) := by exact pv _) (h1 : behindInMarks .In (.Name x px) = false := by rfl) :
    TV T X (.Compare a [.In] [.Name x px] pos) ss (hasK ks kk) := by
  refine TV.of (pt_cmp (pc_din (by have := hr.units; omega) ha hp) h1) fun B F H σ Q R q => ?_
  have hi : i < ss.length := (List.getElem?_eq_some_iff.mp hx).1
  have hsl : i < σ.length := by rw [R.len]; exact hi
  refine ev_go R fun u F2 H2 n2 R2 i2 => ?_
  obtain ⟨p, kvs, q1, q2, q3, qk, q4⟩ := R2.slots i _ _ hx (List.getElem?_eq_getElem hsl)
  obtain rfl := is_kD i2
  refine ⟨.ref p, by rw [List.getElem?_eq_getElem hsl, q1], p, _, rfl, DGet.k q3, _, rfl, ?_⟩
  rcases look_ok kk qk q4 with ⟨_, w2, w3⟩ | ⟨d', v, _, w2, _, w3⟩
  · rw [w2]; simpa [w3] using q _ _ n2 R2
  · rw [w2]; simpa [w3] using q _ _ n2 R2
/-- a in e, of a dict that is a datum -/
theorem tv_inD (hr : Room n X.A) (ha : EV T X a ss (kD kk)) (he : EV T X e ss (.dct ks xs)) (h1 : behindInMarks .In e = false := by rfl) : TV T X (.Compare a [.In] [e] pos) ss (hasK ks kk) :=
  TV.of (pt_cmp (pc_din (by have := hr.units; omega) ha he) h1) fun B F H σ Q R q => ev_go R fun u F1 H1 n1 R1 i1 => ev_go R1 fun v F2 H2 n2 R2 i2 => by
    obtain ⟨p, kvs, rfl, e2, qk, q4⟩ := i2
    obtain rfl := is_kD i1
    refine ⟨p, _, rfl, DGet.k (R2.sub _ _ e2), _, rfl, ?_⟩
    rcases look_ok kk qk q4 with ⟨_, w2, w3⟩ | ⟨d', v, _, w2, _, w3⟩
    · rw [w2]; simpa [w3] using q _ _ (n1.trans n2) R2
    · rw [w2]; simpa [w3] using q _ _ (n1.trans n2) R2
end
end Fd

set_option Elab.async false
set_option linter.all false
set_option maxRecDepth 100000
set_option maxHeartbeats 4000000
/-! Fd22: list(..) and tuple(..) of lists and tuples; list(d), list(d.items()) of a dict that is a datum. -/
namespace Fd
open PySem PySem.Spec PyProof.Rows L2
section
variable {T : List (Addr × Str)} {X : Cx} {ss : SS} {e : Expr} {d : D} {ks : List Key} {xs : List D} {p apos cpos pos : Pos}
theorem boot_list : bootBuiltins "list" = some (.type "list") := by decide +kernel
theorem boot_tuple : bootBuiltins "tuple" = some (.type "tuple") := by decide +kernel
/-- list(x) -/
theorem ev_listOf (h : d = .lst xs ∨ d = .rdl xs ∨ d = .tup xs) (ha : EV T X e ss d) (hm : X.mg "list" = none) (hg : Gl X "list" := by rfl) (he : starEach [e] X.env = [(false, eval e X.env)] := by rfl) : EV T X (.Call (.Name "list" p) [e] [] pos) ss (.lst xs) :=
  ev_bty call_list_of (evs_cons ha evs_nil he) hm boot_list (fun B F H σ vs Q R i1 q => by
    obtain ⟨v, rfl, i⟩ := isL1 i1
    rcases h with rfl | rfl | rfl
    · obtain ⟨a, us, rfl, e1, e2⟩ := i
      exact ⟨a, us, rfl, .inl (SqL.of (R.sub _ _ e1)), fun l hl => q _ _ _ (Nx.alloc R.sub hl) (R.alloc hl) ⟨l, us, rfl, upd_same, IsL.mono (Ext.upd (R.free hl)) _ e2⟩⟩
    · obtain ⟨a, us, rfl, e1, e2⟩ := i
      exact ⟨a, us, rfl, .inl (ext_seqL R.sub e1), fun l hl => q _ _ _ (Nx.alloc R.sub hl) (R.alloc hl) ⟨l, us, rfl, upd_same, IsL.mono (Ext.upd (R.free hl)) _ e2⟩⟩
    · obtain ⟨a, us, rfl, e1, e2⟩ := i
      exact ⟨a, us, rfl, .inr (ext_seqT R.sub e1), fun l hl => q _ _ _ (Nx.alloc R.sub hl) (R.alloc hl) ⟨l, us, rfl, upd_same, IsL.mono (Ext.upd (R.free hl)) _ e2⟩⟩) hg (he := he)
/-- tuple(x) -/
theorem ev_tupOf (h : d = .lst xs ∨ d = .rdl xs ∨ d = .tup xs) (ha : EV T X e ss d) (hm : X.mg "tuple" = none) (hg : Gl X "tuple" := by rfl) (he : starEach [e] X.env = [(false, eval e X.env)] := by rfl) : EV T X (.Call (.Name "tuple" p) [e] [] pos) ss (.tup xs) :=
  ev_bty call_tuple_of (evs_cons ha evs_nil he) hm boot_tuple (fun B F H σ vs Q R i1 q => by
    obtain ⟨v, rfl, i⟩ := isL1 i1
    have nw : ∀ (us : List V), IsL X.K F xs us → ∀ l, H l = none → Q (.ref l) (upd H l (.tup us)) := fun us e2 l hl =>
      q _ _ _ (Nx.alloc R.sub hl) (R.alloc hl) ⟨l, us, rfl, .inl (.inl upd_same), IsL.mono (Ext.upd (R.free hl)) _ e2⟩
    rcases h with rfl | rfl | rfl
    · obtain ⟨a, us, rfl, e1, e2⟩ := i
      exact ⟨a, us, rfl, .inl ⟨SqL.of (R.sub _ _ e1), nw us e2⟩⟩
    · obtain ⟨a, us, rfl, e1, e2⟩ := i
      exact ⟨a, us, rfl, .inl ⟨ext_seqL R.sub e1, nw us e2⟩⟩
    · obtain ⟨a, us, rfl, e1, e2⟩ := i
      exact ⟨a, us, rfl, .inr ⟨ext_seqT R.sub e1, q _ _ _ R.nx R ⟨a, us, rfl, e1, e2⟩⟩⟩) hg (he := he)
theorem keys_is {K : PySem.W.Frag} {F : Hp} : ∀ {ks : List Key} {kvs : List (Key × V)}, kvs.map (·.1) = ks → IsL K F (ks.map kD) (kvs.map fun kv => kV kv.1)
  | [], [], _ => rfl
  | [], _ :: _, e => nomatch e
  | _ :: _, [], e => nomatch e
  | k :: ks, (a, u) :: kvs, e => by
    obtain ⟨e0, e'⟩ := List.cons.inj e
    cases e0
    refine .cons ?_ (keys_is e')
    cases a <;> rfl
/-- list(d) -/
theorem ev_keysD (ha : EV T X e ss (.dct ks xs)) (hm : X.mg "list" = none) (hc : X.calm = true := by rfl) (hg : Gl X "list" := by rfl) (he : starEach [e] X.env = [(false, eval e X.env)] := by rfl) : EV T X (.Call (.Name "list" p) [e] [] pos) ss (.lst (ks.map kD)) :=
  ev_bty (call_listD hc) (evs_cons ha evs_nil he) hm boot_list (fun B F H σ vs Q R i1 q => by
    obtain ⟨v, rfl, i⟩ := isL1 i1
    obtain ⟨a, kvs, rfl, e1, ek, e2⟩ := i
    exact ⟨a, kvs, rfl, .inl (R.sub _ _ e1), fun l hl => q _ _ _ (Nx.alloc R.sub hl) (R.alloc hl) ⟨l, _, rfl, upd_same, keys_is ek⟩⟩) hg (he := he)
def itemsD (ks : List Key) (xs : List D) : List D := (ks.zip xs).map fun p => .tup [kD p.1, p.2]
theorem items_is {K : PySem.W.Frag} {F F1 : Hp} (x : Ext F F1) : ∀ {ks : List Key} {xs : List D} {kvs : List (Key × V)} {ts : List Addr}, kvs.map (·.1) = ks → IsL K F xs (kvs.map (·.2)) → Paired (fun (t : Addr) (q : Key × V) => F1 t = some (.tup [kV q.1, q.2])) ts kvs → IsL K F1 (itemsD ks xs) (ts.map V.ref)
  | _, xs, [], _, e, _, .nil => by cases e; cases xs <;> exact rfl
  | [], _, _ :: _, _, e, _, _ => nomatch e
  | k :: ks, [], _ :: _, _, _, h, _ => nomatch h
  | k :: ks, d :: xs, (a, u) :: kvs, _, e, h, .cons r t => by
    obtain ⟨e0, e'⟩ := List.cons.inj e
    cases e0
    obtain ⟨v, w, e1, h1, h2⟩ := h
    obtain ⟨e2, e3⟩ := List.cons.inj e1
    cases e2; cases e3
    have hk : Is K F1 (kD a) (kV a) := by cases a <;> rfl
    exact .cons ⟨_, _, rfl, .inl (.inl r), .cons hk (.cons (Is.mono x _ h1) .nil)⟩ (items_is x e' h2 t)
/-- list(d.items()) -/
theorem ev_itemsD (ha : EV T X e ss (.dct ks xs)) (hm : X.mg "list" = none) (hc : X.calm = true := by rfl) (hg : Gl X "list" := by rfl) (hbase : attributeBase e "items" X.env (eval e X.env) = eval e X.env := by rfl) (hline : (apos.endLine == cpos.line) = true := by rfl)
    (hs : starEach [.Call (.Attribute e "items" apos) [] [] cpos] X.env = (false, eval (.Call (.Attribute e "items" apos) [] [] cpos) X.env) :: starEach [] X.env := by rfl) :
    EV T X (.Call (.Name "list" p) [.Call (.Attribute e "items" apos) [] [] cpos] [] pos) ss (.lst (itemsD ks xs)) :=
  EV.of (LiI.pe_listItems hc ha hg hm boot_list hbase hline hs) fun B F H σ Q R q => ev_go R fun v F1 H1 n1 R1 i1 => by
    obtain ⟨a, kvs, rfl, e1, ek, e2⟩ := i1
    refine ⟨a, kvs, rfl, R1.sub _ _ e1, fun H' l ts k1 k2 k3 k4 k5 k6 => ?_⟩
    let F' : Hp := fun b => if b = l ∨ b ∈ ts then H' b else F1 b
    have old : ∀ b u, F1 b = some u → F' b = some u := fun b u eb => by
      have hb := R1.sub b u eb
      have : ¬ (b = l ∨ b ∈ ts) := by
        rintro (z | z)
        · rw [z, k2] at hb; cases hb
        · rw [k3 b z] at hb; cases hb
      show (if b = l ∨ b ∈ ts then H' b else F1 b) = some u
      rw [if_neg this]; exact eb
    have newH : ∀ b, b = l ∨ b ∈ ts → H1 b = none := fun b z => by
      rcases z with rfl | z
      · exact k2
      · exact k3 b z
    have ob : ∀ b u, (b = l ∨ b ∈ ts) → H' b = some u → ∀ ps, u ≠ .tbl ps := fun b u z eb ps zz => by
      subst zz
      rcases z with rfl | z
      · rw [k5] at eb; cases eb
      · obtain ⟨j, y, _, _, e3⟩ := LiI.paired_ix k6 z
        rw [e3] at eb; cases eb
    have nx : Nx T F1 H1 F' H' := by
      refine ⟨old, .of k1, fun b u eb => ?_, fun b ps eb => ?_, fun b u eb => ?_⟩
      · by_cases z : b = l ∨ b ∈ ts
        · have : F' b = H' b := if_pos z
          rw [← this]; exact eb
        · have : F' b = F1 b := if_neg z
          exact k1 b u (R1.sub b u (by rw [← this]; exact eb))
      · by_cases z : b = l ∨ b ∈ ts
        · have : F' b = H' b := if_pos z
          exact absurd rfl (ob b _ z (by rw [← this]; exact eb) ps)
        · have : F' b = F1 b := if_neg z
          rw [← this]; exact eb
      · by_cases z : b = l ∨ b ∈ ts
        · exact .inr (.of (newH b z))
        · have : F' b = F1 b := if_neg z
          exact .inl (by rw [← this, eb]; exact fun y => nomatch y)
    have hp : Paired (fun (t : Addr) (q : Key × V) => F' t = some (.tup [kV q.1, q.2])) ts kvs := by
      have all : ∀ (ts' : List Addr) (kvs' : List (Key × V)), (∀ t ∈ ts', t ∈ ts) → Paired (fun (t : Addr) (q : Key × V) => H' t = some (.tup [kV q.1, q.2])) ts' kvs' → Paired (fun (t : Addr) (q : Key × V) => F' t = some (.tup [kV q.1, q.2])) ts' kvs' := by
        intro ts' kvs' hm' pp
        induction pp with
        | nil => exact .nil
        | cons r t ih =>
          refine .cons ?_ (ih fun t ht => hm' t (List.mem_cons_of_mem _ ht))
          have : F' _ = H' _ := if_pos (.inr (hm' _ List.mem_cons_self))
          rw [this]; exact r
      exact all ts kvs (fun t h => h) k6
    refine q _ F' H' (n1.trans nx) (R1.grow nx) ⟨l, _, rfl, ?_, items_is old ek e2 hp⟩
    have : F' l = H' l := if_pos (.inl rfl)
    rw [this]; exact k5
end
end Fd

set_option Elab.async false
set_option linter.all false
set_option maxRecDepth 100000
set_option maxHeartbeats 4000000
/-! Fd23: isinstance(e, (S, T)), S and T built-in types. -/
namespace Fd
open PySem PySem.Spec PyProof.Rows L2
section
variable {T : List (Addr × Str)} {X : Cx} {ss : SS} {e : Expr} {d : D} {t : Value} {b : Bool} {c1 c2 : Str} {n1 n2 : String} {p p1 p2 pt pos : Pos} {x1 : Nat}
theorem ev_isTT (he : EV T X e ss d) (ht : d.ty? = some t) (hd : d.cls X.K) (hk : PySem.W.kitAny X.K t [.type n1, .type n2] = some b) (hm1 : X.mg c1 = none) (hv1 : bootBuiltins c1 = some (.type n1)) (hm2 : X.mg c2 = none) (hv2 : bootBuiltins c2 = some (.type n2)) (hm : X.mg "isinstance" = none)
    (hg1 : Gl X c1 := by rfl) (hn1 : c1 ≠ "__name__" := by decide) (hd1 : (c1 == ("__debug__" : Str)) = false := by decide) (hg2 : Gl X c2 := by rfl) (hn2 : c2 ≠ "__name__" := by decide) (hd2 : (c2 == ("__debug__" : Str)) = false := by decide) (hg : Gl X "isinstance" := by rfl)
    (ht1 : starEach [.Name c1 p1, .Name c2 p2] X.env = (false, eval (.Name c1 p1) X.env) :: starEach [.Name c2 p2] X.env := by rfl) (ht2 : starEach [.Name c2 p2] X.env = [(false, eval (.Name c2 p2) X.env)] := by rfl)
    (hst : starEach [e, .Tuple [.Name c1 p1, .Name c2 p2] x1 pt] X.env = (false, eval e X.env) :: starEach [.Tuple [.Name c1 p1, .Name c2 p2] x1 pt] X.env := by rfl)
    (hst2 : starEach [.Tuple [.Name c1 p1, .Name c2 p2] x1 pt] X.env = [(false, eval (.Tuple [.Name c1 p1, .Name c2 p2] x1 pt) X.env)] := by rfl)
    (hpl : (backTo pos (starEach [.Tuple [.Name c1 p1, .Name c2 p2] x1 pt] X.env)).any (·.1) = false := by rfl) : EV T X (.Call (.Name "isinstance" p) [e, .Tuple [.Name c1 p1, .Name c2 p2] x1 pt] [] pos) ss (.bl b) :=
  EV.of (pe_callB call_isiT hg hm (by decide +kernel) (pa_cons he (pa_cons (pe_tup (pa_cons (pe_bltn hg1 hm1 hv1 (show RelV (.ty n1) (.type n1) from rfl) hn1 hd1) (pa_cons (pe_bltn hg2 hm2 hv2 (show RelV (.ty n2) (.type n2) from rfl) hn2 hd2) pa_nil ht2) ht1)) pa_nil hst2) hst) (by decide) (by decide) hst hpl) fun B F H σ Q R q => ev_go R fun v F1 H1 nn R1 i1 =>
    ⟨by show 2 ≤ sizeLine; decide, fun tp hp => ⟨v, tp, [.ty n1, .ty n2], t, [.type n1, .type n2], b, rfl, upd_same, .cons (.ty n1) (.cons (.ty n2) .nil), is_tyx ht hd i1 (R1.sub.trans (Ext.upd hp)), hk,
      q _ F1 (upd H1 tp (.tup [.ty n1, .ty n2])) (nn.trans (Nx.allocH R1.sub hp)) (R1.grow (Nx.allocH R1.sub hp)) rfl⟩⟩
end
end Fd

set_option Elab.async false
set_option linter.all false
set_option maxRecDepth 100000
set_option maxHeartbeats 4000000
/-! Fd24: a for whose body raises an own exception in one of its turns. -/
namespace Fd
open PySem PySem.Spec PyProof.Rows L2
section
variable {T : List (Addr × Str)} {X : Cx} {ss : SS} {tg e : Expr} {body rest : List Stmt} {xs : List D} {J : Value → Option Addr → Hp → Prop} {E : XK} {pos : Pos}
theorem pss_or {sts : List Stmt} {t1 t2 : TS} (h1 : PSs X sts t1) (h2 : PSs X sts t2) : PSs X sts (fun D σ H => t1 D σ H ∨ t2 D σ H) :=
  ⟨fun pins s σ H D I q => q.elim (fun z => h1.run pins s σ H D I z) fun z => h2.run pins s σ H D I z⟩
/-- the turns 0 to n - 1 go on, the turn n raises -/
theorem ry_for (t : Tg) (I : Nat → SS → Prop) (n : Nat) (hn : n < xs.length) (hi : IV T X tg e ss xs) (hg : PG X tg (gOf X.K t)) (h0 : I 0 ss)
    (hs : ∀ i x ss', i < n → xs[i]? = some x → I i ss' → t.fits x = true ∧ SVs T X body (t.put x ss') ⟨I (i + 1), fun _ => False, fun _ => False, I (i + 1)⟩)
    (hx : ∀ x ss', xs[n]? = some x → I n ss' → t.fits x = true ∧ RY T X body (t.put x ss') J E)
    (hp : PassesOwn (model X.prog X.w) X.A X.env X.xe := by exact passes_of rfl) (hc : X.calm = true := by rfl) (hf : ∀ x, foldedSetIterable e X.env x = pure x := by intro _; rfl) : RY T X (.For tg e body [] pos :: rest) ss J E := by
  refine PSs.imp (pss_cons (ps_for hp hc hi hg (pss_or (pss_all (T := T) (sts := body)) (pss_ry (T := T) (J := J) (E := E))) hf) (pss_all (T := T))) fun D σ H ⟨B, F, R, q⟩ => ⟨B, F, R, fun Jt F1 H1 n1 R1 Y => ?_⟩
  refine ⟨fun i m σ' H' => m = xs.length - i ∧ i ≤ n ∧ ∃ F' ss', StR T X.K (F1, B.2) F' H' σ' ss' ∧ I i ss', ⟨xs.length, by simp, Nat.zero_le _, F1, ss, R1.rebase, h0⟩, ?_⟩
  rintro i m σ' H' ⟨rfl, hi', F', ss', R', hI⟩
  have hlt : i < xs.length := by omega
  obtain ⟨go, yl⟩ := Y.item i F' H' R'.bF R'.sub hlt
  refine .inr ⟨go, fun σ2 H2 => ∃ F2 ss2, StR T X.K (F1, B.2) F2 H2 σ2 ss2 ∧ I (i + 1) ss2 ∧ i + 1 ≤ n, fun σ2 H2 ⟨F2, ss2, R2, h2, h3⟩ => ⟨xs.length - (i + 1), by omega, rfl, h3, F2, ss2, R2, h2⟩, fun v H2 y => ?_⟩
  obtain ⟨F2, x, n2, hx', ix⟩ := yl v H2 y
  by_cases hin : i < n
  · obtain ⟨hfit, hbody⟩ := hs i x ss' hin hx' hI
    refine tg_go (ws := []) (R'.grow n2) ix hfit (fun j _ => .inr rfl) fun σ3 R3 _ => .inl ?_
    exact sv_go hbody R3 ⟨fun ss4 σ4 F4 H4 q4 R4 => ⟨F4, ss4, R4, q4, hin⟩, fun d v ss4 σ4 F4 H4 z => z.elim, fun _ _ _ _ z => z.elim, fun ss4 σ4 F4 H4 q4 R4 => ⟨F4, ss4, R4, q4, hin⟩⟩
  · have hin' : i = n := by omega
    subst hin'
    obtain ⟨hfit, hbody⟩ := hx x ss' hx' hI
    refine tg_go (ws := []) (R'.grow n2) ix hfit (fun j _ => .inr rfl) fun σ3 R3 _ => .inr ?_
    exact ⟨(F1, B.2), _, _, hbody, R3, q⟩
end
end Fd

set_option Elab.async false
set_option linter.all false
set_option maxRecDepth 100000
set_option maxHeartbeats 4000000
/-! Fd25: dicts whose keys are tuples of whole numbers and texts. -/
namespace Fd
open PySem PySem.Spec PyProof.Rows L2
section
variable {T : List (Addr × Str)} {K : PySem.W.Frag} {B : Hp × Hp} {F H F1 H1 F2 H2 : Hp} {σ : L2.St} {ss : SS}
/-- a dict of one's own is never changed again: a datum -/
theorem StR.freezeT {i : Nat} {ks : List (List Key)} {xs : List D} (R : StR T K B F H σ ss) (h : ss[i]? = some (.dicT ks xs)) : ∃ F', Ext F F' ∧ StR T K B F' H σ (ss.set i (.d (.dcT ks xs))) := by
  have hi : i < ss.length := (List.getElem?_eq_some_iff.mp h).1
  have hs : i < σ.length := by rw [R.len]; exact hi
  obtain ⟨p, kvs, e, e1, e2, ek, hx⟩ := R.slots i _ _ h (List.getElem?_eq_getElem hs)
  have hσ : σ[i]? = some (some (.ref p)) := by rw [List.getElem?_eq_getElem hs, e]
  have hB := R.own i _ p h rfl hσ
  have xF : Ext F (upd F p (.dT kvs)) := Ext.upd e1
  refine ⟨upd F p (.dT kvs), xF, ⟨by simp [R.len], R.bF.trans xF, R.bH, fun q u z => ?_, fun q ps z => ?_, R.tb, fun q u z => ?_, fun j s o z1 z2 => ?_, fun j s q z1 m z2 => ?_, fun j k s t q z1 z2 m1 m2 z3 z4 => ?_⟩⟩
  · by_cases hq : q = p
    · subst hq; rw [upd_same] at z; rw [e2]; exact z
    · rw [upd_ne hq] at z; exact R.sub q u z
  · by_cases hq : q = p
    · subst hq; rw [upd_same] at z; cases z
    · rw [upd_ne hq] at z; exact R.nt q ps z
  · by_cases hq : q = p
    · subst hq; exact .inr (.inl hB)
    · rw [upd_ne hq] at z; exact R.new q u z
  · rcases set_get z1 with ⟨q, rfl⟩ | ⟨q, z1⟩
    · subst q
      rw [hσ] at z2
      cases z2
      exact ⟨.ref p, rfl, p, kvs, rfl, upd_same, ek, IsL.mono xF _ hx⟩
    · have w := R.slots j s o z1 z2
      have ne : ∀ {p' : Addr}, s.mine = true → o = some (.ref p') → p' ≠ p := fun {p'} m e' z => q (R.dis i j _ s p h z1 rfl m hσ (by rw [z2, e', z]))
      cases s with
      | no => exact True.intro
      | d x => obtain ⟨v, w1, w2⟩ := w; exact ⟨v, w1, Is.mono xF x w2⟩
      | own ys => obtain ⟨p', us, w1, w2, w3, w4⟩ := w; exact ⟨p', us, w1, by rw [upd_ne (ne rfl w1)]; exact w2, w3, IsL.mono xF _ w4⟩
      | obj p' C ns ys => obtain ⟨dx, fs, w1, w2, w3, w4, w5⟩ := w; exact ⟨dx, fs, w1, by rw [upd_ne (ne rfl w1)]; exact w2, w3, w4, IsL.mono xF _ w5⟩
      | dic ks ys => obtain ⟨p', kvs', w1, w2, w3, w4, w5⟩ := w; exact ⟨p', kvs', w1, by rw [upd_ne (ne rfl w1)]; exact w2, w3, w4, IsL.mono xF _ w5⟩
      | dicT ks ys => obtain ⟨p', kvs', w1, w2, w3, w4, w5⟩ := w; exact ⟨p', kvs', w1, by rw [upd_ne (ne rfl w1)]; exact w2, w3, w4, IsL.mono xF _ w5⟩
  · rcases set_get z1 with ⟨_, rfl⟩ | ⟨_, z1⟩
    · cases m
    · exact R.own j s q z1 m z2
  · rcases set_get z1 with ⟨_, rfl⟩ | ⟨_, z1⟩
    · cases m1
    · rcases set_get z2 with ⟨_, rfl⟩ | ⟨_, z2⟩
      · cases m2
      · exact R.dis j k s t q z1 z2 m1 m2 z3 z4
end
section
variable {T : List (Addr × Str)} {X : Cx} {ss : SS} {P : Post} {st : Stmt} {sts rest : List Stmt} {a e value : Expr} {d : D} {ks : List (List Key)} {xs : List D} {kk : List Key} {pos pos' : Pos} {n : Nat}
/-- a dict of one's own is a datum from here on -/
theorem sv_freezeT (i : Nat) (hi : ss[i]? = some (.dicT ks xs)) (h : SV T X st (ss.set i (.d (.dcT ks xs))) P) : SV T X st ss P :=
  SV.of h fun B F H σ Dn R g => let ⟨F', _, R'⟩ := R.freezeT hi; ⟨B, F', _, P, ⟨rfl, rfl⟩, R', g.nx, g.rt, g.bk, g.ct⟩
theorem svs_freezeT (i : Nat) (hi : ss[i]? = some (.dicT ks xs)) (h : SVs T X sts (ss.set i (.d (.dcT ks xs))) P) : SVs T X sts ss P :=
  SVs.of h fun B F H σ Dn R g => let ⟨F', _, R'⟩ := R.freezeT hi; ⟨B, F', _, P, ⟨rfl, rfl⟩, R', g.nx, g.rt, g.bk, g.ct⟩
/-- x = {}: a dict of one's own -/
theorem sv_newT (i : Nat) {x : Str} {pl : Pos} (k : P.nx (ss.set i (.dicT [] []))) (hN : X.N.Nodup) (hi : X.N[i]? = some x := by rfl) (hx : Loc X.env.scope x := by first | exact Or.inl rfl | exact Or.inr rfl)
    (hs : swapsWith (.Dict [] [] pl) (some (.Name x pos')) pos.line X.env = pure false := by rfl) (hf : X.fn x = true ∨ X.env.scope.names.lookup x = some .local := by first | exact .inl rfl | exact .inr rfl | assumption) :
    SV T X (.Assign [.Name x pos'] (.Dict [] [] pl) pos) ss P :=
  SV.of (ps_set hN hi hx pe_dnewT hs hf) fun B F H σ Dn R g => fun p hp =>
    g.nx _ _ _ _ k (R.newOwn hp rfl ⟨p, [], rfl, R.free hp, upd_same, rfl, rfl⟩)
/-- x[a] = value -/
theorem sv_putT (i : Nat) {x : Str} {px : Pos} (hx : ss[i]? = some (.dicT ks xs)) (hr : Room n X.A) (hv : EV T X value ss d) (ha : EV T X a ss (.tk kk)) (k : P.nx (ss.set i (.dicT (putKs ks kk) (putXs ks xs kk d)))) (hl : ks.length ≤ 100000)
    (hp : PE X (.Name x px) (tVar i) := by exact pv _) (hs : swapsWith value (some (.Subscript (.Name x px) a pos')) pos.line X.env = pure false := by rfl) :
    SV T X (.Assign [.Subscript (.Name x px) a pos'] value pos) ss P := by
  refine SV.of (ps_dput (by have := hr.units; omega) hp ha hv hs) fun B F H σ Dn R g => ?_
  have hi : i < ss.length := (List.getElem?_eq_some_iff.mp hx).1
  have hsl : i < σ.length := by rw [R.len]; exact hi
  refine ev_go R fun v F1 H1 n1 R1 i1 => ?_
  obtain ⟨p, kvs, e1, e2, e3, ek, e4⟩ := R1.slots i _ _ hx (List.getElem?_eq_getElem hsl)
  have hσ : σ[i]? = some (some (.ref p)) := by rw [List.getElem?_eq_getElem hsl, e1]
  refine ⟨.ref p, hσ, ev_go R1 fun u F2 H2 n2 R2 i2 => ?_⟩
  obtain ⟨p', kvs', q1, q2, q3, qk, q4⟩ := R2.slots i _ _ hx (List.getElem?_eq_getElem hsl)
  rw [q1] at e1
  cases e1
  obtain ⟨b2, rfl, k2⟩ := i2
  obtain ⟨w1, w2⟩ := put_ok (Is.mono n2.f _ i1) kk qk q4
  have hlen : kvs'.length < sizeLine := by
    have : kvs'.length = ks.length := by rw [← qk, List.length_map]
    rw [this, sizeLine_eq]; omega
  exact ⟨p, _, rfl, DPut.t q3 (R2.sub _ _ k2) hlen, g.nx _ _ _ _ k (R2.chg hx rfl hσ rfl q2 ⟨p, _, rfl, q2, upd_same, w1, w2⟩)⟩
/-- x[a] of a dict of one's own -/
theorem ev_getOT (i : Nat) {x : Str} {px : Pos} (hx : ss[i]? = some (.dicT ks xs)) (hr : Room n X.A) (ha : EV T X a ss (.tk kk)) (hl : look ks xs kk = some d) (hp : PE X (.Name x px) (tVar i) := by exact pv _) (hs : NoSl a := by exact fun _ _ => rfl) :
    EV T X (.Subscript (.Name x px) a pos) ss d := by
  refine EV.of (pe_dget (by have := hr.units; omega) hp ha hs) fun B F H σ Q R q => ?_
  have hi : i < ss.length := (List.getElem?_eq_some_iff.mp hx).1
  have hsl : i < σ.length := by rw [R.len]; exact hi
  obtain ⟨p, kvs, e1, e2, e3, ek, e4⟩ := R.slots i _ _ hx (List.getElem?_eq_getElem hsl)
  refine ⟨.ref p, by rw [List.getElem?_eq_getElem hsl, e1], ev_go R fun u F2 H2 n2 R2 i2 => ?_⟩
  obtain ⟨p', kvs', q1, q2, q3, qk, q4⟩ := R2.slots i _ _ hx (List.getElem?_eq_getElem hsl)
  rw [q1] at e1
  cases e1
  obtain ⟨b2, rfl, k2⟩ := i2
  rcases look_ok kk qk q4 with ⟨w, _⟩ | ⟨d', v, w1, w2, w3, _⟩
  · rw [w] at hl; cases hl
  · rw [hl] at w1; cases w1
    exact ⟨p, v, rfl, by rw [← w2]; exact DGet.t q3 (R2.sub _ _ k2), q _ _ _ n2 R2 w3⟩
/-- e[a] of a dict that is a datum -/
theorem ev_getT (hr : Room n X.A) (he : EV T X e ss (.dcT ks xs)) (ha : EV T X a ss (.tk kk)) (hl : look ks xs kk = some d) (hs : NoSl a := by exact fun _ _ => rfl) : EV T X (.Subscript e a pos) ss d :=
  EV.of (pe_dget (by have := hr.units; omega) he ha hs) fun B F H σ Q R q => ev_go R fun v F1 H1 n1 R1 i1 => ev_go R1 fun u F2 H2 n2 R2 i2 => by
    obtain ⟨p, kvs, rfl, e2, ek, e4⟩ := i1
    obtain ⟨b2, rfl, k2⟩ := i2
    rcases look_ok kk ek e4 with ⟨w, _⟩ | ⟨d', v, w1, w2, w3, _⟩
    · rw [w] at hl; cases hl
    · rw [hl] at w1; cases w1
      exact ⟨p, v, rfl, by rw [← w2]; exact DGet.t (R2.sub _ _ (n2.f _ _ e2)) (R2.sub _ _ k2), q _ _ _ (n1.trans n2) R2 (Is.mono n2.f _ w3)⟩
/-- a in x, of a dict of one's own -/
theorem tv_inOT (i : Nat) {x : Str} {px : Pos} (hx : ss[i]? = some (.dicT ks xs)) (hr : Room n X.A) (ha : EV T X a ss (.tk kk)) (hp : PE X (.Name x px) (tVar i) := by exact pv _) (h1 : behindInMarks .In (.Name x px) = false := by rfl) :
    TV T X (.Compare a [.In] [.Name x px] pos) ss (hasK ks kk) := by
  refine TV.of (pt_cmp (pc_din (by have := hr.units; omega) ha hp) h1) fun B F H σ Q R q => ?_
  have hi : i < ss.length := (List.getElem?_eq_some_iff.mp hx).1
  have hsl : i < σ.length := by rw [R.len]; exact hi
  refine ev_go R fun u F2 H2 n2 R2 i2 => ?_
  obtain ⟨p, kvs, q1, q2, q3, qk, q4⟩ := R2.slots i _ _ hx (List.getElem?_eq_getElem hsl)
  obtain ⟨b2, rfl, k2⟩ := i2
  refine ⟨.ref p, by rw [List.getElem?_eq_getElem hsl, q1], p, _, rfl, DGet.t q3 (R2.sub _ _ k2), _, rfl, ?_⟩
  rcases look_ok kk qk q4 with ⟨_, w2, w3⟩ | ⟨d', v, _, w2, _, w3⟩
  · rw [w2]; simpa [w3] using q _ _ n2 R2
  · rw [w2]; simpa [w3] using q _ _ n2 R2
/-- a in e, of a dict that is a datum -/
theorem tv_inTD (hr : Room n X.A) (ha : EV T X a ss (.tk kk)) (he : EV T X e ss (.dcT ks xs)) (h1 : behindInMarks .In e = false := by rfl) : TV T X (.Compare a [.In] [e] pos) ss (hasK ks kk) :=
  TV.of (pt_cmp (pc_din (by have := hr.units; omega) ha he) h1) fun B F H σ Q R q => ev_go R fun u F1 H1 n1 R1 i1 => ev_go R1 fun v F2 H2 n2 R2 i2 => by
    obtain ⟨p, kvs, rfl, e2, qk, q4⟩ := i2
    obtain ⟨b2, rfl, k2⟩ := i1
    refine ⟨p, _, rfl, DGet.t (R2.sub _ _ e2) (R2.sub _ _ (n2.f _ _ k2)), _, rfl, ?_⟩
    rcases look_ok kk qk q4 with ⟨_, w2, w3⟩ | ⟨d', v, _, w2, _, w3⟩
    · rw [w2]; simpa [w3] using q _ _ (n1.trans n2) R2
    · rw [w2]; simpa [w3] using q _ _ (n1.trans n2) R2
end
end Fd

set_option Elab.async false
set_option linter.all false
set_option maxRecDepth 100000
set_option maxHeartbeats 4000000
/-! Fd26: raise C(e), e any flat datum; key tuples as data. -/
namespace Fd
open PySem PySem.Spec PyProof.Rows L2 PySem.ExS
/-- a datum without objects, as a value -/
def D.flat : D → Option V
  | .non => some .non | .bl b => some (.bl b) | .int i => some (.int i) | .str x => some (.str x) | _ => none
theorem flat_is {K : PySem.W.Frag} {F : Hp} {d : D} {v w : V} (h : d.flat = some w) (i : Is K F d v) : v = w := by
  cases d <;> first | (cases h; exact i) | cases h
section
variable {T : List (Addr × Str)} {X : Cx} {ss : SS} {rest : List Stmt} {e : Expr} {es : List Expr} {J : Value → Option Addr → Hp → Prop} {E : XK} {pos p pos' : Pos} {C fI cc cda : Addr} {f y x : Str} {k x1 : Nat} {d : D} {w : V} {ks : List Key}
/-- raise C(e), e a flat datum -/
theorem ry_raiseV (tk : Takes X (fun cls d _ H => E cls d H)) (EC : ExCls X.prog X.K X.mg C fI cc cda) (Fn : ExFn1 X.K C fI cc cda f y) (rs : Raises X (.ref C)) (hr : Room k X.A) (hm : X.mg x = some (.ref C)) (he : EV T X e ss d) (hw : d.flat = some w) (hg : Gl X x := by rfl) (hc : X.calm = true := by rfl) (hdb : (x == ("__debug__" : Str)) = false := by decide)
    (hst : starEach [e] X.env = [(false, eval e X.env)] := by rfl) (hpl : (backTo pos (starEach [] X.env)).any (·.1) = false := by rfl) : RY T X (.Raise (some (.Call (.Name x p) [e] [] pos)) none pos' :: rest) ss (Told C f w) E := by
  refine PSs.imp (pss_cons (ps_raise hc tk (pmk_exv1 EC Fn rs hr (evs_cons he evs_nil hst) hm hg hdb hst hpl)) (pss_all (T := T))) fun D σ H ⟨B0, F, R, q⟩ => ?_
  refine evs_go R fun vs F1 H1 n1 R1 i1 => ?_
  obtain ⟨v, rfl, i⟩ := isL1 i1
  obtain rfl := flat_is hw i
  exact ⟨_, rfl, fun d hd => q _ _ _ (R1.bH.trans (Gr.of (Ext.upd hd))) ⟨rfl, d, rfl, upd_same⟩⟩
theorem keys_v {K : PySem.W.Frag} {F : Hp} : ∀ {ks : List Key} {vs : List V}, IsL K F (ks.map kD) vs → vs = ks.map kV
  | [], _, h => h
  | k :: ks, _, h => by
    obtain ⟨v, r, rfl, h1, h2⟩ := h
    rw [is_kD h1, keys_v h2]; rfl
theorem v_keys {K : PySem.W.Frag} {F : Hp} : ∀ {ks : List Key}, IsL K F (ks.map kD) (ks.map kV)
  | [] => rfl
  | k :: ks => .cons (by cases k <;> rfl) v_keys
/-- (a, b, ..) of whole numbers and texts: a key -/
theorem ev_key (h : EVs T X es ss (ks.map kD)) (hl : ks.length ≤ 100000 := by exact Nat.le_of_ble_eq_true rfl) : EV T X (.Tuple es x1 pos) ss (.tk ks) :=
  EV.of (pe_tup h) fun B F H σ Q R k => evs_go R fun vs F1 H1 n1 R1 i1 => ⟨by rw [i1.length, List.length_map]; exact small_len hl, fun p hp => by
    obtain rfl := keys_v i1
    exact k _ _ _ (n1.trans (Nx.alloc R1.sub hp)) (R1.alloc hp) ⟨p, rfl, upd_same⟩⟩
/-- a key is a tuple -/
theorem ev_tk (h : EV T X e ss (.tk ks)) : EV T X e ss (.tup (ks.map kD)) :=
  EV.of h fun B F H σ Q R q => ev_go R fun v F1 H1 n1 R1 i1 => by
    obtain ⟨a, rfl, e1⟩ := i1
    exact q _ F1 H1 n1 R1 ⟨a, _, rfl, .inl (.inl e1), v_keys⟩
end
end Fd

set_option Elab.async false
set_option linter.all false
set_option maxRecDepth 100000
set_option maxHeartbeats 4000000
/-! Fd27: list(d), d a dict whose keys are tuples. -/
namespace Fd
open PySem PySem.Spec PyProof.Rows L2
section
variable {T : List (Addr × Str)} {X : Cx} {ss : SS} {e : Expr} {ks : List (List Key)} {xs : List D} {p pos : Pos}
/-- tuples of the whole heap among the data -/
def addT (F H : Hp) (bs : List Addr) : Hp := fun b => if b ∈ bs then H b else F b
theorem nx_addT {F H : Hp} {bs : List Addr} (s : Ext F H) (h : ∀ b ∈ bs, ∃ xs, H b = some (.tup xs)) : Nx T F H (addT F H bs) H := by
  have ne : ∀ b, b ∉ bs → addT F H bs b = F b := fun b z => if_neg z
  have eq : ∀ b, b ∈ bs → addT F H bs b = H b := fun b z => if_pos z
  refine ⟨fun b u e => ?_, .refl H, fun b u e => ?_, fun b ps e => ?_, fun b u e => ?_⟩
  · by_cases z : b ∈ bs
    · rw [eq b z]; exact s b u e
    · rw [ne b z]; exact e
  · by_cases z : b ∈ bs
    · rw [← eq b z]; exact e
    · rw [ne b z] at e; exact s b u e
  · by_cases z : b ∈ bs
    · obtain ⟨xs, q⟩ := h b z
      rw [eq b z, q] at e; cases e
    · rw [ne b z] at e; exact e
  · by_cases z : b ∈ bs
    · exact .inr (.inr (h b z))
    · rw [ne b z] at e; exact .inl (by rw [e]; exact fun y => nomatch y)
theorem keysT_is {K : PySem.W.Frag} {F : Hp} : ∀ {ks : List (List Key)} {kvs : List (List Key × V)} {bs : List Addr}, kvs.map (·.1) = ks → Paired (fun p b => F b = some (.tup (p.1.map kV))) kvs bs → IsL K F (ks.map D.tk) (bs.map V.ref)
  | _, _, _, e, .nil => by cases e; exact rfl
  | [], _, _, e, .cons _ _ => nomatch e
  | k :: ks, _, _, e, .cons h t => by
    obtain ⟨e0, e'⟩ := List.cons.inj e
    cases e0
    exact .cons ⟨_, rfl, h⟩ (keysT_is e' t)
theorem keys_tup {H : Hp} : ∀ {kvs : List (List Key × V)} {bs : List Addr}, Paired (fun p b => H b = some (.tup (p.1.map kV))) kvs bs → ∀ b ∈ bs, ∃ xs, H b = some (.tup xs)
  | _, _, .nil, b, hb => nomatch hb
  | _, _, .cons h t, b, hb => by
    rcases List.mem_cons.mp hb with e | hb
    · exact ⟨_, by rw [e]; exact h⟩
    · exact keys_tup t b hb
theorem keys_add {F H : Hp} {bs : List Addr} : ∀ {kvs' : List (List Key × V)} {bs' : List Addr}, (∀ b ∈ bs', b ∈ bs) → Paired (fun (p : List Key × V) b => H b = some (.tup (p.1.map kV))) kvs' bs' → Paired (fun (p : List Key × V) b => addT F H bs b = some (.tup (p.1.map kV))) kvs' bs'
  | _, _, _, .nil => .nil
  | _, b :: bs', hm, .cons h t => by
    refine .cons ?_ (keys_add (fun c hc => hm c (List.mem_cons_of_mem _ hc)) t)
    have : addT F H bs b = H b := if_pos (hm b List.mem_cons_self)
    rw [this]; exact h
/-- list(d) -/
theorem ev_keysT (ha : EV T X e ss (.dcT ks xs)) (hm : X.mg "list" = none) (hc : X.calm = true := by rfl) (hg : Gl X "list" := by rfl) (he : starEach [e] X.env = [(false, eval e X.env)] := by rfl) : EV T X (.Call (.Name "list" p) [e] [] pos) ss (.lst (ks.map D.tk)) :=
  ev_bty (call_list_dT hc) (evs_cons ha evs_nil he) hm boot_list (fun B F H σ vs Q R i1 q => by
    obtain ⟨v, rfl, i⟩ := isL1 i1
    obtain ⟨a, kvs, rfl, e1, ek, e2⟩ := i
    refine ⟨a, kvs, rfl, .inl (R.sub _ _ e1), fun l bs hl hk => ?_⟩
    have ht : ∀ b ∈ bs, ∃ xs, H b = some (.tup xs) := keys_tup hk
    have hF : Paired (fun (p : List Key × V) b => addT F H bs b = some (.tup (p.1.map kV))) kvs bs := keys_add (fun b h => h) hk
    have n1 : Nx T F H (addT F H bs) H := nx_addT R.sub ht
    have R1 := R.grow n1
    have x : Ext (addT F H bs) (upd (addT F H bs) l (.lst (bs.map V.ref))) := Ext.upd (R1.free hl)
    exact q _ _ _ (n1.trans (Nx.alloc R1.sub hl)) (R1.alloc hl) ⟨l, _, rfl, upd_same, IsL.mono x _ (keysT_is ek hF)⟩) hg (he := he)
end
end Fd

set_option Elab.async false
set_option linter.all false
set_option maxRecDepth 100000
set_option maxHeartbeats 3200000
/-! SetTx: len(set(xs)) of a list of texts. -/
namespace StX
open PySem PySem.Spec PyProof.Rows
section
variable {κ : Type} [DecidableEq κ] [BEq κ] [LawfulBEq κ]
/-- the different ones, as they come -/
def put1 (acc : List κ) (k : κ) : List κ := if acc.any (· == k) = true then acc else acc ++ [k]
def dl (l : List κ) : List κ := l.foldl put1 []
theorem dl_snoc (l : List κ) (k : κ) : dl (l ++ [k]) = put1 (dl l) k := by simp [dl, List.foldl_append]
theorem put1_any (acc : List κ) (v k : κ) : (acc.any (· == k) || decide (k = v)) = (put1 acc v).any (· == k) := by
  unfold put1
  by_cases h : acc.any (· == v) = true
  · rw [if_pos h]
    by_cases e : k = v
    · subst e; simp [h]
    · simp [e]
  · rw [if_neg h]
    by_cases e : k = v
    · subst e; simp
    · have : (v == k) = false := by simpa using fun z : v = k => e z.symm
      simp [e, this]
theorem put1_len (acc : List κ) (v : κ) : (if acc.any (· == v) = true then acc.length else acc.length + 1) = (put1 acc v).length := by
  unfold put1
  by_cases h : acc.any (· == v) = true
  · rw [if_pos h, if_pos h]
  · rw [if_neg h, if_neg h]; simp
theorem put1_le (acc : List κ) (v : κ) : (put1 acc v).length ≤ acc.length + 1 := by
  rw [← put1_len]; split <;> omega
theorem fold_le : ∀ (l acc : List κ), (l.foldl put1 acc).length ≤ acc.length + l.length
  | [], acc => by simp
  | k :: l, acc => by
    have h1 := fold_le l (put1 acc k)
    have h2 := put1_le acc k
    simp only [List.foldl_cons, List.length_cons]
    omega
theorem dl_le (l : List κ) : (dl l).length ≤ l.length := by have := fold_le l []; simpa [dl] using this
theorem fold_nodup : ∀ (l acc : List κ), ((l.foldl put1 acc).length = acc.length + l.length) ↔ (l.Nodup ∧ ∀ k ∈ l, k ∉ acc)
  | [], acc => by simp
  | k :: l, acc => by
    simp only [List.foldl_cons, List.length_cons, List.nodup_cons]
    by_cases h : acc.any (· == k) = true
    · have e : put1 acc k = acc := if_pos h
      rw [e]
      have hk : k ∈ acc := by simpa using h
      have := fold_le l acc
      constructor
      · intro z; omega
      · intro z; exact absurd hk (z.2 k List.mem_cons_self)
    · have e : put1 acc k = acc ++ [k] := if_neg h
      have hk : k ∉ acc := fun z => h (by simpa using z)
      have ih := fold_nodup l (acc ++ [k])
      rw [e]
      rw [show acc.length + (l.length + 1) = (acc ++ [k]).length + l.length by simp; omega, ih]
      constructor
      · rintro ⟨h1, h2⟩
        refine ⟨⟨fun z => h2 k z (by simp), h1⟩, fun j hj => ?_⟩
        rcases List.mem_cons.mp hj with rfl | hj
        · exact hk
        · exact fun z => h2 j hj (by simp [z])
      · rintro ⟨⟨h1, h2⟩, h3⟩
        refine ⟨h2, fun j hj z => ?_⟩
        rcases List.mem_append.mp z with z | z
        · exact h3 j (List.mem_cons_of_mem _ hj) z
        · have : j = k := by simpa using z
          subst this; exact h1 hj
theorem dl_nodup (l : List κ) : (dl l).length = l.length ↔ l.Nodup := by
  have := fold_nodup l []
  simpa [dl] using this
end
section
variable {κ : Type} [DecidableEq κ] [BEq κ] [LawfulBEq κ] {P : Program} {w : World} {A : Around} {R : Result → Shared → Prop} {J : Addr} {fp wr : List Addr} {G : Array GenState → Array GenState → Prop} {n : Nat} {Pv : Nat → Value → Prop} {St : Nat → Shared → Prop} {kd : PySem.KeyKind P w κ}
/-- the set at S has got the first i of the keys -/
def Has (kd : PySem.KeyKind P w κ) (ks : List κ) (S : Addr) (i : Nat) (h : Heap) : Prop := h.SetOf kd S (fun k => (dl (ks.take i)).any (· == k)) (dl (ks.take i)).length
theorem Has.at_ {ks : List κ} {S : Addr} {i : Nat} {h h' : Heap} (g : Has kd ks S i h) (k : ∀ o, h.get? S = some o → h'.get? S = some o) : Has kd ks S i h' := by
  obtain ⟨o, es, ep, tb, ho, rest⟩ := g
  exact ⟨o, es, ep, tb, k o ho, rest⟩
theorem upd_loop (W : WalksS P w A.in1 J fp wr G n Pv St) (S : Addr) (hS : S ∉ fp) (ks : List κ) (hn : ks.length = n) (hb : n + 1 < scanBound)
    (hv : ∀ i v, Pv i v → ∃ k, ks[i]? = some k ∧ kd.is k v = true ∧ v.scannable = true) : ∀ (m i : Nat) (s : Shared), m + i = n → St i s → Has kd ks S i s.heap →
      (∀ s', Moved (S :: wr) G s s' → Has kd ks S n s'.heap → R (.ok (.ret .none)) s') → codeAny (model P w) A (.builtin "set.update.loop" ⟨[.ref S, .ref J], []⟩) R s
  | 0, i, s, hm, st, has, q => by
    obtain rfl : i = n := by omega
    refine codeAny_builtin F.entry_set_update_loop ?_; rw [Around.under_plainId F.plain_set_update_loop _]
    exact wpAny_bind (W.done s _ _ st fun s' mv => wpAny_pure (q s' (mv.mono fun b hb => List.mem_cons_of_mem _ hb) (has.at_ fun o => mv.heap S o fun z => hS (W.sub _ z))))
  | m + 1, i, s, hm, st, has, q => by
    refine codeAny_builtin F.entry_set_update_loop ?_; rw [Around.under_plainId F.plain_set_update_loop _]
    refine wpAny_bind (W.item i s _ _ (by omega) st fun v s' pv st' mv => ?_)
    obtain ⟨k, hk, his, hsc⟩ := hv i v pv
    have has' : Has kd ks S i s'.heap := has.at_ fun o => mv.heap S o fun z => hS (W.sub _ z)
    have room : (dl (ks.take i)).length + 1 < scanBound := by
      have h1 := dl_le (ks.take i)
      have h2 : (ks.take i).length ≤ ks.length := List.length_take_le' ..
      omega
    have tk : ks.take (i + 1) = ks.take i ++ [k] := by rw [List.take_succ, hk]; rfl
    show wpAny _ A.in1 (holding [v] (setAdd S v) >>= _) _ _ s'
    refine wpAny_bind (wpAny_holding (show wpAny _ A.in1 (setAdd S v) _ _ s' from ?_)); unfold setAdd
    refine wpAny_holding (wpAny_bind (kd.pyHash (k := k) his (wpAny_setAddHashed_of (knd := kd) (s := { s' with toks := s'.toks + 1 }) his hsc has' room fun h' sb new => ?_)))
    have has2 : Has kd ks S (i + 1) h' := by unfold Has; rw [tk, dl_snoc]; exact SetOf_congr new (fun j => put1_any _ _ _) (put1_len _ _)
    have keep : ∀ b, b ≠ S → h'.get? b = s'.heap.get? b := fun b hb => sb.2 b hb
    refine wpAny_pure ⟨plainId_quiet F.plain_set_update_loop _, upd_loop W S hS ks hn hb hv m (i + 1) _ (by omega) (W.frame _ s' _ _ st' (Nat.le_succ _) fun b hb o e => ?_) has2 fun s2 mv2 has3 => q s2 ?_ has3⟩
    · exact (keep b fun z => hS (z ▸ hb)).trans e
    · exact Moved.trans W.gtrans ((mv.mono fun b hb => List.mem_cons_of_mem _ hb).then_heap (Nat.le_succ _) fun b o hb e => (keep b fun z => hb (by rw [z]; exact List.mem_cons_self)).trans e) mv2
end
section
variable {κ : Type} [DecidableEq κ] [BEq κ] [LawfulBEq κ] {P : Program} {w : World} {A : Around} {E : Value → Shared → Prop} {s : Shared} {kd : PySem.KeyKind P w κ}
/-- an empty set, just laid -/
abbrev emp (led : Bool) : Obj := { cls := .type "set", dict := none, data := .set #[] 0 (.fresh 0 0 led) }
/-- set(xs) of a list -/
theorem set_of {l : Addr} {items : Array Value} {ks : List κ} {Q : Value → Shared → Prop} (hh : A.handled = none) (hl : s.heap.IsList l items) (hn : ks.length = items.size) (hb : items.size + 1 < scanBound)
    (hv : ∀ (i : Nat) (v : Value), items[i]? = some v → ∃ k, ks[i]? = some k ∧ kd.is k v = true ∧ v.scannable = true)
    (q : ∀ (h' : Heap) (tk : Nat), Has kd ks s.heap.objs.size items.size h' → (∀ b o, b < s.heap.objs.size → s.heap.get? b = some o → h'.get? b = some o) → Q (.ref s.heap.objs.size) { s with heap := h', toks := tk }) :
    wpAny (model P w) A (call (.type "set") [.ref l]) Q E s := by
  have c0 := F.called_set.mro; obtain ⟨c1, c2, c3⟩ := c0
  have c4 := F.called_set.made; have c5 := F.called_set.sub; have c6 := F.called_set.notType; have c7 := F.called_set.canCreate; have c8 := PySem.F.typeCall_set_1 (.ref l)
  refine wpAny_call (codeAny_of_tree (show wpAny _ _ (callAny (.type "set") _) _ _ _ from wpAny_pure ⟨Code.quiet_builtin _ (by decide +kernel), codeAny_builtin F.entry_type_call ?_⟩))
  rw [Around.under_plain (weight_type_call_type "set" [.ref l] []) rfl]; (repeat (any_goals (first | assumption | wp_step)))
  refine codeAny_mono (PySem.code_set_new_1 (.ref l) (E := E) (Q₁ := fun u s1 => ∃ led, u = .ref s.heap.objs.size ∧ s1 = { s with heap := s.heap.push (emp led) }) fun led => ⟨led, rfl, rfl⟩) fun r s1 hr => ?_
  rcases r with e | fl
  · exact hr
  · cases fl with
    | ret u =>
      obtain ⟨led, rfl, rfl⟩ := hr
      have at1 : (s.heap.push (emp led)).get? s.heap.objs.size = some (emp led) := Heap.get?_push_size _ rfl
      have ty1 : Shared.TypeIs { s with heap := s.heap.push (emp led) } (.ref s.heap.objs.size) "set" := ⟨_, at1, rfl⟩
      have c9 := F.called_set.init.lookup; have ca := F.called_set.init.bind (.ref s.heap.objs.size); (repeat (any_goals (first | assumption | wp_step)))
      refine codeAny_mono (codeAny_call_builtin (R := wants (fun r s2 => r = .none ∧ ∃ h' tk, s2 = { s with heap := h', toks := tk } ∧ Has kd ks s.heap.objs.size items.size h' ∧ (∀ b o, b < s.heap.objs.size → s.heap.get? b = some o → h'.get? b = some o)) E)
        F.called_set.init.plain F.entry_set_init (PySem.check_set_init_1 ty1 ?_)) fun r2 s2 hr2 => ?_
      · have li : (s.heap.push (emp led)).IsList l items := hl.push _
        obtain ⟨⟨oc, od, oda, osl⟩, ol1, ol2, nl, ol3⟩ := hl
        simp only at ol2 ol3; subst ol2; subst ol3
        have ol4 : (s.heap.push (emp led)).get? l = some { cls := .type "list", dict := od, data := .seq items nl, slots := osl } := Heap.get?_push_of_some _ ol1
        have cb := PySem.F.sub_list_set; have cc := PySem.F.sub_list_frozenset; have cd : (Value.type "list" == Value.type "dict") = false := by decide
        have lt1 : l < s.heap.objs.size := Heap.lt_size ol1
        have h3 : A.in1.in1.in1.handled = none := by simp [hh]
        have sz : (s.heap.push (emp led)).objs.size = s.heap.objs.size + 1 := Heap.size_push _ _
        unfold Builtin.«set.__init__» noKeywords Builtin.Frozenset.updateFrom; generalize hPI : pyIter = PI; wp_walk; subst hPI
        refine wpAny_pyIter_list li (wpAny_bind (wpAny_runValue ?_))
        refine upd_loop (kd := kd) ((Walks.list h3 _ l (by rw [sz]; exact Nat.ne_of_lt (Nat.lt_succ_of_lt lt1)) items).toS) s.heap.objs.size (by rw [sz]; simp only [List.mem_cons, List.not_mem_nil, or_false, not_or]; exact ⟨Nat.ne_of_lt (Nat.lt_succ_self _), Nat.ne_of_gt lt1⟩) ks hn hb hv items.size 0 _ (by omega) ⟨⟨_, Heap.get?_push_size _ rfl, rfl, rfl⟩, li.push _⟩ ?_ ?_
        · exact SetOf_congr ((setObjOf_fresh (knd := kd) led).setOf (Heap.get?_push_of_some _ at1) (by unfold scanBound; omega)) (fun _ => rfl) rfl
        · rintro ⟨h', g', d', tk', os'⟩ mv has
          have e1 : g' = s.gens := mv.gens; have e2 : d' = s.drawn := mv.drawn; have e3 : os' = s.os := mv.os
          subst e1; subst e2; subst e3
          refine wpAny_pure (show wpAny _ _ (ret Value.none) _ _ _ from wpAny_pure ⟨rfl, h', tk', rfl, has, fun b o hb' e => mv.heap b o ?_ (Heap.get?_push_of_some _ (Heap.get?_push_of_some _ e))⟩)
          rw [sz]; simp only [List.mem_cons, List.not_mem_nil, or_false, not_or]; exact ⟨Nat.ne_of_lt hb', Nat.ne_of_lt (Nat.lt_succ_of_lt hb')⟩
      · rcases r2 with e | fl2
        · exact hr2
        · cases fl2 with
          | ret r =>
            obtain ⟨rfl, h', tk, rfl, has, hk⟩ := hr2; (repeat (any_goals (first | assumption | wp_step)))
            exact q _ _ has hk
          | _ => exact hr2.elim
    | _ => exact hr.elim
end
end StX

set_option Elab.async false
set_option linter.all false
set_option maxRecDepth 100000
set_option maxHeartbeats 4000000
/-! Fd28: chained comparisons, slices and turned lists, own lists asked and widened, len(set(..)), count of a text. -/
namespace Fd
open PySem PySem.Spec PyProof.Rows L2
section
variable {T : List (Addr × Str)} {X : Cx} {ss : SS} {P : Post} {a b c e o : Expr} {i j k : Int} {x y : Str} {d d2 : D} {xs ys : List D} {p p1 p2 p3 pos pos' pl : Pos} {n : Nat}
/-- a module's whole number -/
theorem ev_glI {t : Tok} {nm : Str} (hm : X.mg nm = some (.int i t)) (hg : Gl X nm := by rfl) (hd : (nm == ("__debug__" : Str)) = false := by decide) : EV T X (.Name nm pos) ss (.int i) :=
  EV.of (pe_glob hg hm (r := ⟨t, rfl⟩) (v := .int i) hd) fun B F H σ Q R q => q _ F H R.nx R rfl
/-- a op b op' c, of whole numbers -/
theorem ev_chain {op op' : CmpOp} {f g : Int → Int → Bool} (ho : OpR X (compareOp op) (rI0 fun i j => .bl (f i j))) (ho' : OpR X (compareOp op') (rI0 fun i j => .bl (g i j))) (ha : EV T X a ss (.int i)) (hb : EV T X b ss (.int j)) (hc : EV T X c ss (.int k))
    (hm : lastMarks [op, op'] [b, c] = false := by with_unfolding_all rfl) : EV T X (.Compare a [op, op'] [b, c] pos) ss (.bl (f i j && g j k)) :=
  EV.of (pe_chain ho ho' ha hb hc hm) fun B F H σ Q R q => ev_go R fun v F1 H1 n1 R1 i1 => ev_go R1 fun u F2 H2 n2 R2 i2 => by
    have e1 : v = .int i := i1
    have e2 : u = .int j := i2
    subst e1; subst e2
    refine ⟨i, j, rfl, rfl, f i j, rfl, ?_⟩
    cases hf : f i j with
    | false => exact q _ F2 H2 (n1.trans n2) R2 (by show V.bl false = V.bl (f i j && g j k); rw [hf]; rfl)
    | true =>
      refine ev_go (T := T) (K := X.K) (d := .int k) R2 fun w F3 H3 n3 R3 i3 => ?_
      have e3 : w = .int k := i3
      subst e3
      exact ⟨j, k, rfl, rfl, q _ F3 H3 ((n1.trans n2).trans n3) R3 (by show V.bl (g j k) = V.bl (f i j && g j k); rw [hf]; rfl)⟩
theorem tv_chain {op op' : CmpOp} {f g : Int → Int → Bool} (ho : OpR X (compareOp op) (rI0 fun i j => .bl (f i j))) (ho' : OpR X (compareOp op') (rI0 fun i j => .bl (g i j))) (ha : EV T X a ss (.int i)) (hb : EV T X b ss (.int j)) (hc : EV T X c ss (.int k))
    (hm : lastMarks [op, op'] [b, c] = false := by with_unfolding_all rfl) : TV T X (.Compare a [op, op'] [b, c] pos) ss (f i j && g j k) :=
  TV.of (pt_chain ho ho' ha hb hc hm) fun B F H σ Q R q => ev_go R fun v F1 H1 n1 R1 i1 => ev_go R1 fun u F2 H2 n2 R2 i2 => by
    have e1 : v = .int i := i1
    have e2 : u = .int j := i2
    subst e1; subst e2
    refine ⟨i, j, rfl, rfl, f i j, rfl, ?_⟩
    cases hf : f i j with
    | false => exact ⟨_, rfl, by have := q F2 H2 (n1.trans n2) R2; rw [hf] at this; exact this⟩
    | true =>
      refine ev_go (T := T) (K := X.K) (d := .int k) R2 fun w F3 H3 n3 R3 i3 => ?_
      have e3 : w = .int k := i3
      subst e3
      exact ⟨j, k, rfl, rfl, _, rfl, by have := q F3 H3 ((n1.trans n2).trans n3) R3; rw [hf] at this; exact this⟩
theorem nb_t {b : Bool} (h : (!b) = true) : b = false := by cases b with | false => rfl | true => cases h
theorem nb_f {b : Bool} (h : (!b) = false) : b = true := by cases b with | true => rfl | false => cases h
/-- slices of lists -/
def cutD (xs : List D) (lo hi : Option Int) : List D := (xs.drop (HT.sIx xs.length 0 lo)).take (HT.sIx xs.length xs.length hi - HT.sIx xs.length 0 lo)
theorem cut_is {K : PySem.W.Frag} {F : Hp} {vs : List V} (l u : Option Int) (h : IsL K F xs vs) : IsL K F (cutD xs l u) (cutV vs l u) := by
  unfold cutV cutD
  rw [h.length]
  exact (h.drop _).take _
theorem ev_cutL {lo hi : Option Expr} {l u : Option Int} {d : D} (hd : d = .lst xs ∨ d = .rdl xs) (ha : EV T X o ss d) (hl : PV T X lo ss l) (hu : PV T X hi ss u) : EV T X (.Subscript o (.Slice lo hi none p2) pos) ss (.lst (cutD xs l u)) :=
  EV.of (pe_slice sl_list ha (po_pv hl) (po_pv hu)) fun B F H σ Q R q => ev_go R fun v F1 H1 n1 R1 i1 => by
    have got : ∃ a vs, v = .ref a ∧ SqL X.K F1 a vs ∧ IsL X.K F1 xs vs := by
      rcases hd with rfl | rfl
      · obtain ⟨a, vs, e0, e1, e2⟩ := i1; exact ⟨a, vs, e0, SqL.of e1, e2⟩
      · obtain ⟨a, vs, e0, e1, e2⟩ := i1; exact ⟨a, vs, e0, e1, e2⟩
    obtain ⟨a, vs, rfl, e1, e2⟩ := got
    refine ⟨B, F1, R1, fun F2 H2 n2 R2 => ⟨B, F2, R2, fun F3 H3 n3 R3 => ⟨a, vs, rfl, ext_seqL ((n2.trans n3).f.trans R3.sub) e1, fun q' hq => ?_⟩⟩⟩
    refine q _ _ _ (((n1.trans n2).trans n3).trans (Nx.alloc R3.sub hq)) (R3.alloc hq) ⟨q', _, rfl, upd_same, cut_is l u (IsL.mono ((n2.trans n3).f.trans (Ext.upd (R3.free hq))) _ e2)⟩
theorem isL_rev {K : PySem.W.Frag} {F : Hp} : ∀ {xs : List D} {vs : List V}, IsL K F xs vs → IsL K F xs.reverse vs.reverse
  | [], _, h => by cases (show _ = _ from h); exact rfl
  | x :: xs, _, h => by
    obtain ⟨v, r, rfl, h1, h2⟩ := h
    simp only [List.reverse_cons]
    exact (isL_rev h2).snoc h1
theorem ev_rev {k0 : Nat} (ha : EV T X o ss (.lst xs)) : EV T X (.Subscript o (.Slice none none (some (.UnaryOp .USub (.Constant (.int 1) k0 p1) p2)) p3) pos) ss (.lst xs.reverse) :=
  EV.of (pe_revL ha) fun B F H σ Q R q => ev_go R fun v F1 H1 n1 R1 i1 => by
    obtain ⟨a, vs, rfl, e1, e2⟩ := i1
    exact ⟨a, vs, rfl, SqL.of (R1.sub _ _ e1), fun q' hq => q _ _ _ (n1.trans (Nx.alloc R1.sub hq)) (R1.alloc hq) ⟨q', _, rfl, upd_same, isL_rev (IsL.mono (Ext.upd (R1.free hq)) _ e2)⟩⟩
/-- len(set(xs)) of texts -/
theorem is_strs {K : PySem.W.Frag} {F : Hp} : ∀ {zs : List Str} {vs : List V}, IsL K F (zs.map D.str) vs → vs = zs.map V.str
  | [], _, h => h
  | z :: zs, _, h => by
    obtain ⟨v, r, rfl, h1, h2⟩ := h
    rw [is_strs h2, show v = .str z from h1]; rfl
theorem strs_get : ∀ {zs : List Str} {us : List Value} (i : Nat) (v : Value), Vals (zs.map V.str) us → us[i]? = some v → ∃ z t, zs[i]? = some z ∧ v = .str z t
  | [], _, i, v, .nil, h => by simp at h
  | z :: zs, _, 0, v, .cons r t, h => by
    obtain ⟨k, rfl⟩ := r
    simp at h; subst h
    exact ⟨z, k, rfl, rfl⟩
  | z :: zs, _, i + 1, v, .cons r t, h => by
    simp at h
    obtain ⟨z', t', h1, h2⟩ := strs_get i v t h
    exact ⟨z', t', by simpa using h1, h2⟩
theorem ev_lenSet {zs : List Str} (hl : zs.length < 1000) (ha : EV T X a ss (.lst (zs.map D.str))) (hm : X.mg "len" = none) (hm2 : X.mg "set" = none) (hc : X.calm = true := by rfl) (hg : Gl X "len" := by rfl) (hg2 : Gl X "set" := by rfl) (na : starEach [a] X.env = [(false, eval a X.env)] := by rfl) :
    EV T X (.Call (.Name "len" p) [.Call (.Name "set" p2) [a] [] p3] [] pos) ss (.int (StX.dl zs).length) := by
  refine EV.of (t := fun σ H Q => EvP T X.K ss (.lst (zs.map D.str)) σ H fun x H1 => ∃ l, x = .ref l ∧ SqL X.K H1 l (zs.map V.str) ∧ Q (.int (StX.dl zs).length) H1) ⟨fun pins s σ H Q I h => ?_⟩ fun B F H σ Q R q => ev_go R fun v F1 H1 n1 R1 i1 => ?_
  · refine Call_ (ld_blt I hg hm PySem.boot_len (callWith_builtin1 (args_cons ?_ rfl) rfl rfl))
    refine Call_ (ld_blt I hg2 hm2 PyProof.Rows.boot_set (callWith_type1 (args_cons (thn (ha.run pins s σ H _ I h) fun v s1 ⟨x, H1, I1, r1, q1⟩ => args_nil ?_) na) na rfl))
    obtain ⟨l, rfl, hq, q1⟩ := q1
    cases r1
    obtain ⟨its, r, pl, hz⟩ := I1.list hq
    have hsz : zs.length = its.toArray.size := by rw [List.size_toArray, ← r.length, List.length_map]
    have bnd : (1000 : Nat) + 1 < scanBound := by unfold scanBound; omega
    refine StX.set_of (kd := PySem.strKind X.prog X.w) (ks := zs) (I1.ok.hd hc) pl.isList hsz (by omega) (fun i v hv => ?_) fun h' tk has hk => args_nil ?_
    · obtain ⟨z, t, h1, rfl⟩ := strs_get i v r (by simpa using hv)
      exact ⟨z, h1, strKind_is _ _ _ _, rfl⟩
    · unfold StX.Has at has
      rw [← hsz, List.take_length] at has
      obtain ⟨o', es, ep, t, ho, hex, hd, _, _, _, hf, hn⟩ := has
      have dle := StX.dl_le zs
      exact call_len_set ho hex hd hf (by rw [hn]; omega) ⟨.int (StX.dl zs).length, H1, Inv.tok (I1.kept fun b o e => hk b o (Heap.lt_size e) e) _, ⟨_, by rw [hn]⟩, q1⟩
  · obtain ⟨l, vs, rfl, e1, e2⟩ := i1
    rw [is_strs e2] at e1
    exact ⟨l, rfl, SqL.of (R1.sub _ _ e1), q _ F1 H1 n1 R1 rfl⟩
end
end Fd

set_option Elab.async false
set_option linter.all false
set_option maxRecDepth 100000
set_option maxHeartbeats 4000000
/-! Fd29: raising C(e) with any datum, as contracts of a def and of an __init__; try/except C as n around a call, the handled exception a datum. -/
namespace Fd
open PySem PySem.Spec PyProof.Rows L2 PySem.ExS
/-- what is told of a raise of C with the datum d, from the base B -/
def JE (T : List (Addr × Str)) (K : PySem.W.Frag) (B : Hp × Hp) (C : Addr) (f : Str) (d : D) (E : XK) : Prop := ∀ a v F1 H1, Nx T B.1 B.2 F1 H1 → H1 a = some (.xd [(f, v)]) → F1 a = none → Fr B.2 a → Is K F1 d v → E (.ref C) (some a) H1
/-- a def that raises C with d -/
def spE (T : List (Addr × Str)) (K : PySem.W.Frag) (C : Addr) (f : Str) (n : Nat) (pre : List D → D → Prop) : Sp := fun vs H _ E => ∃ F ds d, Ext F H ∧ (∀ p ps, F p ≠ some (.tbl ps)) ∧ LamX.Tabs T H ∧ IsL K F ds vs ∧ ds.length = n ∧ pre ds d ∧ JE T K (F, H) C f d E
/-- an __init__ of CC that raises C with d -/
def spME (T : List (Addr × Str)) (K : PySem.W.Frag) (CC C : Addr) (f : Str) (n : Nat) (pre : List D → D → Prop) : Sp := fun vs H _ E => ∃ H0 F p dx us ds d, vs = .ref p :: us ∧ H0 p = none ∧ H0 dx = none ∧ dx ≠ p ∧ H = upd (upd H0 dx (.own p)) p (.ins CC dx []) ∧ Ext F H0 ∧ (∀ p ps, F p ≠ some (.tbl ps)) ∧ LamX.Tabs T H0 ∧ IsL K F ds us ∧ ds.length = n ∧ pre ds d ∧ JE T K (F, H0) C f d E
def RE (T : List (Addr × Str)) (X : Cx) (sts : List Stmt) (ss : SS) (C : Addr) (f : Str) (d : D) (E : XK) : Prop := PSs X sts (fun _ σ H => ∃ B F, StR T X.K B F H σ ss ∧ JE T X.K B C f d E)
abbrev AllRe (T : List (Addr × Str)) (X : Cx) (sts : List Stmt) (C : Addr) (f : Str) (d : D) (E : XK) : TS := fun _ σ H => ∃ B F ss, RE T X sts ss C f d E ∧ StR T X.K B F H σ ss ∧ JE T X.K B C f d E
section
variable {T : List (Addr × Str)} {X : Cx} {ss : SS} {st : Stmt} {sts rest A1 A2 : List Stmt} {e cnd tg : Expr} {E : XK} {pos p pos' : Pos} {C fI cc cda : Addr} {f y x : Str} {k n : Nat} {d : D} {xs : List D}
theorem pss_re : PSs X sts (AllRe T X sts C f d E) := ⟨fun pins s σ H D I ⟨B, F, ss, h, R, q⟩ => h.run pins s σ H D I ⟨B, F, R, q⟩⟩
theorem re_cons (h : SV T X st ss ⟨fun ss' => RE T X rest ss' C f d E, fun _ => False, fun _ => False, fun _ => False⟩) : RE T X (st :: rest) ss C f d E := by
  refine PSs.imp (pss_cons h (pss_re (T := T) (C := C) (f := f) (d := d) (E := E))) fun D σ H ⟨B, F, R, q⟩ => ?_
  exact ⟨B, F, ss, _, ⟨rfl, rfl⟩, R, fun ss' σ' F1 H1 hn R1 => ⟨B, F1, ss', hn, R1, q⟩, fun _ _ _ _ _ _ z => z.elim, fun _ _ _ _ z => z.elim, fun _ _ _ _ z => z.elim⟩
theorem re_ifT (hc : TV T X cnd ss true) (h : RE T X A1 ss C f d E) : RE T X (.If cnd A1 A2 pos :: rest) ss C f d E :=
  PSs.imp (pss_cons (ps_if hc h (pss_all (T := T) (sts := A2))) (pss_all (T := T))) fun D σ H ⟨B0, F, R, q⟩ => tv_go R fun F1 H1 n1 R1 => ⟨B0, F1, R1, q⟩
/-- raise C(e) -/
theorem re_raise (tk : Takes X (fun cls d _ H => E cls d H)) (EC : ExCls X.prog X.K X.mg C fI cc cda) (Fn : ExFn1 X.K C fI cc cda f y) (rs : Raises X (.ref C)) (hr : Room k X.A) (hm : X.mg x = some (.ref C)) (he : EV T X e ss d) (hg : Gl X x := by rfl) (hc : X.calm = true := by rfl) (hdb : (x == ("__debug__" : Str)) = false := by decide)
    (hst : starEach [e] X.env = [(false, eval e X.env)] := by rfl) (hpl : (backTo pos (starEach [] X.env)).any (·.1) = false := by rfl) : RE T X (.Raise (some (.Call (.Name x p) [e] [] pos)) none pos' :: rest) ss C f d E := by
  refine PSs.imp (pss_cons (ps_raise hc tk (pmk_exv1 EC Fn rs hr (evs_cons he evs_nil hst) hm hg hdb hst hpl)) (pss_all (T := T))) fun D σ H ⟨B0, F, R, q⟩ => ?_
  refine evs_go R fun vs F1 H1 n1 R1 i1 => ?_
  obtain ⟨v, rfl, i⟩ := isL1 i1
  exact ⟨_, rfl, fun a ha => q a v F1 _ (R1.back.trans (Nx.allocH R1.sub ha)) upd_same (R1.free ha) (R1.base_none ha) i⟩
theorem pss_orE {t1 t2 : TS} (h1 : PSs X sts t1) (h2 : PSs X sts t2) : PSs X sts (fun D σ H => t1 D σ H ∨ t2 D σ H) :=
  ⟨fun pins s σ H D I q => q.elim (fun z => h1.run pins s σ H D I z) fun z => h2.run pins s σ H D I z⟩
/-- a for whose turn n raises -/
theorem re_for {body : List Stmt} (t : Tg) (I : Nat → SS → Prop) (n : Nat) (hn : n < xs.length) (hi : IV T X tg e ss xs) (hg : PG X tg (gOf X.K t)) (h0 : I 0 ss)
    (hs : ∀ i x ss', i < n → xs[i]? = some x → I i ss' → t.fits x = true ∧ SVs T X body (t.put x ss') ⟨I (i + 1), fun _ => False, fun _ => False, I (i + 1)⟩)
    (hx : ∀ x ss', xs[n]? = some x → I n ss' → t.fits x = true ∧ RE T X body (t.put x ss') C f d E)
    (hp : PassesOwn (model X.prog X.w) X.A X.env X.xe := by exact passes_of rfl) (hc : X.calm = true := by rfl) (hf : ∀ x, foldedSetIterable e X.env x = pure x := by intro _; rfl) : RE T X (.For tg e body [] pos :: rest) ss C f d E := by
  refine PSs.imp (pss_cons (ps_for hp hc hi hg (pss_orE (pss_all (T := T) (sts := body)) (pss_re (T := T) (C := C) (f := f) (d := d) (E := E))) hf) (pss_all (T := T))) fun D σ H ⟨B, F, R, q⟩ => ⟨B, F, R, fun Jt F1 H1 n1 R1 Y => ?_⟩
  refine ⟨fun i m σ' H' => m = xs.length - i ∧ i ≤ n ∧ ∃ F' ss', StR T X.K (F1, B.2) F' H' σ' ss' ∧ I i ss', ⟨xs.length, by simp, Nat.zero_le _, F1, ss, R1.rebase, h0⟩, ?_⟩
  rintro i m σ' H' ⟨rfl, hi', F', ss', R', hI⟩
  obtain ⟨go, yl⟩ := Y.item i F' H' R'.bF R'.sub (by omega)
  refine .inr ⟨go, fun σ2 H2 => ∃ F2 ss2, StR T X.K (F1, B.2) F2 H2 σ2 ss2 ∧ I (i + 1) ss2 ∧ i + 1 ≤ n, fun σ2 H2 ⟨F2, ss2, R2, h2, h3⟩ => ⟨xs.length - (i + 1), by omega, rfl, h3, F2, ss2, R2, h2⟩, fun v H2 yv => ?_⟩
  obtain ⟨F2, x, n2, hx', ix⟩ := yl v H2 yv
  by_cases hin : i < n
  · obtain ⟨hfit, hbody⟩ := hs i x ss' hin hx' hI
    refine tg_go (ws := []) (R'.grow n2) ix hfit (fun j _ => .inr rfl) fun σ3 R3 _ => .inl ?_
    exact sv_go hbody R3 ⟨fun ss4 σ4 F4 H4 q4 R4 => ⟨F4, ss4, R4, q4, hin⟩, fun d v ss4 σ4 F4 H4 z => z.elim, fun _ _ _ _ z => z.elim, fun ss4 σ4 F4 H4 q4 R4 => ⟨F4, ss4, R4, q4, hin⟩⟩
  · obtain rfl : i = n := by omega
    obtain ⟨hfit, hbody⟩ := hx x ss' hx' hI
    exact tg_go (ws := []) (R'.grow n2) ix hfit (fun j _ => .inr rfl) fun σ3 R3 _ => .inr ⟨B, _, _, hbody, R1.unbase R3, q⟩
end
section
variable {T : List (Addr × Str)} {P : Program} {w : World} {K : PySem.W.Frag} {mg : Str → Option Value} {base : Heap} {x qual : Str} {st : Stmt} {f CC C : Addr} {fa : Str} {fd : FuncData} {cdv : Value} {N ps : List Str} {k n : Nat} {pre : List D → D → Prop}
theorem fe_ok (F : FunZ K x qual st f fd cdv) (S : FnScope N ps (defScope st)) (hn : ps.length = n)
    (h : ∀ (A : Around) (outer : List Env) (s : Shared) (H : Hp) (E : XK) (ds : List D) (d : D), Room k (A.deeper (envOfC qual (defScope st) s.heap.objs.size f cdv)) → ds.length = n → pre ds d →
      Takes (xX P w K mg base N qual st f cdv A outer s H E) (fun cls d _ H => E cls d H) → RE T (xX P w K mg base N qual st f cdv A outer s H E) (defBody st) (startS N ds) C fa d E) : FnOk P w K mg base (L2.CX P w) (k + 1) f fd ps (spE T K C fa n pre) :=
  F.ok S (fun vs H Q E ⟨F, ds, d, _, _, _, i, l, _⟩ => by rw [i.length, l, hn]) fun A outer s H vs Q E hr ⟨F0, ds, d, x, nt, tb, i, l, p, q⟩ =>
    ⟨_, h A outer s H E ds d hr l p (takes_of rfl rfl rfl rfl), (F0, H), F0, start_str x nt tb i, q⟩
theorem inite_ok (F : FunZ K x qual st f fd cdv) (S : FnScope N ps (defScope st)) (hn : ps.length = n + 1)
    (h : ∀ (A : Around) (outer : List Env) (s : Shared) (H : Hp) (E : XK) (p : Addr) (ds : List D) (d : D), Room k (A.deeper (envOfC qual (defScope st) s.heap.objs.size f cdv)) → ds.length = n → pre ds d →
      Takes (xX P w K mg base N qual st f cdv A outer s H E) (fun cls d _ H => E cls d H) → RE T (xX P w K mg base N qual st f cdv A outer s H E) (defBody st) (startO p CC N ds) C fa d E) : FnOk P w K mg base (L2.CX P w) (k + 1) f fd ps (spME T K CC C fa n pre) := by
  refine F.ok S (fun vs H Q E ⟨H0, F, p, dx, us, ds, d, e, _, _, _, _, _, _, _, i, l, _⟩ => by rw [e, hn, List.length_cons, i.length, l]) fun A outer s H vs Q E hr ⟨H0, F0, p, dx, us, ds, d, e, hp, hd, ne, eH, xF, nt, tb, i, l, pr, q⟩ => ?_
  subst e; subst eH
  exact ⟨_, h A outer s _ E p ds d hr l pr (takes_of rfl rfl rfl rfl), (F0, H0), F0, start_strO hp hd ne xF nt tb i, q⟩
/-- the def, in the runs in which it raises C with d -/
def FE (T : List (Addr × Str)) (P : Program) (w : World) (K : PySem.W.Frag) (mg : Str → Option Value) (base : Heap) (x : Str) (C : Addr) (fa : Str) (n k : Nat) (pre : List D → D → Prop) : Prop :=
  ∃ f fd ps, mg x = some (.ref f) ∧ PySem.W.keepIn K (.ref f) = true ∧ Binds K fd ps [] ∧ ps.length = n ∧ FnOk P w K mg base (L2.CX P w) k f fd ps (spE T K C fa n pre)
/-- the class, whose making raises -/
def MDE (T : List (Addr × Str)) (P : Program) (w : World) (K : PySem.W.Frag) (mg : Str → Option Value) (base : Heap) (x : Str) (CC C : Addr) (fa : Str) (n k : Nat) (pre : List D → D → Prop) : Prop :=
  ∃ f fd ps, mg x = some (.ref CC) ∧ Mk K CC f ∧ ps.length = n + 1 ∧ FnOk P w K mg base (L2.CX P w) k f fd ps (spME T K CC C fa n pre) ∧ Binds K fd ps []
/-- an own method, in the runs in which it raises -/
structure OwnE (T : List (Addr × Str)) (P : Program) (w : World) (K : PySem.W.Frag) (mg : Str → Option Value) (base : Heap) (CC : Addr) (m : Str) (C : Addr) (fa : Str) (n k : Nat) (pre : List D → D → Prop) : Prop where
  ex : ∃ f fd ps, Meth K CC m f ∧ FnOk P w K mg base (L2.CX P w) k f fd ps (spE T K C fa n pre) ∧ Binds K fd ps []
end
/-- e raises -/
def XE' (T : List (Addr × Str)) (X : Cx) (e : Expr) (ss : SS) (C : Addr) (f : Str) (d : D) (E : XK) : Prop := PE X e (fun σ H _ => ∃ B F, StR T X.K B F H σ ss ∧ JE T X.K (F, H) C f d E)
end Fd

set_option Elab.async false
set_option linter.all false
set_option maxRecDepth 100000
set_option maxHeartbeats 4000000
/-! Fd30: try: C(..) or o.m(..), except E as n: .. -/
namespace Fd
open PySem PySem.Spec PyProof.Rows L2 PySem.ExS
section
variable {X : Cx} {CX : CXT} {k : Nat} {f C : Addr} {fd : FuncData} {ps : List Str} {sp : Sp} {E : L2.St → XK} {x m : Str} {p pos apos : Pos} {e o : Expr} {es : List Expr} {t : TA} {to : TE}
/-- C(..): what its __init__ raises is wished for at the slots -/
theorem made_at {pins : List (Addr × Obj)} {σ : L2.St} {H : Hp} {s : Shared} {Q : VK} {us : List Value} {vs : List V} (M : Mk X.K C f) (F : FnOk X.prog X.w X.K X.mg X.base CX k f fd ps sp) (hr : Room (k + 1) X.A) (hb : Binds X.K fd ps []) (hx : PassesAt CX X σ (E σ)) (I : Inv X pins σ H s) (r : Vals vs us)
    (h : ∀ y dx, H y = none → H dx = none → dx ≠ y → sp (.ref y :: vs) (upd (upd H dx (.own y)) y (.ins C dx [])) (fun v H2 => v = .non ∧ Q (.ref y) H2) (E σ)) : wpAny (model X.prog X.w) X.A (call (.ref C) us) (EP X pins σ Q) X.xe s := by
  have q := h (s.heap.objs.size + 1) s.heap.objs.size (I.hok.fresh (Nat.le_succ _)) (I.hok.fresh (Nat.le_refl _)) (Nat.ne_of_lt (Nat.lt_succ_self _))
  have J := Inv.made (C := C) I
  have rv : Vals (V.ref (s.heap.objs.size + 1) :: vs) (Value.ref (s.heap.objs.size + 1) :: us) := .cons rfl r
  have len : (Value.ref (s.heap.objs.size + 1) :: us ++ []).length = ps.length := by
    rw [List.append_nil, ← rv.length]; exact F.len _ _ _ _ q
  have bnd := hb _ (Value.ref (s.heap.objs.size + 1) :: us) J.kIn len
  rw [List.append_nil] at bnd
  refine wpAny_call (make_map (f := f) I.kIn M.makes M.init (beq_iff_eq.mp M.fn) (codeAny_mono (F.run _ X.stack _ _ ⟨Value.ref (s.heap.objs.size + 1) :: us, []⟩ (Value.ref (s.heap.objs.size + 1) :: us) _ _ (E σ) (hr.make C us []) (J.env0.make C us []) bnd rv q) fun r s2 hq => ?_))
  rcases r with u | fl
  · exact hx pins _ _ u s2 J hq
  · cases fl with
    | ret u =>
      obtain ⟨v, H3, I3, r3, e3, q3⟩ := J.after hq
      subst e3
      exact ⟨r3, .ref _, H3, I3, rfl, q3⟩
    | next => exact hq.elim
    | brk => exact hq.elim
    | cont => exact hq.elim
theorem pe_makeAt (M : Mk X.K C f) (F : FnOk X.prog X.w X.K X.mg X.base CX k f fd ps sp) (hr : Room (k + 1) X.A) (hm : X.mg x = some (.ref C)) (hb : Binds X.K fd ps []) (hx : ∀ σ, PassesAt CX X σ (E σ)) (ha : PA X (e :: es) t) (hg : Gl X x := by rfl) (hdb : (x == ("__debug__" : Str)) = false := by decide)
    (he : starEach (e :: es) X.env = (false, eval e X.env) :: starEach es X.env := by rfl) (hpl : (backTo pos (starEach es X.env)).any (·.1) = false := by rfl) :
    PE X (.Call (.Name x p) (e :: es) [] pos) (fun σ H Q => t σ H fun vs H1 => ∀ y dx, H1 y = none → H1 dx = none → dx ≠ y → sp (.ref y :: vs) (upd (upd H1 dx (.own y)) y (.ins C dx [])) (fun v H2 => v = .non ∧ Q (.ref y) H2) (E σ)) :=
  ⟨fun pins s σ H Q I h => wpAny_Call_Name_kw (ld_glob I hg hm (PySem.W.callWith_K (h₀ := X.base) I.ok.mod.kin M.kp (thn (ha.run pos pins s σ H _ I h) fun us s1 ⟨vs, H1, I1, r, q⟩ => ⟨I1.kIn, made_at M F hr hb (hx σ) I1 r q⟩) he hpl) hdb)⟩
theorem pe_methAt {pl : Sem Bool} (ho : PE X o to) (c : Cls X.K C) (hm : Meth X.K C m f) (F : FnOk X.prog X.w X.K X.mg X.base CX k f fd ps sp) (hr : Room k X.A) (hb : Binds X.K fd ps []) (hx : ∀ σ, PassesAt CX X σ (E σ)) (ha : PA X (e :: es) t)
    (he : starEach (e :: es) X.env = (false, eval e X.env) :: starEach es X.env := by rfl) (hpl : (backTo pos (starEach es X.env)).any (·.1) = false := by rfl)
    (ht : eval (.Call (.Attribute o m apos) (e :: es) [] pos) X.env = (do
      let ov ← eval o X.env
      standAt apos.atName
      let (g, first) ← holding [ov] (getMethod ov m pl)
      callWith pos g first (backTo pos (starEach (e :: es) X.env)) (backToKw pos (keywordEach [] X.env))) := by rfl) :
    PE X (.Call (.Attribute o m apos) (e :: es) [] pos) (fun σ H Q => to σ H fun y H1 => ∃ (a dx : Addr) (fs : List (Str × V)), y = .ref a ∧ H1 a = some (.ins C dx fs) ∧ fs.lookup m = none ∧ t σ H1 fun vs H2 => sp (.ref a :: vs) H2 Q (E σ)) := by
  refine ⟨fun pins s σ H Q I h => PySem.W.methodCall_KW (pl := pl) (thn (ho.run pins s σ H _ I h) fun u s1 ⟨y, H1, I1, ry, a, dx, fs, ey, ea, l, q⟩ => ?_) ht⟩
  subst ey
  cases (show u = Value.ref a from ry)
  refine getmeth_ok I1 ea c hm l ?_
  exact PySem.W.callWith_K (first := [.ref a]) I1.kIn hm.kp (thn (ha.run pos pins s1 σ H1 _ I1 q) fun us s2 ⟨vs, H2, I2, r, q2⟩ => ⟨I2.kIn, run_fnS (us := Value.ref a :: us) (vs := V.ref a :: vs) F hr hb (hx σ) I2 (.cons rfl r) q2⟩) he hpl
end
section
variable {T : List (Addr × Str)} {X : Cx} {ss : SS} {P : Post} {e o call : Expr} {es : List Expr} {pos p p1 p2 p3 pa apos : Pos} {C CC : Addr} {f n x m : Str} {i k nn : Nat} {d : D} {ds : List D} {pre : List D → D → Prop} {W : WX} {ns : List Str} {xs : List D}
/-- a call that raises C with d, the wish at the slots -/
def XW (T : List (Addr × Str)) (X : Cx) (e : Expr) (ss : SS) (C : Addr) (f : Str) (d : D) (W : WX) : Prop := PE X e (fun σ H _ => ∃ B F, StR T X.K B F H σ ss ∧ ∀ a v F1 H1, Nx T F H F1 H1 → H1 a = some (.xd [(f, v)]) → F1 a = none → Fr H a → Is X.K F1 d v → W (.ref C) (some a) σ H1)
theorem xw_make (G : MDE T X.prog X.w X.K X.mg X.base x CC C f nn k pre) (tk : Takes X W) (hr : Room (k + 1) X.A) (ha : EVs T X (e :: es) ss ds) (hp : pre ds d) (hn : ds.length = nn := by rfl) (hg : Gl X x := by rfl) (hdb : (x == ("__debug__" : Str)) = false := by decide)
    (he : starEach (e :: es) X.env = (false, eval e X.env) :: starEach es X.env := by rfl) (hpl : (backTo pos (starEach es X.env)).any (·.1) = false := by rfl) : XW T X (.Call (.Name x p) (e :: es) [] pos) ss C f d W := by
  obtain ⟨g, fd, ps, h1, h2, h3, h4, h5⟩ := G
  refine PE.imp (pe_makeAt (E := WE W) h2 h4 hr h1 h5 (passAt tk) ha hg hdb he hpl) fun σ H Q ⟨B, F, R, q⟩ => evs_go R fun vs F1 H1 n1 R1 i1 => fun y dx hy hdx ne => ?_
  exact ⟨H1, F1, y, dx, vs, ds, d, rfl, hy, hdx, ne, rfl, R1.sub, R1.nt, R1.tb, i1, hn, hp, fun a v F2 H2 n2 h6 h7 h8 i2 => q a v F2 H2 (n1.trans n2) h6 h7 (n1.h.fr h8) i2⟩
theorem xw_meth {pl : Sem Bool} (ho : EV T X o ss (.ins CC ns xs)) (cl : Cls X.K CC) (nm : m ∉ ns) (G : OwnE T X.prog X.w X.K X.mg X.base CC m C f nn k pre) (tk : Takes X W) (hr : Room k X.A) (ha : EVs T X (e :: es) ss ds) (hp : pre (.ins CC ns xs :: ds) d) (hn : ds.length + 1 = nn := by rfl)
    (he : starEach (e :: es) X.env = (false, eval e X.env) :: starEach es X.env := by rfl) (hpl : (backTo pos (starEach es X.env)).any (·.1) = false := by rfl)
    (ht : eval (.Call (.Attribute o m apos) (e :: es) [] pos) X.env = (do
      let ov ← eval o X.env
      standAt apos.atName
      let (g, first) ← holding [ov] (getMethod ov m pl)
      callWith pos g first (backTo pos (starEach (e :: es) X.env)) (backToKw pos (keywordEach [] X.env))) := by rfl) : XW T X (.Call (.Attribute o m apos) (e :: es) [] pos) ss C f d W := by
  obtain ⟨g, fd, ps, h1, h2, h3⟩ := G.ex
  refine PE.imp (pe_methAt (E := WE W) (pl := pl) ho cl h1 h2 hr h3 (passAt tk) ha he hpl ht) fun σ H Q ⟨B, F, R, q⟩ => ev_go R fun v F1 H1 n1 R1 i1 => ?_
  obtain ⟨a, dx, fs, rfl, e1, e2, e3⟩ := id i1
  refine ⟨a, dx, fs, rfl, R1.sub _ _ e1, no_lookup (by rw [e2]; exact nm), evs_go R1 fun vs F2 H2 n2 R2 i2 => ?_⟩
  exact ⟨F2, .ins CC ns xs :: ds, d, R2.sub, R2.nt, R2.tb, .cons (Is.mono n2.f _ i1) i2, hn, hp, fun a v F3 H3 n3 h6 h7 h8 i3 => q a v F3 H3 ((n1.trans n2).trans n3) h6 h7 ((n1.trans n2).h.fr h8) i3⟩
/-- try: call / except C as n: suite -/
theorem sv_tryC {b0 : Stmt} {suite : List Stmt} (hX : ∀ (W : WX) (pn : List (Addr × Obj)) (xe : Value → Shared → Prop), Takes (X.tr pn xe) W → XW T (X.tr pn xe) call ss C f d W)
    (hsu : ∀ (a dd : Addr) (oe : Obj) (pn : List (Addr × Obj)), Zc (.ref C) (some dd) oe → (∃ vs, oe.data = .fields vs) → SVs T (X.suite a ((a, oe) :: pn)) (b0 :: suite) (ss.set i (.d (.hx a dd f d))) ⟨fun _ => False, P.rt, fun _ => False, fun _ => False⟩)
    (hxm : PySem.W.exmOne X.K (.ref C) (.ref C) = some true) (hm : X.mg x = some (.ref C)) (hN : X.N.Nodup) (hi : X.N[i]? = some n) (hln : X.env.kindOf n = some .local) (tk : Takes X (fun _ _ _ _ => False)) (hg : Gl X x := by rfl)
    (hstk : X.stack = X.env :: X.outer := by rfl) (hf : X.env.frame = some X.env.locals := by rfl) (hdx : (x == ("__debug__" : Str)) = false := by decide) (hs : swapsWith call none pos.line X.env = pure false := by rfl) :
    SV T X (.Try [.Expr call pos] [.ExceptHandler (some (.Name x p2)) (some n) (b0 :: suite) p3] [] [] p) ss P := by
  refine SV.of (ps_try_as (c := .ref C) (i := i) (Wout := fun _ _ _ _ => False) (tb := fun W D σ H => ∃ B F, StR T X.K B F H σ ss ∧ ∀ a v F1 H1, Nx T F H F1 H1 → H1 a = some (.xd [(f, v)]) → F1 a = none → Fr H a → Is X.K F1 d v → W (.ref C) (some a) σ H1)
    (ts := fun a cls dd D σ H => ∃ u, cls = .ref C ∧ dd = some u ∧ tSv T X.K (fun ss' P' => ss' = ss.set i (.d (.hx a u f d)) ∧ P' = ⟨fun _ => False, P.rt, fun _ => False, fun _ => False⟩) D σ H)
    hstk hf hN hi hln ⟨hg, hdx, .inl hm⟩ tk (fun W pn xe tk' _ => pss_one (ps_expr (hX W pn xe tk') hs)) (fun a oe cls dd pn hz hfl => ⟨fun pins s σ H D I ⟨u, e1, e2, q⟩ => ?_⟩)) fun B F H σ Dn R g => ?_
  · subst e1; subst e2
    exact (hsu a u oe pn hz hfl).run pins s σ H D I q
  · refine ⟨B, F, R, fun a0 v F1 H1 nx hxd hF hfr iv => ⟨true, hxm, fun _ a ha => ⟨a0, rfl, rfl, ?_⟩, fun z => nomatch z⟩⟩
    have n2 := nx.told hF hfr hxd
    have R1 := (R.grow n2).put (i := i) (x := .hx a a0 f d) (v := .ref a) ⟨rfl, v, upd_same, Is.mono (Ext.upd hF) _ iv⟩
    exact ⟨B, _, _, _, ⟨rfl, rfl⟩, R1, fun _ _ _ _ z => z.elim, fun d' v' ss' σ' F3 H3 k R3 i3 => g.rt d' v' ss' σ' F3 H3 k R3 i3, fun _ _ _ _ z => z.elim, fun _ _ _ _ z => z.elim⟩
/-- n.f of the handled exception -/
theorem ev_hx {a dd : Addr} {oe : Obj} {pn : List (Addr × Obj)} {ss' : SS} (i : Nat) (hss : ss'[i]? = some (.d (.hx a dd f d))) (xf : XfC X.K C) (hno : PySem.W.findIn X.K (.ref C) f = some none) (hz : Zc (.ref C) (some dd) oe) (hfl : ∃ vs, oe.data = .fields vs) (hi : X.N[i]? = some n) (hv : Vis X.env.scope n)
    (hd : (n == ("__debug__" : Str)) = false := by decide) (hcd : (n == ("__classdict__" : Str)) = false := by decide) (hb : attributeBase (.Name n p) f X.env (eval (.Name n p) X.env) = eval (.Name n p) X.env := by rfl) :
    EV T (X.suite a ((a, oe) :: pn)) (.Attribute (.Name n p) f pos) ss' d :=
  EV.of (pe_xf (X := X) xf hno hz hfl (pe_var (X := X.suite a ((a, oe) :: pn)) hi hv hd hcd) hb) fun B F H σ Q R q => by
    obtain ⟨v, e1, e2, u, e3, e4⟩ := R.get hss
    exact ⟨v, e1, e2, rfl, dd, _, u, rfl, R.sub _ _ e3, by simp, q u F H R.nx R e4⟩
end
end Fd

set_option Elab.async false
set_option linter.all false
set_option maxRecDepth 100000
set_option maxHeartbeats 4000000
/-! Fd31: in and not in of lists (data, one's own), insert, a comprehension as a list of one's own, count of a text, == of data and of flat things. -/
namespace Fd
open PySem PySem.Spec PyProof.Rows L2
/-! ### plain data, with its depth -/
structure Pd (d : D) (p : PyData) (n : Nat) : Prop where
  py : d.py = some p
  lay : p.canLay0 = true
  dep : p.depth ≤ n
structure PdL (ds : List D) (ps : List PyData) (n : Nat) : Prop where
  py : D.pys ds = some ps
  lay : PyData.canLayAll0 ps = true
  dep : PyData.depthAll ps ≤ n
theorem Pd.shaped {d : D} {p : PyData} {n : Nat} (h : Pd d p n) (hn : n ≤ 64 := by decide) : SeqAt.shaped p = true := by
  unfold SeqAt.shaped
  rw [h.lay]
  exact decide_eq_true (Nat.le_trans h.dep hn)
theorem Pd.str {x : Str} (h : PyData.strOk x = true) : Pd (.str x) (.str x) 0 := ⟨rfl, by unfold PyData.canLay0; exact h, by unfold PyData.depth; exact Nat.le_refl _⟩
theorem Pd.int (i : Int) : Pd (.int i) (.int i) 0 := ⟨rfl, by unfold PyData.canLay0; rfl, by unfold PyData.depth; exact Nat.le_refl _⟩
theorem Pd.non : Pd .non .none 0 := ⟨rfl, by unfold PyData.canLay0; rfl, by unfold PyData.depth; exact Nat.le_refl _⟩
theorem Pd.up {d : D} {p : PyData} {n m : Nat} (h : Pd d p n) (hm : n ≤ m := by decide) : Pd d p m := ⟨h.py, h.lay, Nat.le_trans h.dep hm⟩
theorem PdL.nil {n : Nat} : PdL [] [] n := ⟨rfl, by unfold PyData.canLayAll0; rfl, by unfold PyData.depthAll; exact Nat.zero_le _⟩
theorem PdL.cons {d : D} {p : PyData} {n : Nat} {ds : List D} {ps : List PyData} (h : Pd d p n) (t : PdL ds ps n) : PdL (d :: ds) (p :: ps) n :=
  ⟨by unfold D.pys; rw [h.py, t.py], by unfold PyData.canLayAll0; rw [h.lay, t.lay]; rfl, by unfold PyData.depthAll; exact Nat.max_le.mpr ⟨h.dep, t.dep⟩⟩
theorem Pd.lst {ds : List D} {ps : List PyData} {n : Nat} (h : PdL ds ps n) : Pd (.lst ds) (.list ps) (n + 1) := ⟨by unfold D.py; rw [h.py]; rfl, by unfold PyData.canLay0; exact h.lay, by unfold PyData.depth; exact Nat.succ_le_succ h.dep⟩
theorem Pd.tup {ds : List D} {ps : List PyData} {n : Nat} (h : PdL ds ps n) : Pd (.tup ds) (.tuple ps) (n + 1) := ⟨by unfold D.py; rw [h.py]; rfl, by unfold PyData.canLay0; exact h.lay, by unfold PyData.depth; exact Nat.succ_le_succ h.dep⟩
theorem PdL.map {α : Type} {f : α → D} {g : α → PyData} {n : Nat} : ∀ {l : List α}, (∀ x ∈ l, Pd (f x) (g x) n) → PdL (l.map f) (l.map g) n
  | [], _ => .nil
  | x :: l, h => .cons (h x List.mem_cons_self) (PdL.map fun y hy => h y (List.mem_cons_of_mem _ hy))
theorem PdL.strs {zs : List Str} (h : ∀ z ∈ zs, PyData.strOk z = true) : PdL (zs.map D.str) (zs.map PyData.str) 0 := .map fun z hz => .str (h z hz)
theorem eqv_self {d : D} {p : PyData} {n : Nat} (h : Pd d p n) : PyData.eqv p p = true := SeqAt.eqv_refl _ h.lay
theorem any_strs (zs : List Str) (x : Str) : (zs.map PyData.str).any (fun z => PyData.eqv z (.str x)) = decide (x ∈ zs) := by
  induction zs with
  | nil => rfl
  | cons z zs ih =>
    rw [List.map_cons, List.any_cons, ih, eqv_str]
    by_cases h : z = x
    · subst h; simp
    · have : ¬ x = z := fun e => h e.symm
      simp [h, this]
section
variable {T : List (Addr × Str)} {X : Cx} {ss : SS} {P : Post} {st : Stmt} {a b e o : Expr} {x y : Str} {d d2 : D} {xs ys : List D} {px p p1 p2 p3 pos pos' apos cpos : Pos} {n k m : Nat} {q1 q2 : PyData} {ps : List PyData} {i : Int}
theorem room65 (hr : Room k X.A) : X.A.units + 65 < cLine := by have := hr.un; omega
/-! ### in -/
theorem tv_inL (hr : Room k X.A) (ha : EV T X a ss d) (hb : EV T X b ss (.lst xs)) (h1 : Pd d q1 n) (h2 : PdL xs ps m) (hn : n ≤ 64 := by decide) (hm : m ≤ 63 := by decide) (hm1 : behindInMarks .In b = false := by rfl) : TV T X (.Compare a [.In] [b] pos) ss (ps.any fun z => PyData.eqv z q1) :=
  tv_cmp (op_inD (room65 hr)) ha hb (fun B F H σ v u Q R i1 i2 q => ⟨q1, ps, py_dp R.sub _ i1 h1.py, py_dp R.sub _ i2 (Pd.lst h2).py, h1.shaped hn, (Pd.lst h2).shaped (by omega), q F H R.nx R⟩) hm1
theorem tv_notInL (hr : Room k X.A) (ha : EV T X a ss d) (hb : EV T X b ss (.lst xs)) (h1 : Pd d q1 n) (h2 : PdL xs ps m) (hn : n ≤ 64 := by decide) (hm : m ≤ 63 := by decide) (hm1 : behindInMarks .NotIn b = false := by rfl) : TV T X (.Compare a [.NotIn] [b] pos) ss (!ps.any fun z => PyData.eqv z q1) :=
  tv_cmp (op_notInD (room65 hr)) ha hb (fun B F H σ v u Q R i1 i2 q => ⟨q1, ps, py_dp R.sub _ i1 h1.py, py_dp R.sub _ i2 (Pd.lst h2).py, h1.shaped hn, (Pd.lst h2).shaped (by omega), q F H R.nx R⟩) hm1
theorem own_dp {B : Hp × Hp} {F H : Hp} {σ : L2.St} (R : StR T X.K B F H σ ss) {j : Nat} (hx : ss[j]? = some (.own xs)) (h2 : D.pys xs = some ps) : ∃ v, σ[j]? = some (some v) ∧ Dp X.K H v (.list ps) := by
  have hj : j < ss.length := (List.getElem?_eq_some_iff.mp hx).1
  have hs : j < σ.length := by rw [R.len]; exact hj
  obtain ⟨l, vs, e1, e2, e3, e4⟩ := R.slots j _ _ hx (List.getElem?_eq_getElem hs)
  exact ⟨.ref l, by rw [List.getElem?_eq_getElem hs, e1], .lst (SqL.of e3) (pys_dp R.sub xs e4 h2)⟩
theorem tv_inOwn (j : Nat) (hx : ss[j]? = some (.own xs)) (hr : Room k X.A) (ha : EV T X a ss d) (h1 : Pd d q1 n) (h2 : PdL xs ps m) (hn : n ≤ 64 := by decide) (hm : m ≤ 63 := by decide) (hp : PE X (.Name x px) (tVar j) := by exact pv _) (hm1 : behindInMarks .In (.Name x px) = false := by rfl) :
    TV T X (.Compare a [.In] [.Name x px] pos) ss (ps.any fun z => PyData.eqv z q1) :=
  TV.of (pt_cmpR (op_inD (room65 hr)) ha hp hm1) fun B F H σ Q R q => ev_go R fun v F1 H1 n1 R1 i1 => by
    obtain ⟨u, e1, e2⟩ := own_dp R1 hx h2.py
    exact ⟨u, e1, q1, ps, py_dp R1.sub _ i1 h1.py, e2, h1.shaped hn, (Pd.lst h2).shaped (by omega), _, rfl, q F1 H1 n1 R1⟩
theorem tv_notInOwn (j : Nat) (hx : ss[j]? = some (.own xs)) (hr : Room k X.A) (ha : EV T X a ss d) (h1 : Pd d q1 n) (h2 : PdL xs ps m) (hn : n ≤ 64 := by decide) (hm : m ≤ 63 := by decide) (hp : PE X (.Name x px) (tVar j) := by exact pv _) (hm1 : behindInMarks .NotIn (.Name x px) = false := by rfl) :
    TV T X (.Compare a [.NotIn] [.Name x px] pos) ss (!ps.any fun z => PyData.eqv z q1) :=
  TV.of (pt_cmpR (op_notInD (room65 hr)) ha hp hm1) fun B F H σ Q R q => ev_go R fun v F1 H1 n1 R1 i1 => by
    obtain ⟨u, e1, e2⟩ := own_dp R1 hx h2.py
    exact ⟨u, e1, q1, ps, py_dp R1.sub _ i1 h1.py, e2, h1.shaped hn, (Pd.lst h2).shaped (by omega), _, rfl, q F1 H1 n1 R1⟩
/-! ### == of data, of flat things -/
theorem ev_eqP (hr : Room k X.A) (ha : EV T X a ss d) (hb : EV T X b ss d2) (h1 : Pd d q1 n) (h2 : Pd d2 q2 m) (hn : n ≤ 64 := by decide) (hm : m ≤ 64 := by decide) (hm1 : behindInMarks .Eq b = false := by first | exact nomark _ | rfl) : EV T X (.Compare a [.Eq] [b] pos) ss (.bl (PyData.eqv q1 q2)) :=
  ev_cmpD (opD_eq hr) ha hb ⟨q1, q2, h1.py, h2.py, h1.shaped hn, h2.shaped hm, rfl⟩ hm1
/-- .. where something is handled -/
theorem ev_eqPU (hu : X.A.units + 64 < cLine) (ha : EV T X a ss d) (hb : EV T X b ss d2) (h1 : Pd d q1 n) (h2 : Pd d2 q2 m) (hn : n ≤ 64 := by decide) (hm : m ≤ 64 := by decide) (hm1 : behindInMarks .Eq b = false := by first | exact nomark _ | rfl) : EV T X (.Compare a [.Eq] [b] pos) ss (.bl (PyData.eqv q1 q2)) :=
  ev_cmp (op_eqD hu) ha hb (fun B F H σ v u Q R i1 i2 q => ⟨q1, q2, py_dp R.sub _ i1 h1.py, py_dp R.sub _ i2 h2.py, h1.shaped hn, h2.shaped hm, q _ F H R.nx R rfl⟩) hm1
theorem ev_eqB {t u : Bool} (ha : EV T X a ss (.bl t)) (hb : EV T X b ss (.bl u)) (hm1 : behindInMarks .Eq b = false := by first | exact nomark _ | rfl) : EV T X (.Compare a [.Eq] [b] pos) ss (.bl (t == u)) :=
  ev_cmp op_eq ha hb (fun B F H σ v w Q R i1 i2 q => by
    cases (show v = .bl t from i1); cases (show w = .bl u from i2)
    exact ⟨rfl, q _ F H R.nx R (by show V.bl _ = V.bl _; rw [dec_bl])⟩) hm1
theorem tv_neB {t u : Bool} (ha : EV T X a ss (.bl t)) (hb : EV T X b ss (.bl u)) (hm1 : behindInMarks .NotEq b = false := by first | exact nomark _ | rfl) : TV T X (.Compare a [.NotEq] [b] pos) ss (!(t == u)) :=
  tv_cmp op_ne ha hb (fun B F H σ v w Q R i1 i2 q => by
    cases (show v = .bl t from i1); cases (show w = .bl u from i2)
    refine ⟨rfl, ?_⟩
    rw [dec_bl]
    exact q F H R.nx R) hm1
/-- None or a whole number on either side -/
def oI : Option Nat → D
  | none => .non
  | some j => .int (j : Nat)
theorem ev_eqO {s t : Option Nat} (ha : EV T X a ss (oI s)) (hb : EV T X b ss (oI t)) (hm1 : behindInMarks .Eq b = false := by first | exact nomark _ | rfl) : EV T X (.Compare a [.Eq] [b] pos) ss (.bl (decide (s = t))) :=
  ev_cmp op_eq ha hb (fun B F H σ v w Q R i1 i2 q => by
    have key : ∀ {s : Option Nat} {v : V}, Is X.K F (oI s) v → v = (match s with | none => V.non | some j => V.int (j : Nat)) := fun {s v} h => by cases s <;> exact h
    rw [key i1, key i2]
    cases s with
    | none => cases t with
      | none => exact ⟨rfl, q _ F H R.nx R rfl⟩
      | some j => exact ⟨rfl, q _ F H R.nx R rfl⟩
    | some i => cases t with
      | none => exact ⟨rfl, q _ F H R.nx R rfl⟩
      | some j =>
        refine ⟨rfl, q _ F H R.nx R ?_⟩
        show V.bl _ = V.bl _
        rw [dec_int]
        by_cases h : i = j
        · subst h; simp
        · have h2 : ((i : Int) == (j : Int)) = false := by rw [beq_eq_false_iff_ne]; omega
          rw [h2]; simp [h]) hm1
/-! ### x.insert(i, e) -/
theorem sv_insert (j : Nat) (hx : ss[j]? = some (.own xs)) (ha : EV T X a ss (.int i)) (he : EV T X e ss d) (kk : P.nx (ss.set j (.own (xs.take i.toNat ++ [d] ++ xs.drop i.toNat)))) (hl : xs.length ≤ 100000) (h0 : 0 ≤ i) (h1 : i < 1000000)
    (hp : ∀ {ta te : TE}, PE X a ta → PE X e te → PE X (.Call (.Attribute (.Name x px) "insert" apos) [a, e] [] cpos) (tBM X.K "list" (fun x vs H Q => ∃ (l : Addr) (xs : List V) (i : Int) (y : V), x = .ref l ∧ vs = [.int i, y] ∧ H l = some (.lst xs) ∧ xs.length < sizeLine ∧ 0 ≤ i ∧ i < 2 ^ 63 ∧ Q .non (upd H l (.lst (xs.take i.toNat ++ [y] ++ xs.drop i.toNat)))) (tVar j) (tCons ta (tCons te tNil))) := by
      intro ta te g g2; exact pe_bm PySem.F.plainAttrs_list PySem.F.slot_list_insert PySem.F.type_list_insert mt_insert (pv _) (pa_cons g (pa_cons g2 pa_nil)))
    (hs : swapsWith (.Call (.Attribute (.Name x px) "insert" apos) [a, e] [] cpos) none pos.line X.env = pure false := by rfl) : SV T X (.Expr (.Call (.Attribute (.Name x px) "insert" apos) [a, e] [] cpos) pos) ss P := by
  refine SV.of (ps_expr (hp ha he) hs) fun B F H σ Dn R g => ?_
  have hj : j < ss.length := (List.getElem?_eq_some_iff.mp hx).1
  have hsl : j < σ.length := by rw [R.len]; exact hj
  obtain ⟨l, vs, e1, e2, e3, e4⟩ := R.slots j _ _ hx (List.getElem?_eq_getElem hsl)
  have hσ : σ[j]? = some (some (.ref l)) := by rw [List.getElem?_eq_getElem hsl, e1]
  refine ⟨.ref l, hσ, .inl ⟨rfl, vs, SqL.of e3⟩, ev_go R fun v F1 H1 n1 R1 i1 => ev_go R1 fun w F2 H2 n2 R2 i2 => ?_⟩
  cases (show v = .int i from i1)
  obtain ⟨l', vs', q1, q2, q3, q4⟩ := R2.slots j _ _ hx (List.getElem?_eq_getElem hsl)
  rw [q1] at e1
  cases e1
  refine ⟨l, _, i, w, rfl, rfl, q3, by rw [q4.length, sizeLine_eq]; omega, h0, Int.lt_trans h1 (by decide), g.nx _ _ _ _ kk (R2.chg hx rfl hσ rfl q2 ⟨l, _, rfl, q2, upd_same, ?_⟩)⟩
  exact ((q4.take _).append (.cons i2 .nil)).append (q4.drop _)
/-! ### y = [..]: one's own -/
theorem sv_lcOwn {elt tg it : Expr} {ifs : List Expr} {scope : Scope} {spos py : Pos} (j : Nat) (own : List (Str × Nat)) (t : Tg) (keep : D → Bool) (f : D → D) (hi : IV T X tg it ss xs) (ok : BlkOk X.N X.env.scope scope own)
    (hg : ∀ (s : Shared) (H : Hp) (C : Addr) (cl : List (Str × Addr)) (fp : List Addr), PG (X.blk s H scope (compEnvC scope cl C X.env) fp) tg (gOf X.K t))
    (ht : ∀ (s : Shared) (H : Hp) (C : Addr) (cl : List (Str × Addr)) (fp : List Addr) x, x ∈ xs → TsV T (X.blk s H scope (compEnvC scope cl C X.env) fp) ifs (t.put x (wipeS ss (own.map (·.2)))) (keep x))
    (he : ∀ (s : Shared) (H : Hp) (C : Addr) (cl : List (Str × Addr)) (fp : List Addr) x, x ∈ xs → keep x = true → EV T (X.blk s H scope (compEnvC scope cl C X.env) fp) elt (t.put x (wipeS ss (own.map (·.2)))) (f x))
    (kk : P.nx (ss.set j (.own (outs keep f xs)))) (hN : X.N.Nodup) (hfit : ∀ x ∈ xs, t.fits x = true) (hlen : xs.length ≤ 100000) (hsw : swapsWith (.ListComp elt [⟨tg, it, ifs, 0⟩] scope pos) (some (.Name y py)) spos.line X.env = pure true) (hy : X.N[j]? = some y := by rfl) (hyl : X.env.scope.names.lookup y = some .local := by rfl)
    (hv : own.map (·.2) ≠ [] := by decide) (hsl : ∀ j ∈ t.slots, j ∈ own.map (·.2) := by decide) (hc : X.calm = true := by rfl) (hs : ∀ x, foldedSetIterable it X.env x = pure x := by intro _; rfl) :
    SV T X (.Assign [.Name y py] (.ListComp elt [⟨tg, it, ifs, 0⟩] scope pos) spos) ss P := by
  refine SV.of (ps_setLc (i := j) (tt := tTv T X.K fun ss' b => ∃ x ∈ xs, ss' = t.put x (wipeS ss (own.map (·.2))) ∧ b = keep x) (te := tEv T X.K fun ss' d => ∃ x ∈ xs, keep x = true ∧ ss' = t.put x (wipeS ss (own.map (·.2))) ∧ d = f x) hc hN hy hyl hsw hi ok hg (fun s H C cl fp => pts_fam (X := X.blk s H scope (compEnvC scope cl C X.env) fp) (Rl := fun ss' b => ∃ x ∈ xs, ss' = t.put x (wipeS ss (own.map (·.2))) ∧ b = keep x) fun ss' b ⟨x, hx, e1, e2⟩ => by rw [e1, e2]; exact ht s H C cl fp x hx)
    (fun s H C cl fp => pe_fam (X := X.blk s H scope (compEnvC scope cl C X.env) fp) (Rl := fun ss' d => ∃ x ∈ xs, keep x = true ∧ ss' = t.put x (wipeS ss (own.map (·.2))) ∧ d = f x) fun ss' d ⟨x, hx, hk, e1, e2⟩ => by rw [e1, e2]; exact he s H C cl fp x hx hk) hs) fun B F H σ Dn R g => ?_
  refine lc_go hv hsl hfit hlen R fun D vs' F1 H1 n1 R1 f1 b1 h1 d1 i1 => ?_
  refine g.nx _ _ F1 H1 kk (R1.putOwn rfl ⟨D, vs', rfl, f1, d1, i1⟩ b1 fun l t' _ e1 e2 z => ?_)
  obtain ⟨p', w1, w2, w3⟩ := R.mine_at e1 e2
  rw [z] at w1
  cases w1
  cases hH : H D with
  | none => exact w3 hH
  | some o' =>
    obtain ⟨ps, rfl⟩ := h1 o' hH
    exact R.plain e1 e2 z _ hH (.inl ⟨ps, rfl⟩)
end
end Fd

set_option Elab.async false
set_option linter.all false
set_option maxRecDepth 100000
set_option maxHeartbeats 4000000
/-! Fd32: enumerate of a tuple; count of a text in a list of texts. -/
namespace EnT
open PySem PySem.Spec PyProof.Rows L2
theorem news {v : Value} {o : Obj} {G : Heap → Prop} (B : Begins v o G) : Meets (Builtin.«enumerate.__new__» ⟨[.type "enumerate", v], []⟩) (fun _ R s => G s.heap ∧
    R (.ok (.ret (.ref (s.heap.push o).objs.size))) { s with heap := (s.heap.push o).push { cls := .type "enumerate", data := .fields #[.none, .bool false, .ref s.heap.objs.size, rawInt 0, .none, .none] } }) :=
  .of_wp fun prog w A R s ⟨g1, g2⟩ => by
    obtain ⟨hp, g, d, tk, os⟩ := s
    have sb := sub_enumerate
    have go : ∀ {A' : Around} {E : Value → Shared → Prop} {Q : Value → Shared → Prop}, Q (.ref hp.objs.size) ⟨hp.push o, g, d, tk, os⟩ → wpAny (model prog w) A' (pyIter v) Q E ⟨hp, g, d, tk, os⟩ := fun q => B.iter prog w _ _ ⟨hp, g, d, tk, os⟩ _ g1 q
    wp_walk using go
    refine wpAny_stack_any fun st => wpAny_pure ?_; split
    · rename_i c _ _ _ _ _; cases (c == Value.type "enumerate") <;> (wp_walk using go; exact ⟨_, rfl, g2⟩)
    · (wp_walk using go); exact ⟨_, rfl, g2⟩
/-- enumerate(v) begins -/
theorem starts {prog : Program} {w : World} {A : Around} {E : Value → Shared → Prop} {s : Shared} {v : Value} {o : Obj} {G : Heap → Prop} {Q : Value → Shared → Prop} (B : Begins v o G) (g : G s.heap)
    (q : ∀ h', IsEnum h' (s.heap.objs.size + 1) s.heap.objs.size 0 .none → h'.get? s.heap.objs.size = some o → (∀ b o, s.heap.get? b = some o → h'.get? b = some o) → Q (.ref (s.heap.objs.size + 1)) { s with heap := h' }) :
    wpAny (model prog w) A (call (.type "enumerate") [v]) Q E s := by
  have sz : (s.heap.push o).objs.size = s.heap.objs.size + 1 := Heap.size_push ..
  have at1 := Heap.get?_push_size (s.heap.push o) (o := { cls := .type "enumerate", data := .fields #[.none, .bool false, .ref s.heap.objs.size, rawInt 0, .none, .none] }) rfl
  rw [sz] at at1
  refine callType_new F.called_enumerate (by decide) (F.typeCall_enumerate_1 _) (F.newCall_enumerate_1 _) (fun u => F.args_object_init_2 u _) F.entry_enumerate_new (news B) ⟨g, (show _ ∧ _ from ?_)⟩; rw [sz]
  exact ⟨⟨_, at1, rfl⟩, q _ at1 (Heap.get?_push_of_some _ (Heap.get?_push_size _ B.free)) fun b o' e => Heap.get?_push_of_some _ (Heap.get?_push_of_some _ e)⟩
/-- the items of the tuple at a, each in a new pair -/
def IteT (K : PySem.W.Frag) (a : Addr) : It :=
  ⟨fun i H => ∃ (xs : List V) (x : V), SqT K H a xs ∧ xs[i]? = some x, fun i H v H' => ∃ T x, v = .ref T ∧ H T = none ∧ H' = upd H T (.tup [.int (i : Nat), x]) ∧ ∀ xs, SqT K H a xs → xs[i]? = some x, fun i H => ∃ xs : List V, SqT K H a xs ∧ xs.length ≤ i⟩
theorem turn {P : Program} {w : World} {K : PySem.W.Frag} {elts : List Expr} {kk : Nat} {tpos : Pos} (a e it : Addr) (hea : e ≠ a) (hia : a ≠ it) :
    Turn P w K (.Tuple elts kk tpos) (IteT K a) [e, it] e (fun i h => (∃ old, IsEnum h e it ((i : Nat) : Int) old) ∧ h.IsTupleIter it a i ∧ e ≠ it) where
  mem := by simp
  obj := fun i h st b hb => by
    obtain ⟨⟨old, g1⟩, ⟨o, g2, g3, g4⟩, _⟩ := st
    simp only [List.mem_cons, List.not_mem_nil, or_false] at hb
    rcases hb with rfl | rfl
    · exact ⟨_, g1, fun v z => nomatch z⟩
    · exact ⟨o, g2, fun v z => by rw [g4] at z; cases z⟩
  keep := fun i h h' ⟨⟨old, g1⟩, g2, g3⟩ k => ⟨⟨old, k e (by simp) _ g1⟩, g2.at fun o z => k it (by simp) o z, g3⟩
  item := by
    intro X hP hw hK hc i pins s σ H E I hf st ⟨xs, x, hq, hx⟩
    subst hP hw hK
    obtain ⟨⟨old, g1⟩, g2, g3⟩ := st
    obtain ⟨its, rv, tp, hz⟩ := I.tuple hq
    obtain ⟨u, hu, ru⟩ := rv.get hx
    have le : e < s.heap.objs.size := Heap.lt_size g1
    have li : it < s.heap.objs.size := by obtain ⟨_, z, _⟩ := g2; exact Heap.lt_size z
    have tp' : s.heap.IsTuple a its.toArray := tp
    have hlt : i < its.toArray.size := by rw [List.size_toArray]; exact (List.getElem?_eq_some_iff.mp hu).1
    have hd := I.ok.hd hc
    refine wpAny_pyNext_enum_itemD (Draws.tuple (A := X.A.in1) (by simp [hd]) it a hia its.toArray) g1 ⟨g2, tp'⟩ hlt g3 (by simp [g3, hea]) fun y h' tk hy out st' hT sz hk => ?_
    have ey : y = u := by
      have : its[i]? = some y := by simpa using hy
      rw [hu] at this; exact (Option.some.inj this).symm
    subst ey
    refine ⟨_, rfl, wpAny_letOwnedTupleGo_enum (s := { s with heap := h', toks := tk + 1 }) out fun h2 en sb => ?_⟩
    have hT2 := (sb.2 _ (Nat.ne_of_gt le)).trans hT
    have new : ObjOk X.prog X.w (upd H s.heap.objs.size (.tup [.int (i : Nat), x])) h2 s.heap.objs.size (.tup [.int (i : Nat), x]) := ⟨by show 2 ≤ sizeLine; decide, [.int i tk, y], .cons ⟨_, rfl⟩ (.cons ru .nil), ⟨_, hT2, rfl, _, rfl⟩⟩
    have J : Inv X pins σ (upd H s.heap.objs.size (.tup [.int (i : Nat), x])) { s with heap := h2, toks := tk + 1 } := I.turnedNew (ch := [e, it]) (fun b o hb z => (sb.2 b fun q => hb (by simp [q])).trans (hk b o (fun q => hb (by simp [q])) (fun q => hb (by simp [q])) z)) hf (Nat.le_refl _) new
    refine ⟨.ref s.heap.objs.size, _, J, rfl, ⟨_, x, rfl, I.hok.fresh (Nat.le_refl _), rfl, fun ys hy => by rw [I.tuple_inj hy hq]; exact hx⟩, ⟨⟨y, ?_⟩, st'.1.at fun o q => (sb.2 it (Ne.symm g3)).trans q, g3⟩, fun b hb => ?_⟩
    · rw [show ((i + 1 : Nat) : Int) = (i : Int) + 1 by omega]; exact en
    · have lb : b < s.heap.objs.size := by
        simp only [List.mem_cons, List.not_mem_nil, or_false] at hb
        rcases hb with rfl | rfl
        · exact le
        · exact li
      rw [upd_ne (Nat.ne_of_lt lb)]; exact (hf b hb).1
  done := by
    intro X hP hw hK hc i pins s σ H E I hf st ⟨xs, hq, hx⟩
    subst hP hw hK
    obtain ⟨⟨old, g1⟩, g2, g3⟩ := st
    obtain ⟨its, rv, tp, hz⟩ := I.tuple hq
    have tp' : s.heap.IsTuple a its.toArray := tp
    obtain ⟨f0, f1, f2, f3, f4, f5⟩ := hf it (by simp)
    have hd := I.ok.hd hc
    have hl := rv.length
    have none_at : its.toArray[i]? = none := by simp; omega
    have hT : s.TypeIs (.ref e) "enumerate" := ⟨_, g1, rfl⟩
    unfold pyNext
    refine wpAny_bind (wpAny_attempt (wpAny_callSpecial?_slot (name := Str.ofString "__next__") hT F.slot_enumerate_next (wpAny_call_entry F.slot_enumerate_next hT F.entry_enumerate_next (show wpAny _ _ (field (.ref e) 2 >>= _) _ _ _ from ?_) (F.args_enumerate_next_1 _))))
    refine wpAny_bind (wpAny_field g1 rfl (x := .ref it) rfl (wpAny_bind (wpAny_nextOf_tuple_end (by simp [hd]) g2 tp' none_at fun h' x eb ⟨o, ho, hcl⟩ => wpAny_bind (wpAny_isInstance (T := "StopIteration") (b := true) ⟨o, ho, hcl⟩ isSubtype_stop ?_))))
    exact wpAny_pure ⟨rfl, I.turned (t' := s.toks) (fun b o hb q => eb b o hb q) f0 f1 f3 f4 f5⟩
  self := fun A i s Q E st h => let ⟨⟨_, g1⟩, _⟩ := st; wpAny_pyIter_enum g1 h
theorem pi_enumT {X : Cx} {e : Expr} {ta : TA} {p pos tpos : Pos} {elts : List Expr} {kk : Nat} (hg : Gl X "enumerate") (hm : X.mg "enumerate" = none) (ha : PA X [e] ta) (hs : starEach [e] X.env = [(false, eval e X.env)] := by rfl) :
    PI X (.Tuple elts kk tpos) (.Call (.Name "enumerate" p) [e] [] pos) (fun σ H R => ta σ H fun vs H1 => ∃ a xs, vs = [.ref a] ∧ SqT X.K H1 a xs ∧ R (IteT X.K a) H1) := by
  refine ⟨fun pins s σ H R I h => Call_ (ld_blt I hg hm boot_enumerate (PyProof.Rows.callWith_type1 (thn (ha.run pos pins s σ H _ I h) fun us s1 ⟨vs, H1, I1, r1, a, xs, ex, hq, q⟩ => ?_) hs rfl))⟩
  subst ex
  obtain ⟨u, rfl, ru⟩ := r1.one
  cases (show u = Value.ref a from ru)
  obtain ⟨its, rv, tp, hz⟩ := I1.tuple hq
  have tp' : s1.heap.IsTuple a its.toArray := tp
  have la : a < s1.heap.objs.size := by obtain ⟨_, z, _⟩ := tp; exact Heap.lt_size z
  refine starts (begins_tuple a its.toArray) tp' fun h' en at1 hk => wpAny_pyIter_enum en ?_
  have J : Inv X pins σ H1 { s1 with heap := h' } := I1.kept (t' := s1.toks) hk
  refine ⟨s1.heap.objs.size + 1, [s1.heap.objs.size + 1, s1.heap.objs.size], _, _, H1, rfl, J, turn a (s1.heap.objs.size + 1) s1.heap.objs.size (Nat.ne_of_gt (Nat.lt_succ_of_lt la)) (Nat.ne_of_lt la), ⟨⟨.none, en⟩, ⟨_, at1, rfl, rfl⟩, Nat.succ_ne_self _⟩, fun b hb => ?_, q⟩
  have lb : s1.heap.objs.size ≤ b := by
    simp only [List.mem_cons, List.not_mem_nil, or_false] at hb
    rcases hb with rfl | rfl
    · exact Nat.le_succ _
    · exact Nat.le_refl _
  exact I1.fpOk lb (I1.hok.fresh lb)
end EnT
namespace Fd
open PySem PySem.Spec PyProof.Rows L2
section
variable {T : List (Addr × Str)} {X : Cx} {ss : SS} {e o : Expr} {xs : List D} {p pos ap cp tpos : Pos} {elts : List Expr} {kk : Nat} {zs : List Str} {z : Str}
theorem iv_enumT (ha : EV T X e ss (.tup xs)) (hm : X.mg "enumerate" = none) (hg : Gl X "enumerate" := by rfl) (hs : starEach [e] X.env = [(false, eval e X.env)] := by rfl) : IV T X (.Tuple elts kk tpos) (.Call (.Name "enumerate" p) [e] [] pos) ss (nums 0 xs) :=
  IV.of (EnT.pi_enumT hg hm (evs_cons ha evs_nil hs) hs) fun B F H σ R R0 q => evs_go R0 fun vs F1 H1 n1 R1 i1 => by
    obtain ⟨v, rfl, h1⟩ := isL1 i1
    obtain ⟨a, us, rfl, a1, a2⟩ := h1
    refine ⟨a, us, rfl, ext_seqT R1.sub a1, q _ F1 H1 n1 R1 ⟨fun i F H x1 x2 hi => ?_, fun F H x1 x2 => ?_⟩⟩
    · have hl : i < xs.length := by rw [nums_len] at hi; exact hi
      have sa : SqT X.K H a us := ext_seqT (x1.trans x2) a1
      obtain ⟨v, hv, iv⟩ := IsL.get' a2 (List.getElem?_eq_getElem hl)
      refine ⟨⟨us, v, sa, hv⟩, fun x H' y => ?_⟩
      obtain ⟨T', v', rfl, hT, rfl, g1⟩ := y
      have e1 := g1 us sa
      rw [hv] at e1
      cases e1
      obtain ⟨n, it⟩ := pair_new (K := X.K) (x := .int (i : Nat)) (v := .int (i : Nat)) x2 hT rfl (Is.mono x1 _ iv)
      refine ⟨_, _, n, nums_get xs 0 i _ (List.getElem?_eq_getElem hl), ?_⟩
      rw [Nat.zero_add]
      exact it
    · exact ⟨us, ext_seqT (x1.trans x2) a1, by rw [a2.length, nums_len]; exact Nat.le_refl _⟩
/-! ### x.count(z) of texts -/
def isZ (z : Str) : Value → Bool
  | .str y _ => decide (y = z)
  | _ => false
def rCntS (K : PySem.W.Frag) : V → List V → Hp → VK → Prop := fun x xs H Q => ∃ (p : Addr) (zs : List Str) (z : Str), x = .ref p ∧ xs = [.str z] ∧ SqL K H p (zs.map V.str) ∧ Q (.int (zs.count z : Nat)) H
theorem cnt_strs (z : Str) : ∀ {zs : List Str} {us : List Value}, Vals (zs.map V.str) us → us.countP (isZ z) = zs.count z
  | [], _, .nil => rfl
  | y :: ys, _, .cons r t => by
    obtain ⟨k, rfl⟩ := r
    rw [List.countP_cons, List.count_cons, cnt_strs z t]
    by_cases h : y = z
    · subst h; simp [isZ]
    · have : (y == z) = false := beq_eq_false_iff_ne.mpr h
      simp [isZ, h, this]
theorem mt_cntS : MtR X "list.count" (rCntS X.K) := by
  intro pins s σ H x xs v us Q I rx rxs h
  obtain ⟨l, zs, z, rfl, rfl, hs, q⟩ := h
  cases rx
  obtain ⟨u, rfl, ru⟩ := rxs.one
  obtain ⟨tk, rfl⟩ : ∃ tk, u = Value.str z tk := ru
  obtain ⟨its, rv, ⟨⟨cls, dd, data, sl⟩, n, ho, hc, hdn, hd⟩, hlen⟩ := I.list hs
  simp only at hc hd
  subst hc hd
  refine call_meets PySem.F.slot_list_count ⟨_, ho, rfl⟩ PySem.F.entry_list_count (PySem.F.args_list_count_2 _ _) (SeqAt.list_countAt l its.toArray n dd sl (.str z tk) (isZ z)) ⟨ho, fun y hy => ?_, ?_⟩
  · obtain ⟨i, hi⟩ := List.mem_iff_getElem?.mp (show y ∈ its by simpa using hy)
    obtain ⟨z', t', e1, rfl⟩ := strs_get i y rv hi
    have := eqAt_V (A := X.A.in1) (s := s) (y := .str z') (x := .str z) (u := .str z' t') (v := .str z tk) ⟨_, rfl⟩ ⟨_, rfl⟩ rfl rfl
    have e2 : eqV (.str z') (.str z) = isZ z (.str z' t') := by
      show (z' == z) = decide (z' = z)
      by_cases h : z' = z <;> simp [h]
    rw [e2] at this; exact this
  · refine ⟨.int (zs.count z : Nat), H, I.tok _, ⟨s.toks, ?_⟩, q⟩
    show Value.int ((its.toArray.toList.countP (isZ z) : Nat) : Int) s.toks = _
    rw [show its.toArray.toList = its from rfl, cnt_strs z rv]
theorem ev_countS (ho : EV T X o ss (.lst (zs.map D.str))) (he : EV T X e ss (.str z)) (hm1 : starEach [e] X.env = [(false, eval e X.env)] := by rfl)
    (hp : ∀ {to te : TE}, PE X o to → PE X e te → PE X (.Call (.Attribute o "count" ap) [e] [] cp) (tBM X.K "list" (rCntS X.K) to (tCons te tNil)) := by
      intro to te h h2; exact pe_bm PySem.F.plainAttrs_list PySem.F.slot_list_count PySem.F.type_list_count mt_cntS h (pa_cons h2 pa_nil)) :
    EV T X (.Call (.Attribute o "count" ap) [e] [] cp) ss (.int (zs.count z : Nat)) :=
  EV.of (hp ho he) fun B F H σ Q R q => ev_go R fun v F1 H1 n1 R1 i1 => by
    obtain ⟨l, us, rfl, e1, e2⟩ := i1
    rw [is_strs e2] at e1
    refine ⟨.inl ⟨rfl, _, SqL.of (R1.sub _ _ e1)⟩, ev_go R1 fun w F2 H2 n2 R2 i2 => ?_⟩
    have e3 : w = .str z := i2
    subst e3
    exact ⟨l, zs, z, rfl, rfl, SqL.of (R2.sub _ _ (n2.f _ _ e1)), q _ F2 H2 (n1.trans n2) R2 rfl⟩
end
end Fd

set_option Elab.async false
set_option linter.all false
set_option maxRecDepth 100000
set_option maxHeartbeats 4000000
/-! Fd33: x = a + b as a list of one's own; len of a list of one's own. -/
namespace Fd
open PySem PySem.Spec PyProof.Rows L2
section
variable {T : List (Addr × Str)} {X : Cx} {ss : SS} {P : Post} {a b e : Expr} {x : Str} {xs ys : List D} {p px pos pos' pos2 : Pos}
theorem sv_catOwn (i : Nat) (hl : xs.length + ys.length ≤ 100000) (ha : EV T X a ss (.lst xs)) (hb : EV T X b ss (.lst ys)) (k : P.nx (ss.set i (.own (xs ++ ys)))) (hN : X.N.Nodup) (hi : X.N[i]? = some x := by rfl) (hx : Loc X.env.scope x := by first | exact Or.inl rfl | exact Or.inr rfl)
    (hs : swapsWith (.BinOp a .Add b pos2) (some (.Name x pos')) pos.line X.env = pure false := by rfl) (hf : X.fn x = true ∨ X.env.scope.names.lookup x = some .local := by first | exact .inl rfl | exact .inr rfl | assumption) :
    SV T X (.Assign [.Name x pos'] (.BinOp a .Add b pos2) pos) ss P :=
  SV.of (ps_set hN hi hx (pe_op op_cat ha hb) hs hf) fun B F H σ Dn R g => ev_go R fun v F1 H1 n1 R1 i1 => ev_go R1 fun u F2 H2 n2 R2 i2 => by
    obtain ⟨p1, vs, rfl, a1, a2⟩ := i1
    obtain ⟨p2, us, rfl, b1, b2⟩ := i2
    refine ⟨p1, p2, vs, us, rfl, rfl, R2.sub _ _ (n2.f _ _ a1), R2.sub _ _ b1, ?_, fun q hq => g.nx _ _ _ _ k (R2.newOwn hq rfl ⟨q, _, rfl, R2.free hq, upd_same, (IsL.mono n2.f _ a2).append b2⟩)⟩
    rw [a2.length, b2.length, sizeLine_eq]; omega
theorem ev_lenOwn (i : Nat) (hx : ss[i]? = some (.own xs)) (hl : xs.length ≤ 100000) (hm : X.mg "len" = none) (hp : PE X (.Name x px) (tVar i) := by exact pv _) (hg : Gl X "len" := by rfl) (he : starEach [.Name x px] X.env = [(false, eval (.Name x px) X.env)] := by rfl) : EV T X (.Call (.Name "len" p) [.Name x px] [] pos) ss (.int (xs.length : Nat)) :=
  EV.of (pe_callB call_len hg hm PySem.boot_len (pa_cons hp pa_nil he) (by decide) (by decide) he (by rfl)) fun B F H σ Q R q => by
    have hj : i < ss.length := (List.getElem?_eq_some_iff.mp hx).1
    have hs : i < σ.length := by rw [R.len]; exact hj
    obtain ⟨l, vs, e1, e2, e3, e4⟩ := R.slots i _ _ hx (List.getElem?_eq_getElem hs)
    refine ⟨.ref l, by rw [List.getElem?_eq_getElem hs, e1], .ref l, xs.length, rfl, ?_, q _ F H R.nx R rfl⟩
    exact .inl ⟨vs, SqL.of e3, by rw [e4.length]⟩
end
end Fd

set_option Elab.async false
set_option linter.all false
set_option maxRecDepth 100000
set_option maxHeartbeats 4000000
/-! Fd34: a list that is told is a new one, and may be changed. -/
namespace Fd
open PySem PySem.Spec PyProof.Rows L2
/-- p is a list that stood nowhere at H -/
structure NewL (H F1 H1 : Hp) (us : List V) (p : Addr) : Prop where
  fr : Fr H p
  no : F1 p = none
  is : H1 p = some (.lst us)
/-- e tells a new list -/
def EVF (T : List (Addr × Str)) (X : Cx) (e : Expr) (ss : SS) (us : List V) : Prop := ∃ te, PE X e te ∧ ∀ B F H σ Q, StR T X.K B F H σ ss → (∀ p F1 H1, Nx T F H F1 H1 → StR T X.K B F1 H1 σ ss → NewL H F1 H1 us p → Q (.ref p) H1) → te σ H Q
/-- the rows return a new list -/
def RF (T : List (Addr × Str)) (X : Cx) (sts : List Stmt) (ss : SS) (us : List V) : Prop := ∃ t, PSs X sts t ∧ ∀ B F H σ Dn, StR T X.K B F H σ ss → (∀ p F1 H1, Nx T B.1 B.2 F1 H1 → NewL B.2 F1 H1 us p → Dn.rt (.ref p) H1) → t Dn σ H
def spF (T : List (Addr × Str)) (K : PySem.W.Frag) (n : Nat) (pre : List D → List V → Prop) : Sp := fun vs H Q _ => ∃ F ds us, Ext F H ∧ (∀ p ps, F p ≠ some (.tbl ps)) ∧ LamX.Tabs T H ∧ IsL K F ds vs ∧ ds.length = n ∧ pre ds us ∧ ∀ p F1 H1, Nx T F H F1 H1 → NewL H F1 H1 us p → Q (.ref p) H1
structure OwnF (T : List (Addr × Str)) (P : Program) (w : World) (K : PySem.W.Frag) (mg : Str → Option Value) (base : Heap) (C : Addr) (m : Str) (n k : Nat) (pre : List D → List V → Prop) (f : Addr) : Prop where
  at_ : PySem.W.findIn K (.ref C) m = some (some (.ref f))
  fn : PySem.W.isFn K (.ref f) = true
  kp : PySem.W.keepIn K (.ref f) = true
  ok : ∃ fd ps, Binds K fd ps [] ∧ ps.length = n ∧ FnOk P w K mg base CX0 k f fd ps (spF T K n pre)
section
variable {T : List (Addr × Str)} {X : Cx} {ss : SS} {e o : Expr} {es : List Expr} {d : D} {ds : List D} {ks : List Key} {xs : List D} {us : List V} {n k : Nat} {m : Str} {p pos apos : Pos} {C : Addr} {ns : List Str} {P : Post} {sts : List Stmt} {st : Stmt}
theorem evf_keys (ha : EV T X e ss (.dct ks xs)) (hm : X.mg "list" = none) (hc : X.calm = true := by rfl) (hg : Gl X "list" := by rfl) (he : starEach [e] X.env = [(false, eval e X.env)] := by rfl) : EVF T X (.Call (.Name "list" p) [e] [] pos) ss (ks.map kV) :=
  ⟨_, pe_callTy (call_listD hc) hg hm boot_list (evs_cons ha evs_nil he) (by decide) (by decide) he rfl, fun B F H σ Q R q => evs_go R fun vs F1 H1 n1 R1 i1 => by
    obtain ⟨v, rfl, i⟩ := isL1 i1
    obtain ⟨a, kvs, rfl, e1, rfl, e2⟩ := i
    refine ⟨a, kvs, rfl, .inl (R1.sub _ _ e1), fun l hl => ?_⟩
    have n2 := n1.trans (Nx.allocH (o := .lst (kvs.map fun kv => kV kv.1)) R1.sub hl)
    refine q l F1 _ n2 (R.grow n2) ⟨n1.h.fr (Fr.of hl), R1.free hl, ?_⟩
    rw [upd_same, List.map_map]; rfl⟩
theorem evf_list {zs : List Str} (ha : EV T X e ss (.tup (zs.map D.str))) (hm : X.mg "list" = none) (hg : Gl X "list" := by rfl) (he : starEach [e] X.env = [(false, eval e X.env)] := by rfl) : EVF T X (.Call (.Name "list" p) [e] [] pos) ss (zs.map V.str) :=
  ⟨_, pe_callTy call_list_of hg hm boot_list (evs_cons ha evs_nil he) (by decide) (by decide) he rfl, fun B F H σ Q R q => evs_go R fun vs F1 H1 n1 R1 i1 => by
    obtain ⟨v, rfl, i⟩ := isL1 i1
    obtain ⟨a, ys, rfl, e1, e2⟩ := i
    obtain rfl := is_strs e2
    refine ⟨a, _, rfl, .inr (ext_seqT R1.sub e1), fun l hl => ?_⟩
    have n2 := n1.trans (Nx.allocH (o := .lst (zs.map V.str)) R1.sub hl)
    exact q l F1 _ n2 (R.grow n2) ⟨n1.h.fr (Fr.of hl), R1.free hl, upd_same⟩⟩
theorem rf_ret (h : EVF T X e ss us) : RF T X [.Return (some e) pos] ss us := by
  obtain ⟨te, hp, hk⟩ := h
  exact ⟨_, pss_one (ps_ret hp), fun B F H σ Dn R q => hk B F H σ _ R fun p F1 H1 n1 R1 nl => q p F1 H1 R1.back ⟨R.base_fr nl.fr, nl.no, nl.is⟩⟩
theorem rf_cons {ss1 : SS} (h1 : SV T X st ss { nx := fun ss' => ss' = ss1, rt := fun _ => False }) (h2 : RF T X sts ss1 us) : RF T X (st :: sts) ss us := by
  obtain ⟨t, hp, hk⟩ := h2
  refine ⟨_, pss_cons h1 hp, fun B F H σ Dn R q => ?_⟩
  exact ⟨B, F, ss, _, ⟨rfl, rfl⟩, R, fun ss' σ' F1 H1 e R1 => hk B F1 H1 σ' Dn (e ▸ R1) q, fun _ _ _ _ _ _ z => z.elim, fun _ _ _ _ z => z.elim, fun _ _ _ _ z => z.elim⟩
/-- o.m() tells a new list -/
theorem evf_meth0 {pl : Sem Bool} {pre : List D → List V → Prop} {f : Addr} (he : EV T X o ss (.ins C ns xs)) (cl : Cls X.K C) (M : OwnF T X.prog X.w X.K X.mg X.base C m 1 k pre f) (hr : Room k X.A) (hp : pre [.ins C ns xs] us) (hmn : m ∉ ns)
    (ht : eval (.Call (.Attribute o m apos) [] [] pos) X.env = (do
      let ov ← eval o X.env; standAt apos.atName; let (f, first) ← holding [ov] (getMethod ov m pl); callWith pos f first (backTo pos (starEach [] X.env)) (backToKw pos (keywordEach [] X.env))) := by rfl) :
    EVF T X (.Call (.Attribute o m apos) [] [] pos) ss us := by
  obtain ⟨fd, ps, hb, hps, G⟩ := M.ok
  refine ⟨_, pe_meth0 (E := E0) he cl ⟨M.at_, M.fn, M.kp⟩ G hr hb .nil pass0 ht, fun B F H σ Q R q => ev_go R fun v F1 H1 n1 R1 i1 => ?_⟩
  obtain ⟨y, dx, fs, rfl, e1, e2, e3⟩ := id i1
  refine ⟨y, dx, fs, rfl, R1.sub _ _ e1, no_lookup (by rw [e2]; exact hmn), ?_⟩
  exact ⟨F1, _, us, R1.sub, R1.nt, R1.tb, IsL.cons i1 IsL.nil, rfl, hp, fun p F3 H3 n3 nl => q p F3 H3 (n1.trans n3) (R1.grow n3) ⟨n1.h.fr nl.fr, nl.no, nl.is⟩⟩
/-- o.m(..) tells a new list -/
theorem evf_meth {pl : Sem Bool} {pre : List D → List V → Prop} {f : Addr} (he : EV T X o ss (.ins C ns xs)) (cl : Cls X.K C) (M : OwnF T X.prog X.w X.K X.mg X.base C m n k pre f) (hr : Room k X.A)
    (ha : EVs T X (e :: es) ss ds) (hp : pre (.ins C ns xs :: ds) us) (hmn : m ∉ ns) (hn : (D.ins C ns xs :: ds).length = n := by rfl)
    (hst : starEach (e :: es) X.env = (false, eval e X.env) :: starEach es X.env := by rfl) (hpl : (backTo pos (starEach es X.env)).any (·.1) = false := by rfl)
    (ht : eval (.Call (.Attribute o m apos) (e :: es) [] pos) X.env = (do
      let ov ← eval o X.env; standAt apos.atName; let (f, first) ← holding [ov] (getMethod ov m pl); callWith pos f first (backTo pos (starEach (e :: es) X.env)) (backToKw pos (keywordEach [] X.env))) := by rfl) :
    EVF T X (.Call (.Attribute o m apos) (e :: es) [] pos) ss us := by
  obtain ⟨fd, ps, hb, hps, G⟩ := M.ok
  refine ⟨_, pe_meth (E := E0) he cl ⟨M.at_, M.fn, M.kp⟩ G hr hb .nil pass0 ha hst hpl ht, fun B F H σ Q R q => ev_go R fun v F1 H1 n1 R1 i1 => ?_⟩
  obtain ⟨y, dx, fs, rfl, e1, e2, e3⟩ := id i1
  refine ⟨y, dx, fs, rfl, R1.sub _ _ e1, no_lookup (by rw [e2]; exact hmn), evs_go R1 fun vs F2 H2 n2 R2 i2 => ?_⟩
  rw [List.append_nil]
  exact ⟨F2, _, us, R2.sub, R2.nt, R2.tb, IsL.cons (Is.mono n2.f _ i1) i2, hn, hp, fun p F3 H3 n3 nl => q p F3 H3 ((n1.trans n2).trans n3) (R2.grow n3) ⟨n1.h.fr (n2.h.fr nl.fr), nl.no, nl.is⟩⟩
/-- o.append(z), o a new list -/
theorem sv_appF {z : Str} {j : Nat} {p1 : Pos} (h : EVF T X o ss us) (hl : us.length < 100000) (k : P.nx ss)
    (h1 : attributeBase o "append" X.env (eval o X.env) = eval o X.env := by rfl)
    (h2 : (((backTo pos (starEach [.Constant (.str z) j p1] X.env)).all fun x => !x.1) && ((backToKw pos (keywordEach [] X.env)).all fun x => x.1.isSome) && decide (([Expr.Constant (.str z) j p1].length + ([] : List Keyword).length + if ([] : List Keyword).isEmpty then 0 else 1) < 30)) = true := by rfl)
    (h3 : (apos.endLine == pos.line) = true := by rfl)
    (hs : swapsWith (.Call (.Attribute o "append" apos) [.Constant (.str z) j p1] [] pos) none p.line X.env = pure false := by rfl) : SV T X (.Expr (.Call (.Attribute o "append" apos) [.Constant (.str z) j p1] [] pos) p) ss P := by
  obtain ⟨te, hp, hk⟩ := h
  refine SV.of (ps_expr (pe_bm PySem.F.plainAttrs_list PySem.F.slot_list_append PySem.F.type_list_append mt_append hp (pa_cons pe_str pa_nil) h1 h2 h3) hs) fun B F H σ Dn R g => hk B F H σ _ R fun q F1 H1 n1 R1 nl => ?_
  refine ⟨.inl ⟨rfl, _, SqL.of nl.is⟩, q, us, _, rfl, rfl, nl.is, by rw [sizeLine_eq]; omega, g.nx _ _ _ _ k (R1.updH nl.no (R.base_fr nl.fr) (fun o' e => ?_) fun i t e m z => ?_)⟩
  · rw [nl.is] at e; cases e
    rintro (⟨_, z⟩ | ⟨_, _, z⟩) <;> cases z
  · obtain ⟨p', e1, _, e3⟩ := R.mine_at e m
    rw [z] at e1; cases e1
    cases ho : H q with
    | none => exact e3 ho
    | some o =>
      obtain ⟨ps, rfl⟩ := nl.fr o ho
      exact R.plain e m z _ ho (.inl ⟨ps, rfl⟩)
end
section
variable {T : List (Addr × Str)} {P : Program} {w : World} {K : PySem.W.Frag} {mg : Str → Option Value} {base : Heap}
theorem ff_ok {x qual : Str} {st : Stmt} {f : Addr} {fd : FuncData} {N ps : List Str} {k n : Nat} {pre : List D → List V → Prop} (F : Fun K x qual st f fd) (S : FnScope N ps (defScope st)) (hn : ps.length = n)
    (h : ∀ (cdv : Value) (A : Around) (outer : List Env) (s : Shared) (H : Hp) (E : XK) (ds : List D) (us : List V), Room k (A.deeper (envOfC qual (defScope st) s.heap.objs.size f cdv)) → ds.length = n → pre ds us →
      RF T (bodyX CX0 P w K mg base N qual st f cdv A outer s H E) (defBody st) (startS N ds) us) : FnOk P w K mg base CX0 (k + 1) f fd ps (spF T K n pre) := by
  refine F.ok S (fun vs H Q E ⟨F, ds, us, _, _, _, i, l, _⟩ => by rw [i.length, l, hn]) (fun cdv A outer s H vs Q E hr hsp => ?_)
  obtain ⟨F0, ds, us, x, nt, tb, i, l, p, q⟩ := hsp
  obtain ⟨t, hp, hk⟩ := h cdv A outer s H E ds us hr l p
  exact ⟨t, hp, hk (F0, H) F0 H _ _ (start_str x nt tb i) fun p F1 H1 n1 nl => q p F1 H1 n1 nl⟩
end
end Fd

set_option Elab.async false
set_option linter.all false
set_option maxRecDepth 100000
set_option maxHeartbeats 4000000
/-! Nm: texts of numbers, as lists of signs: one reading by writing again, one by looking at the signs; they agree. -/
namespace Nm
open PySem.NumText
def Can (l : List Nat) : Prop := l = [48] ∨ ∃ c r, l = c :: r ∧ 49 ≤ c
abbrev val (l : List Nat) : Nat := digitsVal l
def nT (m : Nat) : List Nat := (Nat.toDigits 10 m).map Char.toNat
def iT (i : Int) : List Nat := if i < 0 then 45 :: nT i.natAbs else nT i.natAbs
theorem digC {c : Char} (h : c.isDigit = true) : 48 ≤ c.toNat ∧ c.toNat ≤ 57 := by
  simp only [Char.isDigit, Bool.and_eq_true, decide_eq_true_eq] at h
  exact ⟨h.1, h.2⟩
theorem ad_nT (m : Nat) : AllDigits (nT m) := fun c hc => by
  obtain ⟨ch, h1, h2⟩ := List.mem_map.mp hc
  have := digC (Nat.isDigit_of_mem_toDigits (by decide) (by decide) h1)
  rw [← h2]; exact this
theorem dv (m : Nat) : ∀ d : Nat, d < 10 → (Nat.digitChar d).toNat - 48 = d := by decide
theorem val_nT (m : Nat) : val (nT m) = m := by
  induction m using Nat.strongRecOn with
  | _ m ih =>
    by_cases h : m < 10
    · unfold nT
      rw [Nat.toDigits_of_lt_base h]
      have e := dv m m h
      show 0 * 10 + ((Nat.digitChar m).toNat - 48) = m
      omega
    · have hm : m % 10 < 10 := Nat.mod_lt m (by decide)
      have t := Nat.toDigits_append_toDigits (b := 10) (n := m / 10) (d := m % 10) (by decide) (by omega) hm
      rw [Nat.div_add_mod] at t
      unfold nT
      rw [← t, List.map_append, Nat.toDigits_of_lt_base hm]
      show digitsVal ((Nat.toDigits 10 (m / 10)).map Char.toNat ++ [(Nat.digitChar (m % 10)).toNat]) = m
      rw [digitsVal_snoc, dv m (m % 10) hm]
      have := ih (m / 10) (by omega)
      unfold nT val at this
      rw [this]; omega
theorem map_back : ∀ {l : List Nat}, AllDigits l → (l.map Char.ofNat).map Char.toNat = l
  | [], _ => rfl
  | c :: r, h => by
    have hc := h.head
    have e : (Char.ofNat c).toNat = c := by
      have : ∀ c : Nat, c < 58 → (Char.ofNat c).toNat = c := by decide
      exact this c (by omega)
    rw [List.map_cons, List.map_cons, e, map_back h.tail]
theorem nT_val {l : List Nat} (h : AllDigits l) (c : Can l) : nT (val l) = l := by
  have e : Nat.toDigits 10 (val l) = l.map Char.ofNat := by
    rcases c with rfl | ⟨c, r, rfl, hc⟩
    · decide
    · exact toDigits_digitsVal r.length (c :: r) rfl h (.inr ⟨c, r, rfl, hc⟩)
  unfold nT
  rw [e, map_back h]
theorem can_nT (m : Nat) : Can (nT m) := by
  have h := ad_nT m
  have e := toDigits_all (nT m) h
  have v : digitsVal (nT m) = m := val_nT m
  rw [v] at e
  have e2 : nT m = (match (nT m).dropWhile (· == 48) with
    | [] => ['0']
    | c :: r => (c :: r).map Char.ofNat).map Char.toNat := by
    conv => lhs; unfold nT
    rw [e]
    rfl
  cases q : (nT m).dropWhile (· == 48) with
  | nil =>
    rw [q] at e2
    exact .inl e2
  | cons c r =>
    rw [q] at e2
    have sub : ∀ d ∈ c :: r, 48 ≤ d ∧ d ≤ 57 := fun d hd => h d ((List.dropWhile_suffix _).mem (by rw [q]; exact hd))
    have eb := map_back (l := c :: r) sub
    have e3 : nT m = c :: r := e2.trans eb
    have hne : c ≠ 48 := by
      intro z
      have := List.head_dropWhile_not (p := (· == 48)) (l := nT m) (by rw [q]; exact List.cons_ne_nil _ _)
      simp only [q, List.head_cons, z] at this
      exact absurd this (by decide)
    exact .inr ⟨c, r, e3, by have := (sub c List.mem_cons_self).1; omega⟩
theorem nT_ne (m : Nat) : nT m ≠ [] := by
  rcases can_nT m with e | ⟨c, r, e, _⟩ <;> rw [e] <;> exact List.cons_ne_nil _ _
theorem no47 {l : List Nat} (h : AllDigits l) : 47 ∉ l := fun z => by have := h 47 z; omega
theorem no45 {l : List Nat} (h : AllDigits l) : 45 ∉ l := fun z => by have := h 45 z; omega
theorem iT47 (i : Int) : 47 ∉ iT i := by
  unfold iT
  split
  · intro z
    rcases List.mem_cons.mp z with e | e
    · omega
    · exact no47 (ad_nT _) e
  · exact no47 (ad_nT _)
theorem nT_inj {a b : Nat} (h : nT a = nT b) : a = b := by rw [← val_nT a, ← val_nT b, h]
theorem split_uniq : ∀ {a b c d : List Nat}, 47 ∉ a → 47 ∉ c → a ++ 47 :: b = c ++ 47 :: d → a = c ∧ b = d
  | [], b, [], d, _, _, e => by injection e with _ e; exact ⟨rfl, e⟩
  | [], b, x :: c, d, _, h, e => by injection e with e1 _; exact absurd (by rw [e1]; exact List.mem_cons_self) h
  | x :: a, b, [], d, h, _, e => by injection e with e1 _; exact absurd (by rw [e1]; exact List.mem_cons_self) h
  | x :: a, b, y :: c, d, h1, h2, e => by
    injection e with e1 e2
    obtain ⟨f1, f2⟩ := split_uniq (fun z => h1 (List.mem_cons_of_mem _ z)) (fun z => h2 (List.mem_cons_of_mem _ z)) e2
    exact ⟨by rw [e1, f1], f2⟩
/-- the number's text: T / B in lowest terms -/
def numT (T : Int) (B : Nat) : List Nat := if B = 1 then iT T else iT T ++ 47 :: nT B
/-- with the sign -/
def sg (neg : Bool) (m : Nat) : Int := if neg then -(m : Int) else m
def sgT (neg : Bool) (l : List Nat) : List Nat := if neg then 45 :: l else l
theorem iT_sg {neg : Bool} {m : Nat} (h : neg = true → m ≠ 0) : iT (sg neg m) = sgT neg (nT m) := by
  cases neg with
  | false => unfold iT sg sgT; simp
  | true =>
    have := h rfl
    unfold iT sg sgT
    rw [if_pos rfl, if_pos (by omega), if_pos rfl]
    simp
theorem iT_0 : iT 0 = [48] := by decide
/-- one part: by writing again -/
theorem one_part {neg : Bool} {l : List Nat} (h : AllDigits l) (hne : l ≠ []) : iT (sg neg (val l)) = sgT neg l ↔ Can l ∧ ¬ (neg = true ∧ val l = 0) := by
  by_cases z : neg = true ∧ val l = 0
  · obtain ⟨rfl, z0⟩ := z
    rw [z0]
    constructor
    · intro e
      have e' : iT 0 = 45 :: l := by simpa [sg, sgT] using e
      rw [iT_0] at e'
      injection e' with e1 _
      omega
    · intro ⟨_, q⟩; exact absurd ⟨rfl, rfl⟩ q
  · rw [iT_sg (fun e q => z ⟨e, q⟩)]
    constructor
    · intro e
      refine ⟨?_, z⟩
      have : nT (val l) = l := by
        cases neg with
        | false => simpa [sgT] using e
        | true => simpa [sgT] using e
      rw [← this]; exact can_nT _
    · intro ⟨c, _⟩; rw [nT_val h c]
theorem val_pos_of {l : List Nat} (h : val l ≠ 0) : 0 < val l := Nat.pos_of_ne_zero h
/-- two parts: by writing again -/
theorem two_parts {neg : Bool} {p q : List Nat} (hp : AllDigits p) (hq : AllDigits q) (h0 : val q ≠ 0) :
    numT (sg neg (val p / Nat.gcd (val p) (val q))) (val q / Nat.gcd (val p) (val q)) = sgT neg (p ++ 47 :: q) ↔ Can p ∧ Can q ∧ val q ≠ 1 ∧ Nat.gcd (val p) (val q) = 1 ∧ val p ≠ 0 := by
  have gpos : 0 < Nat.gcd (val p) (val q) := Nat.pos_of_ne_zero fun z => h0 (Nat.eq_zero_of_gcd_eq_zero_right z)
  have sp : sgT neg (p ++ 47 :: q) = sgT neg p ++ 47 :: q := by cases neg <;> rfl
  have n47 : 47 ∉ sgT neg p := by
    cases neg with
    | false => exact no47 hp
    | true =>
      intro z
      rcases List.mem_cons.mp z with e | e
      · omega
      · exact no47 hp e
  constructor
  · intro e
    unfold numT at e
    split at e
    · exfalso
      have : 47 ∈ iT (sg neg (val p / Nat.gcd (val p) (val q))) := by rw [e, sp]; simp
      exact iT47 _ this
    · rename_i hB
      rw [sp] at e
      obtain ⟨e1, e2⟩ := split_uniq (iT47 _) n47 e
      have eq2 : val q / Nat.gcd (val p) (val q) = val q := by rw [← val_nT (val q / _), e2]
      have g1 : Nat.gcd (val p) (val q) = 1 := by
        have := Nat.div_mul_cancel (Nat.gcd_dvd_right (val p) (val q))
        rw [eq2] at this
        have h1 : val q * Nat.gcd (val p) (val q) = val q * 1 := by omega
        exact Nat.eq_of_mul_eq_mul_left (val_pos_of h0) h1
      rw [g1, Nat.div_one] at e1 e2 hB
      have hne : p ≠ [] := by
        intro z
        subst z
        have : iT (sg neg (val [])) = sgT neg [] := e1
        have v0 : val [] = 0 := rfl
        rw [v0] at this
        have s0 : sg neg 0 = 0 := by cases neg <;> rfl
        rw [s0, iT_0] at this
        cases neg <;> simp [sgT] at this
      obtain ⟨c1, c2⟩ := (one_part hp hne).mp e1
      refine ⟨c1, by rw [← e2]; exact can_nT _, hB, g1, fun z => ?_⟩
      rw [z, Nat.gcd_zero_left] at g1
      exact hB g1
  · intro ⟨c1, c2, b1, g1, n0⟩
    rw [g1, Nat.div_one, Nat.div_one]
    unfold numT
    rw [if_neg b1, sp, iT_sg (fun _ => n0), nT_val hp c1, nT_val hq c2]
end Nm

set_option Elab.async false
set_option linter.all false
set_option maxRecDepth 100000
set_option maxHeartbeats 4000000
/-! Tx: the text methods on lists of signs. -/
namespace Tx
open PySem PySem.Spec PyProof.Rows L2 TL
def S (l : List Nat) : Str := ⟨l.toArray⟩
theorem tl_S (l : List Nat) : tl (S l) = l := rfl
theorem S_tl (x : Str) : S (tl x) = x := mk_tl x
theorem len_S (l : List Nat) : (S l).length = l.length := by rw [len_tl, tl_S]
theorem S_inj {a b : List Nat} (h : S a = S b) : a = b := by rw [← tl_S a, h, tl_S]
theorem S_app (a b : List Nat) : S a ++ S b = S (a ++ b) := ext_tl (by rw [tl_append]; rfl)
theorem S_of (x : Str) (l : List Nat) (h : tl x = l) : x = S l := by rw [← h, S_tl]
theorem sub_minus (c : Nat) (r : List Nat) : Builtin.Str.subAt (S (c :: r)) "-" 0 = decide (c = 45) := by
  have e : (S (c :: r)).cps.extract 0 1 = #[c] := by
    simp [S]
  unfold Builtin.Str.subAt
  have hl : (("-" : Str)).length = 1 := by decide
  rw [hl, Nat.zero_add, e]
  have e2 : ("-" : Str).cps = #[45] := by decide
  rw [e2]
  by_cases q : c = 45
  · subst q; decide
  · rw [decide_eq_false q]
    simp [q]
theorem starts_minus (l : List Nat) : Txt.startswith (S l) "-" = decide (l.head? = some 45) := by
  cases l with
  | nil => decide
  | cons c r =>
    unfold Txt.startswith
    rw [sub_minus, decide_eq_true (show 0 + ("-" : Str).length ≤ (S (c :: r)).length by rw [len_S, List.length_cons, show ("-" : Str).length = 1 from by decide]; omega)]
    simp
theorem unprefix_minus (l : List Nat) : Txt.removeprefix (S l) "-" = if l.head? = some 45 then S l.tail else S l := by
  rw [StrLaws.removeprefix_eq]
  have hl : (("-" : Str)).length = 1 := by decide
  cases l with
  | nil => decide
  | cons c r =>
    rw [sub_minus, decide_eq_true (show 0 + ("-" : Str).length ≤ (S (c :: r)).length by rw [len_S, List.length_cons, hl]; omega), Bool.true_and]
    by_cases q : c = 45
    · subst q
      rw [if_pos (by simp), if_pos (by simp), hl, len_S]
      show S _ = S _
      congr 1
      simp [S]
    · rw [if_neg (by simpa using q), if_neg (by simpa using q)]
theorem cut_head (l : List Nat) : cutS (S l) none (some 1) = S (l.take 1) := by
  unfold cutS
  show S _ = S _
  congr 1
  rw [HT.sIx_none, show (1 : Int) = ((1 : Nat) : Int) from rfl, HT.sIx_nat, len_S, Nat.sub_zero]
  show (l.drop 0).take (min 1 l.length) = _
  rw [List.drop_zero]
  cases l <;> simp
theorem cut_tail (l : List Nat) : cutS (S l) (some 1) none = S (l.drop 1) := by
  unfold cutS
  show S _ = S _
  congr 1
  rw [HT.sIx_none, show (1 : Int) = ((1 : Nat) : Int) from rfl, HT.sIx_nat, len_S]
  show (l.drop (min 1 l.length)).take (l.length - min 1 l.length) = _
  cases l with
  | nil => rfl
  | cons c r => simp
/-- any cut -/
theorem cut_len (x : Str) (lo hi : Option Int) : (cutS x lo hi).length ≤ x.length := cutS_length x lo hi
theorem slash_tl : tl ("/" : Str) = [47] := by decide
theorem part_no {l : List Nat} (h : 47 ∉ l) : Txt.partition (S l) "/" = (S l, Str.empty, Str.empty) := partition_none slash_tl (by rw [tl_S]; exact h)
theorem part_yes {p q : List Nat} (h : 47 ∉ p) : Txt.partition (S (p ++ 47 :: q)) "/" = (S p, ("/" : Str), S q) := by
  have := partition_app (y := "/") slash_tl (a := S p) (b := S q) (by rw [tl_S]; exact h)
  have e : S p ++ ("/" : Str) ++ S q = S (p ++ 47 :: q) := ext_tl (by rw [tl_append, tl_append, slash_tl, tl_S, tl_S, tl_S]; simp)
  rw [← e]; exact this
theorem split_eq (l : List Nat) : (Txt.split (S l) "/").map tl = spl [47] 0 [] l := by
  rw [split_spl _ "/" (by rw [slash_tl]; simp) (kind_ok (by decide +kernel)), slash_tl, tl_S]
theorem split_no {l : List Nat} (h : 47 ∉ l) : Txt.split (S l) "/" = [S l] := by
  refine map_tl_inj ?_
  rw [split_eq, spl_last1 h]
  rfl
theorem spl_two {p q : List Nat} (h : 47 ∉ p) : spl [47] 0 [] (p ++ 47 :: q) = p :: spl [47] 0 [] q := by
  have := spl_part1 (s := 47) (S := []) (acc := []) (p := p) (rest := q) h
  simpa using this
theorem split_two {p q : List Nat} (h : 47 ∉ p) (h2 : 47 ∉ q) : Txt.split (S (p ++ 47 :: q)) "/" = [S p, S q] := by
  refine map_tl_inj ?_
  rw [split_eq, spl_two h, spl_last1 h2]
  rfl
theorem spl_ge1 (l : List Nat) : ∀ (acc : List Nat), 1 ≤ (spl [47] 0 acc l).length := by
  induction l with
  | nil => intro acc; rw [spl_nil]; simp
  | cons c r ih =>
    intro acc
    by_cases hc : pre [47] (c :: r) = true
    · rw [spl_hit hc]; simp
    · rw [spl_miss (by simpa using hc)]; exact ih _
theorem first47 : ∀ {l : List Nat}, 47 ∈ l → ∃ p q, l = p ++ 47 :: q ∧ 47 ∉ p
  | [], h => by cases h
  | c :: r, h => by
    by_cases e : c = 47
    · exact ⟨[], r, by rw [e]; rfl, by simp⟩
    · rcases List.mem_cons.mp h with z | z
      · exact absurd z.symm e
      · obtain ⟨p, q, h1, h2⟩ := first47 z
        exact ⟨c :: p, q, by rw [h1]; rfl, fun m => (List.mem_cons.mp m).elim (fun z => e z.symm) h2⟩
theorem split_many {p q : List Nat} (h : 47 ∉ p) (h2 : 47 ∈ q) : 2 < (Txt.split (S (p ++ 47 :: q)) "/").length := by
  obtain ⟨a, b, rfl, ha⟩ := first47 h2
  have e := congrArg List.length (split_eq (p ++ 47 :: (a ++ 47 :: b)))
  rw [List.length_map, spl_two h, spl_two ha] at e
  have := spl_ge1 b []
  rw [e]; simp; omega
end Tx

set_option Elab.async false
set_option linter.all false
set_option maxRecDepth 100000
set_option maxHeartbeats 4000000
/-! K05a: names, kinds with their fields: what is one, and the program's two defs that tell. -/
namespace K05
open PySem PySem.Spec PyProof.Rows L2 Fd Tx
def pT : Pos := ⟨0, 0, 0, 0⟩
def top (i : Nat) : Stmt := PySem.Challenge.pw_everylist_k05_rows_and_lists.main.body.getD i (.Pass pT)
def inCls (st : Stmt) (j : Nat) : Stmt := match st with
  | .ClassDef _ _ _ body _ _ _ _ _ _ _ => body.getD j (.Pass pT)
  | s => s
def sIsInt : Stmt := top 5
def sIsList : Stmt := top 6
def sIsName : Stmt := top 7
def sRInit : Stmt := inCls (top 12) 0
def sIsNum : Stmt := top 13
def sInit : Stmt := inCls (top 17) 0
def sIsRow : Stmt := inCls (top 17) 4
def sGrid : Stmt := inCls (top 17) 5
def sLists : Stmt := inCls (top 17) 6
def sIsKind : Stmt := inCls (top 17) 7
def sKwf : Stmt := top 18
def sSmall : Stmt := top 19
def sCell : Stmt := top 21
def sRow : Stmt := top 22
def sWord : Stmt := top 23
def sWords : Stmt := top 24
def sShape : Stmt := top 25
def sLonger : Stmt := top 33
def sGridOf : Stmt := top 34
def sListsOf : Stmt := top 35
def sSomeRow : Stmt := top 36
def sBent : Stmt := top 37
def sPowers : Stmt := top 38
def sWide : Stmt := top 39
def sRight : Stmt := top 40
def sLaw : Stmt := top 41
/-- the letters -/
def LET : Str := Str.ofString "abcdefghijklmnopqrstuvwxyz"
def isLet (c : Nat) : Bool := decide (c ∈ LET.cps.toList)
def nmOk (x : Str) : Bool := decide (1 ≤ x.length) && decide (x.length ≤ 8) && x.cps.toList.all isLet
def isNm : D → Bool
  | .str x => nmOk x
  | _ => false
/-- plain things, their texts not too long -/
def Tyd : D → Prop
  | .non | .bl _ | .int _ | .dct _ _ => True
  | .lst xs => xs.length ≤ 100000
  | .tup xs => xs.length ≤ 100000
  | .str x => x.length ≤ 100000 ∧ PyData.strOk x = true
  | _ => False
def isS : D → Bool
  | .str _ => true | _ => false
def seq? : D → Option (List D)
  | .lst xs => some xs | .tup xs => some xs | _ => none
def isL (d : D) : Bool := (seq? d).isSome
theorem Tyd.ty {d : D} (h : Tyd d) : ∃ t, d.ty? = some t := by cases d <;> first | exact ⟨_, rfl⟩ | exact h.elim
theorem Tyd.cls {K : PySem.W.Frag} {d : D} (h : Tyd d) : d.cls K := by cases d <;> first | exact True.intro | exact h.elim
/-- what isinstance tells of plain things -/
structure Kit (K : PySem.W.Frag) : Prop where
  s : ∀ d t, Tyd d → d.ty? = some t → PySem.W.kitOne K t (.type "str") = some (isS d)
  l : ∀ d t, Tyd d → d.ty? = some t → PySem.W.kitAny K t [.type "list", .type "tuple"] = some (isL d)
theorem kit_mk {K : PySem.W.Frag} (a1 : PySem.W.kitOne K (.type "NoneType") (.type "str") = some false) (a2 : PySem.W.kitOne K (.type "bool") (.type "str") = some false) (a3 : PySem.W.kitOne K (.type "int") (.type "str") = some false) (a4 : PySem.W.kitOne K (.type "str") (.type "str") = some true)
    (a5 : PySem.W.kitOne K (.type "list") (.type "str") = some false) (a6 : PySem.W.kitOne K (.type "tuple") (.type "str") = some false) (a7 : PySem.W.kitOne K (.type "dict") (.type "str") = some false)
    (b1 : PySem.W.kitAny K (.type "NoneType") [.type "list", .type "tuple"] = some false) (b2 : PySem.W.kitAny K (.type "bool") [.type "list", .type "tuple"] = some false) (b3 : PySem.W.kitAny K (.type "int") [.type "list", .type "tuple"] = some false) (b4 : PySem.W.kitAny K (.type "str") [.type "list", .type "tuple"] = some false)
    (b5 : PySem.W.kitAny K (.type "list") [.type "list", .type "tuple"] = some true) (b6 : PySem.W.kitAny K (.type "tuple") [.type "list", .type "tuple"] = some true) (b7 : PySem.W.kitAny K (.type "dict") [.type "list", .type "tuple"] = some false) : Kit K where
  s := fun d t h e => by cases d <;> first | (cases e; assumption) | exact h.elim
  l := fun d t h e => by cases d <;> first | (cases e; assumption) | exact h.elim
/-- the texts of a list of texts -/
def txs : List D → List Str
  | .str x :: ds => x :: txs ds
  | _ :: ds => txs ds
  | [] => []
theorem txs_all : ∀ {ds : List D}, ds.all isNm = true → ds = (txs ds).map D.str ∧ (txs ds).all nmOk = true
  | [], _ => ⟨rfl, rfl⟩
  | d :: ds, h => by
    rw [List.all_cons, Bool.and_eq_true] at h
    obtain ⟨e1, e2⟩ := txs_all h.2
    cases d with
    | str x => exact ⟨by show _ = D.str x :: (txs ds).map D.str; rw [← e1], by show (x :: txs ds).all nmOk = true; rw [List.all_cons, e2, show nmOk x = true from h.1]; rfl⟩
    | _ => exact absurd h.1 (by simp [isNm])
/-- a pair of a name and a list of different names -/
def kwf (d : D) : Bool := match seq? d with
  | some [a, b] => isNm a && (match seq? b with
    | some fs => fs.all isNm && decide ((txs fs).Nodup)
    | none => false)
  | _ => false
/-- a thing, what it holds, and what that holds, are plain -/
def Deep (d : D) : Prop := Tyd d ∧ ∀ xs, seq? d = some xs → ∀ x ∈ xs, Tyd x ∧ ∀ ys, seq? x = some ys → x = .lst ys ∧ ys.length ≤ 900 ∧ ∀ y ∈ ys, Tyd y
def pIsList (ds : List D) (d : D) : Prop := ∃ x, ds = [x] ∧ Tyd x ∧ d = .bl (isL x)
def pIsName (ds : List D) (d : D) : Prop := ∃ x, ds = [x] ∧ Tyd x ∧ d = .bl (isNm x)
def pKwf (ds : List D) (d : D) : Prop := ∃ x, ds = [x] ∧ Deep x ∧ d = .bl (kwf x)
theorem scIsList : FnScope ["thing"] ["thing"] (defScope sIsList) := ⟨rfl, rfl, rfl, by decide +kernel, rfl, by decide +kernel, by decide +kernel⟩
theorem scIsName : FnScope ["thing", "letter"] ["thing"] (defScope sIsName) := ⟨rfl, rfl, rfl, by decide +kernel, rfl, by decide +kernel, by decide +kernel⟩
theorem scKwf : FnScope ["thing", "fields", "field"] ["thing"] (defScope sKwf) := ⟨rfl, rfl, rfl, by decide +kernel, rfl, by decide +kernel, by decide +kernel⟩
/-- the built-in names, and the module's constants -/
structure Fre (mg : Str → Option Value) : Prop where
  is : mg "isinstance" = none
  list : mg "list" = none
  tuple : mg "tuple" = none
  str : mg "str" = none
  len : mg "len" = none
  set : mg "set" = none
  all : mg "all" = none
  enum : mg "enumerate" = none
  int : mg "int" = none
  range : mg "range" = none
  let_ : ∃ v tk, mg "LETTERS" = some v ∧ v = .str LET tk
  long : ∃ v tk, mg "LONGEST_NAME" = some v ∧ v = .int 8 tk
theorem outs_signs (x : Str) (f : Nat → Bool) (g : D → D) (h : ∀ c, g (.str ⟨#[c]⟩) = .bl (f c)) : outs (fun _ => true) g (Fd.signs x) = (x.cps.toList.map f).map D.bl := by
  unfold outs Fd.signs
  rw [List.filter_eq_self.mpr fun _ _ => rfl, List.map_map, List.map_map]
  exact List.map_congr_left fun c _ => h c
section
variable {T : List (Addr × Str)} {P : Program} {w : World} {K : PySem.W.Frag} {mg : Str → Option Value} {base : Heap} {f : Addr} {fd : FuncData}
theorem ok_isList (F : Fun K "is_list" "is_list" sIsList f fd) (B : Fre mg) (Q : Kit K) : FnOk P w K mg base CX0 1 f fd ["thing"] (spD T K 1 pIsList) := by
  refine fd_ok F scIsList rfl fun cdv A outer s H E ds d hr _ ⟨x, e1, ht, e2⟩ => ?_
  subst e1; subst e2
  obtain ⟨t, et⟩ := ht.ty
  exact svs_one (sv_ret (ev_isTT (ev_var 0 rfl) et ht.cls (Q.l _ _ ht et) B.list (by decide +kernel) B.tuple (by decide +kernel) B.is) rfl)
theorem ok_isName (F : Fun K "is_name" "is_name" sIsName f fd) (B : Fre mg) (Q : Kit K) : FnOk P w K mg base CX0 1 f fd ["thing"] (spD T K 1 pIsName) := by
  refine fd_ok F scIsName rfl fun cdv A outer s H E ds d hr _ ⟨x, e1, ht, e2⟩ => ?_
  subst e1; subst e2
  obtain ⟨t, et⟩ := ht.ty
  obtain ⟨_, _, mL, rfl⟩ := B.let_
  obtain ⟨_, _, mG, rfl⟩ := B.long
  by_cases hS : isS x = true
  · obtain ⟨z, rfl⟩ : ∃ z, x = .str z := by cases x <;> first | exact ⟨_, rfl⟩ | cases hS
    have hz : z.length ≤ 100000 := ht.1
    have hlen : D.len (.str z) = some z.length := by show (if z.length ≤ sizeLine then some z.length else none) = _; rw [if_pos (small_len hz)]
    refine svs_cons (sv_if (t := !(decide (1 ≤ z.length) && decide (z.length ≤ 8))) (TV.cast (TW.tv (tw_orB (tv_not (tv_of (ev_isT (ev_var 0 rfl) et ht.cls (Q.s _ _ ht et) B.str (by decide +kernel) B.is))) fun _ => tw_or1 (tv_not (tv_chain (f := fun i j => decide (i ≤ j)) (g := fun i j => decide (i ≤ j)) op_le op_le ev_int (ev_len hlen (ev_var 0 rfl) B.len) (ev_glI mG))))) ?_) (fun h => ?_) fun h => svs_nil ?_)
    · rw [hS]
      show (false || !(decide ((1 : Int) ≤ (z.length : Int)) && decide ((z.length : Int) ≤ 8))) = _
      have e1 : decide ((1 : Int) ≤ (z.length : Int)) = decide (1 ≤ z.length) := decide_eq_decide.mpr (by omega)
      have e2 : decide ((z.length : Int) ≤ 8) = decide (z.length ≤ 8) := decide_eq_decide.mpr (by omega)
      rw [e1, e2, Bool.false_or]
    · refine svs_one (sv_ret ev_bl ?_)
      show D.bl false = D.bl (nmOk z)
      unfold nmOk
      rw [nb_t h]; rfl
    · refine svs_one (sv_ret (EV.cast (ev_all (bs := z.cps.toList.map isLet) (EV.cast (ev_lc [("letter", 1)] (.one 1) (fun _ => true) (fun d => match d with | .str s => .bl (s.cps.toList.all isLet) | _ => .non) (iv_str (ev_var 0 rfl))
        (id (α := BlkOk ["thing", "letter"] (defScope sIsName) _ [("letter", 1)]) ⟨rfl, by decide +kernel, by decide +kernel, by decide +kernel, by decide +kernel⟩)
        (fun s H C cl fp => pg_name (i := 1) scIsName.nd rfl (Or.inl rfl)) (fun s H C' cl fp y hy => ts_nil) (fun s H C' cl fp y hy hk => ?_) scIsName.nd (fun _ _ => rfl) (by show (z.cps.toList.map _).length ≤ _; rw [List.length_map, show z.cps.toList.length = z.length from Array.length_toList]; exact hz)) (congrArg D.lst (outs_signs z isLet _ fun c => by simp))) B.all) ?_) rfl)
      · obtain ⟨c, _, rfl⟩ := List.mem_map.mp hy
        exact EV.cast (ev_inC (ev_var 1 rfl) (ev_glS mL)) (by simp [isLet])
      · show D.bl _ = D.bl (nmOk z)
        unfold nmOk
        rw [nb_f h, Bool.true_and, List.all_map]; rfl
  · have hS' : isS x = false := by simpa using hS
    have hN : isNm x = false := by cases x <;> first | rfl | exact absurd rfl hS
    refine svs_cons (sv_if (t := true) (TW.tv (tw_orB (t := true) (u := false) (TV.cast (tv_not (tv_of (ev_isT (ev_var 0 rfl) et ht.cls (Q.s _ _ ht et) B.str (by decide +kernel) B.is))) (by rw [hS']; rfl)) fun z => nomatch z)) (fun _ => ?_) fun z => nomatch z)
    exact svs_one (sv_ret ev_bl (by rw [hN]))
end
end K05

set_option Elab.async false
set_option linter.all false
set_option maxRecDepth 100000
set_option maxHeartbeats 4000000
/-! K05b: the program's def that tells whether a thing is a kind with its fields. -/
namespace K05
open PySem PySem.Spec PyProof.Rows L2 Fd Tx
section
variable {T : List (Addr × Str)} {X : Cx} {ss : SS} {a b e tg : Expr} {d d' : D} {xs : List D} {n : Nat} {pos : Pos}
theorem ev_ixQ (h : seq? d = some xs) (hn : xs[n]? = some d') (ha : EV T X a ss d) (hb : EV T X b ss (.int (n : Nat))) (hs : PlainIx b := by exact fun _ _ => rfl) : EV T X (.Subscript a b pos) ss d' := by
  cases d with
  | lst ys => cases h; exact ev_ixL ⟨n, rfl, hn⟩ ha hb hs
  | tup ys => cases h; exact ev_ixT ⟨n, rfl, hn⟩ ha hb hs
  | _ => cases h
theorem len_seq (h : seq? d = some xs) : d.len = some xs.length := by cases d <;> first | (cases h; rfl) | cases h
theorem iv_seq (h : seq? d = some xs) (ha : EV T X e ss d) : IV T X tg e ss xs := by
  cases d with
  | lst ys => cases h; exact iv_list ha
  | tup ys => cases h; exact iv_tup ha
  | _ => cases h
theorem outs_all (g : D → Bool) (xs : List D) : outs (fun _ => true) (fun d => .bl (g d)) xs = (xs.map g).map D.bl := by
  unfold outs
  rw [List.filter_eq_self.mpr fun _ _ => rfl, List.map_map]; rfl
end
structure KwE (T : List (Addr × Str)) (P : Program) (w : World) (K : PySem.W.Frag) (mg : Str → Option Value) (base : Heap) : Prop where
  li : FD T P w K mg base "is_list" 1 1 pIsList
  na : FD T P w K mg base "is_name" 1 1 pIsName
section
variable {T : List (Addr × Str)} {P : Program} {w : World} {K : PySem.W.Frag} {mg : Str → Option Value} {base : Heap} {f : Addr} {fd : FuncData}
theorem ok_kwf (F : Fun K "_is_kind_with_fields" "_is_kind_with_fields" sKwf f fd) (B : Fre mg) (V : KwE T P w K mg base) : FnOk P w K mg base CX0 2 f fd ["thing"] (spD T K 1 pKwf) := by
  refine fd_ok F scKwf rfl fun cdv A outer s H E ds d hr _ ⟨x, e1, ⟨ht, hdeep⟩, e2⟩ => ?_
  subst e1; subst e2
  cases hq : seq? x with
  | none =>
    have hL : isL x = false := by unfold isL; rw [hq]; rfl
    refine svs_cons (sv_if (t := true) (TW.tv (tw_orB (t := true) (u := false) (TV.cast (tv_not (tv_of (ev_call V.li hr (evs_cons (ev_var 0 rfl) evs_nil) ⟨x, rfl, ht, rfl⟩))) (by rw [hL]; rfl)) fun z => nomatch z)) (fun _ => svs_one (sv_ret ev_bl ?_)) fun z => nomatch z)
    show D.bl false = D.bl (kwf x)
    unfold kwf; rw [hq]
  | some xs =>
    have hL : isL x = true := by unfold isL; rw [hq]; rfl
    by_cases h2 : xs.length = 2
    · obtain ⟨a, b, rfl⟩ : ∃ a b, xs = [a, b] := by
        match xs, h2 with
        | [a, b], _ => exact ⟨a, b, rfl⟩
      obtain ⟨hta, _⟩ := hdeep _ hq a (by simp)
      obtain ⟨htb, hyb⟩ := hdeep _ hq b (by simp)
      refine svs_cons (sv_if (t := !isNm a || !isL b) (TV.cast (TW.tv (tw_orB (tv_not (tv_of (ev_call V.li hr (evs_cons (ev_var 0 rfl) evs_nil) ⟨x, rfl, ht, rfl⟩))) fun _ => tw_orB (tv_neI (ev_len (len_seq hq) (ev_var 0 rfl) B.len) ev_int) fun _ => tw_orB (tv_not (tv_of (ev_call V.na hr (evs_cons (ev_ixQ (n := 0) hq rfl (ev_var 0 rfl) ev_int) evs_nil) ⟨a, rfl, hta, rfl⟩))) fun _ =>
        tw_or1 (tv_not (tv_of (ev_call V.li hr (evs_cons (ev_ixQ (n := 1) hq rfl (ev_var 0 rfl) ev_int) evs_nil) ⟨b, rfl, htb, rfl⟩))))) ?_) (fun h => ?_) fun h => svs_nil ?_)
      · rw [hL]; rfl
      · refine svs_one (sv_ret ev_bl ?_)
        show D.bl false = D.bl (kwf x)
        unfold kwf; rw [hq]
        show D.bl false = D.bl (isNm a && _)
        cases hn : isNm a with
        | false => rfl
        | true =>
          have : isL b = false := by rw [hn] at h; cases hb : isL b with | false => rfl | true => rw [hb] at h; cases h
          have hqb : seq? b = none := by
            unfold isL at this
            cases e : seq? b with | none => rfl | some _ => rw [e] at this; cases this
          rw [hqb]; rfl
      · have hn : isNm a = true := by cases e : isNm a with | true => rfl | false => rw [e] at h; cases h
        have hb : isL b = true := by cases e : isL b with | true => rfl | false => rw [e, hn] at h; cases h
        obtain ⟨fs, hqb⟩ : ∃ fs, seq? b = some fs := by
          unfold isL at hb
          cases e : seq? b with | some z => exact ⟨z, rfl⟩ | none => rw [e] at hb; cases hb
        obtain ⟨rfl, lfs, hfs⟩ := hyb _ hqb
        have kw : kwf x = (fs.all isNm && decide ((txs fs).Nodup)) := by
          unfold kwf; rw [hq]
          show (isNm a && _) = _
          rw [hn, hqb]; rfl
        refine svs_cons (sv_set 1 (ev_ixQ (n := 1) hq rfl (ev_var 0 rfl) ev_int) ?_ scKwf.nd)
        refine svs_one (sv_ret (d := .bl (kwf x)) (EV.cast (ev_andB (t := fs.all isNm) (u := decide ((txs fs).Nodup)) (EV.cast (ev_all (bs := fs.map isNm) (EV.cast (ev_lc [("field", 2)] (.one 2) (fun _ => true) (fun d => .bl (isNm d)) (iv_seq hqb (ev_var 1 rfl))
          (id (α := BlkOk ["thing", "fields", "field"] (defScope sKwf) _ [("field", 2)]) ⟨rfl, by decide +kernel, by decide +kernel, by decide +kernel, by decide +kernel⟩)
          (fun s H C cl fp => pg_name (i := 2) scKwf.nd rfl (Or.inl rfl)) (fun s H C' cl fp y hy => ts_nil) (fun s H C' cl fp y hy hk => ev_call V.na hr (evs_cons (ev_var 2 rfl) evs_nil) ⟨y, rfl, hfs y hy, rfl⟩) scKwf.nd (fun _ _ => rfl) (by omega)) (congrArg D.lst (outs_all isNm fs))) B.all) (congrArg D.bl (by rw [List.all_map]; rfl))) fun hall => ?_) (congrArg D.bl kw.symm)) rfl)
        obtain ⟨efs, _⟩ := txs_all hall
        refine ev_one (EV.cast (ev_eqI (ev_lenSet (zs := txs fs) ?_ (EV.cast (ev_var 1 rfl) (congrArg D.lst efs)) B.len B.set) (ev_len rfl (ev_var 1 rfl) B.len)) (congrArg D.bl ?_))
        · have := congrArg List.length efs
          rw [List.length_map] at this; omega
        · have el := congrArg List.length efs
          rw [List.length_map] at el
          refine decide_eq_decide.mpr ?_
          rw [el, ← StX.dl_nodup]
          omega
    · refine svs_cons (sv_if (t := true) (TV.cast (TW.tv (tw_orB (tv_not (tv_of (ev_call V.li hr (evs_cons (ev_var 0 rfl) evs_nil) ⟨x, rfl, ht, rfl⟩))) fun _ => tw_orB (t := true) (u := false) (TV.cast (tv_neI (ev_len (len_seq hq) (ev_var 0 rfl) B.len) ev_int) (by
        have : ¬ ((xs.length : Int) = 2) := fun z => h2 (Int.ofNat.inj z)
        rw [decide_eq_false this]; rfl)) fun z => nomatch z)) (by rw [hL]; rfl)) (fun _ => svs_one (sv_ret ev_bl ?_)) fun z => nomatch z)
      show D.bl false = D.bl (kwf x)
      unfold kwf; rw [hq]
      match xs, h2 with
      | [], _ => rfl
      | [_], _ => rfl
      | [_, _], h => exact absurd rfl h
      | _ :: _ :: _ :: _, _ => rfl
end
end K05

set_option Elab.async false
set_option linter.all false
set_option maxRecDepth 100000
set_option maxHeartbeats 4000000
/-! K05c: Rows made, and refused. -/
namespace K05
open PySem PySem.Spec PyProof.Rows L2 Fd Tx PySem.ExS
abbrev Kd := Str × List Str
/-- a thing that is a kind with its fields, read -/
def parse (d : D) : Kd := match seq? d with
  | some [.str x, b] => (x, match seq? b with | some fs => txs fs | none => [])
  | _ => (Str.empty, [])
def tabKs (ks : List Kd) : List Key := ks.map fun k => Sum.inr k.1
def tabXs (ks : List Kd) : List D := ks.map fun k => .tup (k.2.map D.str)
def rowsN : List Str := ["_table"]
def rowsD (C : Addr) (ks : List Kd) : D := .ins C rowsN [.dct (tabKs ks) (tabXs ks)]
/-- the thing is a new kind -/
def Good (ds : List D) (i : Nat) (d : D) : Prop := kwf d = true ∧ (parse d).1 ∉ (ds.take i).map fun d => (parse d).1
def GoodTo (ds : List D) (n : Nat) : Prop := ∀ i, i < n → ∀ d, ds[i]? = some d → Good ds i d
def Things (x : D) (ds : List D) : Prop := seq? x = some ds ∧ ds.length ≤ 900 ∧ ∀ d ∈ ds, Deep d
def pInit (ds : List D) (ns : List Str) (xs : List D) : Prop := ∃ x things, ds = [x] ∧ Things x things ∧ GoodTo things things.length ∧ ns = rowsN ∧ xs = [.dct (tabKs (things.map parse)) (tabXs (things.map parse))]
def pInitE (ds : List D) (d : D) : Prop := ∃ x things i t, ds = [x] ∧ Things x things ∧ GoodTo things i ∧ things[i]? = some t ∧ ¬ Good things i t ∧ d = .int (i : Nat)
theorem scInit : FnScope ["self", "kinds", "table", "index", "thing"] ["self", "kinds"] (defScope sInit) := ⟨rfl, rfl, rfl, by decide +kernel, rfl, by decide +kernel, by decide +kernel⟩
theorem kwf_parse {d : D} (h : kwf d = true) : ∃ x b fs, seq? d = some [.str x, b] ∧ seq? b = some fs ∧ fs = (txs fs).map D.str ∧ parse d = (x, txs fs) ∧ nmOk x = true ∧ (txs fs).all nmOk = true ∧ (txs fs).Nodup := by
  unfold kwf at h
  cases hq : seq? d with
  | none => rw [hq] at h; cases h
  | some xs =>
    rw [hq] at h
    match xs, h with
    | [a, b], h =>
      have h : (isNm a && (match seq? b with | some fs => fs.all isNm && decide ((txs fs).Nodup) | none => false)) = true := h
      rw [Bool.and_eq_true] at h
      obtain ⟨h1, h2⟩ := h
      obtain ⟨x, rfl⟩ : ∃ x, a = .str x := by cases a <;> first | exact ⟨_, rfl⟩ | cases h1
      cases hb : seq? b with
      | none => rw [hb] at h2; cases h2
      | some fs =>
        rw [hb] at h2
        have h2 : (fs.all isNm && decide ((txs fs).Nodup)) = true := h2
        rw [Bool.and_eq_true] at h2
        obtain ⟨e1, e2⟩ := txs_all h2.1
        exact ⟨x, b, fs, rfl, hb, e1, by unfold parse; rw [hq]; show (x, match seq? b with | some fs => txs fs | none => []) = _; rw [hb], h1, e2, of_decide_eq_true h2.2⟩
theorem has_tab (ks : List Kd) (x : Str) : hasK (tabKs ks) (Sum.inr x) = decide (x ∈ ks.map (·.1)) := by
  unfold hasK tabKs
  induction ks with
  | nil => rfl
  | cons k ks ih =>
    simp only [List.map_cons, List.any_cons, ih]
    by_cases h : k.1 = x
    · subst h; simp
    · have h2 : ¬ x = k.1 := fun z => h z.symm
      simp [h, h2]
theorem put_tab {ks : List Kd} {k : Kd} (h : k.1 ∉ ks.map (·.1)) : putKs (tabKs ks) (Sum.inr k.1) = tabKs (ks ++ [k]) ∧ putXs (tabKs ks) (tabXs ks) (Sum.inr k.1) (.tup (k.2.map D.str)) = tabXs (ks ++ [k]) := by
  have e : hasK (tabKs ks) (Sum.inr k.1) = false := by rw [has_tab]; exact decide_eq_false h
  unfold putKs putXs
  rw [e]
  simp [tabKs, tabXs]
theorem take_map {α β : Type} (f : α → β) (l : List α) (i : Nat) : (l.take i).map f = (l.map f).take i := by rw [List.map_take]
theorem map_fst (ds : List D) : ds.map (fun d => (parse d).1) = (ds.map parse).map (·.1) := by rw [List.map_map]; rfl
section
variable {T : List (Addr × Str)} {X : Cx} {ss : SS} {e tg : Expr} {d : D} {xs : List D} {p pos tpos : Pos} {elts : List Expr} {kk : Nat}
theorem iv_enumQ (h : seq? d = some xs) (ha : EV T X e ss d) (hm : X.mg "enumerate" = none) (hg : Gl X "enumerate" := by rfl) (hs : starEach [e] X.env = [(false, eval e X.env)] := by rfl) : IV T X (.Tuple elts kk tpos) (.Call (.Name "enumerate" p) [e] [] pos) ss (nums 0 xs) := by
  cases d with
  | lst ys => cases h; exact iv_enum ha hm hg hs
  | tup ys => cases h; exact iv_enumT ha hm hg hs
  | _ => cases h
theorem ev_tupQ (h : seq? d = some xs) (ha : EV T X e ss d) (hm : X.mg "tuple" = none) (hg : Gl X "tuple" := by rfl) (hs : starEach [e] X.env = [(false, eval e X.env)] := by rfl) : EV T X (.Call (.Name "tuple" p) [e] [] pos) ss (.tup xs) := by
  cases d with
  | lst ys => cases h; exact ev_tupOf (.inl rfl) ha hm hg hs
  | tup ys => cases h; exact ev_tupOf (.inr (.inr rfl)) ha hm hg hs
  | _ => cases h
end
structure RE' (T : List (Addr × Str)) (P : Program) (w : World) (K : PySem.W.Frag) (mg : Str → Option Value) (base : Heap) (C : Addr) : Prop where
  B : Fre mg
  kw : FD T P w K mg base "_is_kind_with_fields" 1 2 pKwf
  cl : Cls K C
  nt : NoAttr K C "_table"
section
variable {T : List (Addr × Str)} {P : Program} {w : World} {K : PySem.W.Frag} {mg : Str → Option Value} {base : Heap} {C CB CN f : Addr} {fd : FuncData} {cdv : Value}
/-- the state ahead of turn i -/
def iI (p C : Addr) (x : D) (things : List D) (i : Nat) (ss : SS) : Prop := ∃ s3 s4, ss = [.obj p C [] [], .d x, .dic (tabKs ((things.take i).map parse)) (tabXs ((things.take i).map parse)), s3, s4]
theorem ok_init (F : FunZ K "__init__" "Rows.__init__" sInit f fd cdv) (V : RE' T P w K mg base C) : FnOk P w K mg base CX0 3 f fd ["self", "kinds"] (spM T K C 1 pInit) := by
  refine init_ok F scInit rfl fun A outer s H E p ds ns xs hr _ ⟨x, things, e1, ⟨hq, hlen, hdeep⟩, hgood, e2, e3⟩ => ?_
  subst e1; subst e2; subst e3
  refine svs_cons (sv_newD 2 ?_ scInit.nd)
  refine svs_cons (sv_for (.many [3, 4]) (iI p C x things) (iv_enumQ hq (ev_var 1 rfl) V.B.enum) (pg_tup rfl (pgs_cons (pg_name (i := 3) scInit.nd rfl (Or.inl rfl)) (pgs_cons (pg_name (i := 4) scInit.nd rfl (Or.inl rfl)) pgs_nil))) ⟨_, _, rfl⟩ ?_ ?_)
  · rintro i y ss' hy ⟨s3, s4, rfl⟩
    have hi : i < things.length := by have := (List.getElem?_eq_some_iff.mp hy).1; rwa [nums_len] at this
    have hx : things[i]? = some things[i] := List.getElem?_eq_getElem hi
    have hgood := hgood i hi _ hx
    generalize things[i] = t at hx hgood
    have ey := nums_get things 0 i t hx
    rw [hy, Nat.zero_add] at ey
    cases ey
    refine ⟨rfl, ?_⟩
    obtain ⟨hkw, hnew⟩ := hgood
    obtain ⟨nm, b, fs, q1, q2, q3, q4, q5, q6, q7⟩ := kwf_parse hkw
    have hdp := hdeep _ (List.mem_of_getElem? hx)
    have hnew' : nm ∉ ((things.take i).map parse).map (·.1) := by rw [← map_fst]; have := hnew; rw [q4] at this; exact this
    refine svs_cons (sv_if (t := false) (TV.cast (TW.tv (tw_orB (tv_not (tv_of (ev_call V.kw hr (evs_cons (ev_var 4 rfl) evs_nil) ⟨t, rfl, hdp, rfl⟩))) fun _ => tw_or1 (tv_inO (kk := Sum.inr nm) 2 rfl hr (ev_ixQ (n := 0) (d' := .str nm) q1 rfl (ev_var 4 rfl) ev_int)))) (by rw [hkw, has_tab, decide_eq_false hnew']; rfl)) (fun z => nomatch z) fun _ => svs_nil ?_)
    refine svs_one (sv_putD (kk := Sum.inr nm) 2 rfl hr (ev_tupQ q2 (ev_ixQ (n := 1) q1 rfl (ev_var 4 rfl) ev_int) V.B.tuple) (ev_ixQ (n := 0) (d' := .str nm) q1 rfl (ev_var 4 rfl) ev_int) ⟨.d (.int (i : Nat)), .d t, ?_⟩ (by show (tabKs _).length ≤ _; rw [tabKs, List.length_map, List.length_map, List.length_take]; omega))
    have et : (things.take (i + 1)).map parse = (things.take i).map parse ++ [(nm, txs fs)] := by rw [List.take_succ, hx, List.map_append]; show _ ++ [parse t] = _; rw [q4]
    obtain ⟨w1, w2⟩ := put_tab (ks := (things.take i).map parse) (k := (nm, txs fs)) hnew'
    rw [et, ← w1, ← w2, ← q3]
    rfl
  · rintro ss' ⟨s3, s4, rfl⟩
    rw [nums_len, List.take_length]
    exact svs_freezeD 2 rfl (svs_one (sv_fldO 0 rfl (ev_var 2 rfl) rfl V.cl V.nt (by decide) (by decide)))
end
end K05

set_option Elab.async false
set_option linter.all false
set_option maxRecDepth 100000
set_option maxHeartbeats 4000000
/-! K05d: the methods of Rows. -/
namespace Fd
open PySem PySem.Spec PyProof.Rows L2
section
variable {T : List (Addr × Str)} {X : Cx} {ss : SS} {a e o : Expr} {d : D} {ks : List Key} {xs : List D} {kk : Key} {n k : Nat} {m : Str} {apos pos : Pos} {C : Addr} {ns : List Str}
/-- a in e, as a value -/
theorem ev_inD (hr : Room n X.A) (ha : EV T X a ss (kD kk)) (he : EV T X e ss (.dct ks xs)) (h1 : behindInMarks .In e = false := by rfl) : EV T X (.Compare a [.In] [e] pos) ss (.bl (hasK ks kk)) :=
  EV.of (pe_cmp (pc_din (by have := hr.units; omega) ha he) h1) fun B F H σ Q R q => ev_go R fun u F1 H1 n1 R1 i1 => ev_go R1 fun v F2 H2 n2 R2 i2 => by
    obtain ⟨p, kvs, rfl, e2, qk, q4⟩ := i2
    obtain rfl := is_kD i1
    refine ⟨p, _, rfl, DGet.k (R2.sub _ _ e2), ?_⟩
    rcases look_ok kk qk q4 with ⟨_, w2, w3⟩ | ⟨d', v, _, w2, _, w3⟩
    · rw [w2]; exact q _ _ _ (n1.trans n2) R2 (by show V.bl _ = V.bl _; rw [w3]; rfl)
    · rw [w2]; exact q _ _ _ (n1.trans n2) R2 (by show V.bl _ = V.bl _; rw [w3]; rfl)
/-- o.m() -/
theorem ev_meth0 {pl : Sem Bool} {pre : List D → D → Prop} {f : Addr} (he : EV T X o ss (.ins C ns xs)) (cl : Cls X.K C) (M : OwnM T X.prog X.w X.K X.mg X.base C m 1 k pre f) (hr : Room k X.A) (hp : pre [.ins C ns xs] d) (hmn : m ∉ ns)
    (ht : eval (.Call (.Attribute o m apos) [] [] pos) X.env = (do
      let ov ← eval o X.env; standAt apos.atName; let (f, first) ← holding [ov] (getMethod ov m pl); callWith pos f first (backTo pos (starEach [] X.env)) (backToKw pos (keywordEach [] X.env))) := by rfl) :
    EV T X (.Call (.Attribute o m apos) [] [] pos) ss d := by
  obtain ⟨fd, ps, hb, hps, G⟩ := M.ok
  refine EV.of (pe_meth0 (E := E0) he cl ⟨M.at_, M.fn, M.kp⟩ G hr hb .nil pass0 ht) fun B F H σ Q R q => ev_go R fun v F1 H1 n1 R1 i1 => ?_
  obtain ⟨y, dx, fs, rfl, e1, e2, e3⟩ := id i1
  refine ⟨y, dx, fs, rfl, R1.sub _ _ e1, no_lookup (by rw [e2]; exact hmn), ?_⟩
  exact ⟨F1, _, d, R1.sub, R1.nt, R1.tb, IsL.cons i1 IsL.nil, rfl, hp, fun v F3 H3 n3 i3 => q v F3 H3 (n1.trans n3) (R1.grow n3) i3⟩
end
end Fd
namespace K05
open PySem PySem.Spec PyProof.Rows L2 Fd Tx PySem.ExS
def hasN (ks : List Kd) : D → Bool
  | .str x => decide (x ∈ ks.map (·.1))
  | _ => false
def pIsKind (C : Addr) (ds : List D) (d : D) : Prop := ∃ ks t, ds = [rowsD C ks, t] ∧ Tyd t ∧ d = .bl (hasN ks t)
def lookN : List Kd → Str → Option (List Str)
  | [], _ => none
  | k :: ks, x => if k.1 = x then some k.2 else lookN ks x
theorem look_tab (ks : List Kd) (x : Str) : look (tabKs ks) (tabXs ks) (Sum.inr x) = (lookN ks x).map fun fs => .tup (fs.map D.str) := by
  induction ks with
  | nil => rfl
  | cons k ks ih =>
    unfold lookN
    show (if (Sum.inr k.1 : Key) = Sum.inr x then some (D.tup (k.2.map D.str)) else look (tabKs ks) (tabXs ks) (Sum.inr x)) = _
    by_cases h : k.1 = x
    · subst h; simp
    · have : ¬ (Sum.inr k.1 : Key) = Sum.inr x := fun z => h (Sum.inr.inj z)
      rw [if_neg this, if_neg h, ih]
theorem lookN_mem {ks : List Kd} {x : Str} {fs : List Str} (h : lookN ks x = some fs) : x ∈ ks.map (·.1) := by
  induction ks with
  | nil => cases h
  | cons k ks ih =>
    unfold lookN at h
    by_cases e : k.1 = x
    · subst e; simp
    · rw [if_neg e] at h; exact List.mem_cons_of_mem _ (ih h)
theorem scIsKind : FnScope ["self", "thing"] ["self", "thing"] (defScope sIsKind) := ⟨rfl, rfl, rfl, by decide +kernel, rfl, by decide +kernel, by decide +kernel⟩
/-- what the top has made of Rows -/
structure Rt (K : PySem.W.Frag) (mg : Str → Option Value) (C : Addr) : Prop where
  ik : InK K C
  nt : NoAttr K C "_table"
  B : Fre mg
  Q : Kit K
section
variable {T : List (Addr × Str)} {P : Program} {w : World} {K : PySem.W.Frag} {mg : Str → Option Value} {base : Heap} {C f g : Addr} {fd : FuncData} {cdv : Value}
theorem nd1 : rowsN.Nodup := by decide
theorem ok_isKind (F : Fun K "_is_kind" "Rows._is_kind" sIsKind f fd) (R : Rt K mg C) : FnOk P w K mg base CX0 1 f fd ["self", "thing"] (spD T K 2 (pIsKind C)) := by
  refine fd_ok F scIsKind rfl fun cdv A outer s H E ds d hr _ ⟨ks, t, e1, ht, e2⟩ => ?_
  subst e1; subst e2
  obtain ⟨ty, et⟩ := ht.ty
  by_cases hS : isS t = true
  · obtain ⟨x, rfl⟩ : ∃ x, t = .str x := by cases t <;> first | exact ⟨_, rfl⟩ | cases hS
    refine svs_one (sv_ret (EV.cast (ev_andB (t := true) (u := hasN ks (.str x)) (EV.cast (ev_isT (ev_var 1 rfl) et ht.cls (R.Q.s _ _ ht et) R.B.str (by decide +kernel) R.B.is) rfl) fun _ => ev_one (EV.cast (ev_inD (kk := Sum.inr x) hr (ev_var 1 rfl) (ev_fld (ev_var 0 rfl) R.ik.cl R.nt 0 rfl rfl nd1)) (congrArg D.bl (has_tab ks x)))) (by rw [Bool.true_and])) rfl)
  · have hS' : isS t = false := by simpa using hS
    have hN : hasN ks t = false := by cases t <;> first | rfl | exact absurd rfl hS
    exact svs_one (sv_ret (EV.cast (ev_andB (t := false) (u := false) (EV.cast (ev_isT (ev_var 1 rfl) et ht.cls (R.Q.s _ _ ht et) R.B.str (by decide +kernel) R.B.is) (by rw [hS'])) fun z => nomatch z) (by rw [hN]; rfl)) rfl)
end
end K05

set_option Elab.async false
set_option linter.all false
set_option maxRecDepth 100000
set_option maxHeartbeats 4000000
/-! K05e: the law's cells, rows of draws. -/
namespace K05
open PySem PySem.Spec PyProof.Rows L2 Fd
theorem sm_log {a : Int} (ha : a.natAbs < 2 ^ 8000) : a.natAbs.log2 < 9000 := Nat.lt_of_lt_of_le (PySem.Flt.log2_lt_of (by decide) ha) (by decide)
def pCell (ds : List D) (d : D) : Prop := ∃ (ns : List Int) (i : Nat), ds = [.rdl (ns.map D.int), .int (i : Nat)] ∧ ns.length ≤ 63 ∧ d = .int (ns.getD i 0)
theorem scCell : FnScope ["_law_script", "_law_k"] ["_law_script", "_law_k"] (defScope sCell) := ⟨rfl, rfl, rfl, by decide +kernel, rfl, by decide +kernel, by decide +kernel⟩
/-- the great cell by mixed radix -/
def rowBig (c : Int) : List Int → List Int
  | [] => []
  | z :: zs => c % z :: rowBig (c / z) zs
def mix (s : Int) (k : Nat) (z : Int) : Int := ((s + 7919 * (k : Int) + 104729) ^ 5 % 2147483647 + (k : Int)) * 40692 % 2147483629 % z
def rowSm (s : Int) : Nat → List Int → List Int
  | _, [] => []
  | k, z :: zs => mix s k z :: rowSm s (k + 1) zs
def rowL (c : Int) (zs : List Int) : List Int := if 10 ^ 18 ≤ c then rowBig c zs else rowSm (c % 2147483647) 0 zs
def pRow (ds : List D) (d : D) : Prop := ∃ (c : Int) (zs : List Int), ds = [.int c, .lst (zs.map D.int)] ∧ zs.length ≤ 1000 ∧ (∀ z ∈ zs, 0 < z ∧ z ≤ 10 ^ 30) ∧ d = .lst ((rowL c zs).map D.int)
theorem scRow : FnScope ["_law_cell_here", "_law_sizes", "_law_out", "_law_size", "_law_seed", "_law_k", "_law_mixed"] ["_law_cell_here", "_law_sizes"] (defScope sRow) := ⟨rfl, rfl, rfl, by decide +kernel, rfl, by decide +kernel, by decide +kernel⟩
def cAt (c : Int) (zs : List Int) (i : Nat) : Int := (zs.take i).foldl (· / ·) c
theorem rowBig_get : ∀ (zs : List Int) (c : Int) (i : Nat) (z : Int), zs[i]? = some z → (rowBig c zs)[i]? = some (cAt c zs i % z)
  | [], _, _, _, h => by simp at h
  | y :: ys, c, 0, z, h => by
    simp at h; subst h; rfl
  | y :: ys, c, i + 1, z, h => by
    simp at h
    have := rowBig_get ys (c / y) i z h
    simpa [rowBig, cAt] using this
theorem rowBig_len : ∀ (zs : List Int) (c : Int), (rowBig c zs).length = zs.length
  | [], _ => rfl
  | y :: ys, c => by simp [rowBig, rowBig_len ys]
theorem cAt_succ {c : Int} {zs : List Int} {i : Nat} {z : Int} (h : zs[i]? = some z) : cAt c zs (i + 1) = cAt c zs i / z := by
  unfold cAt
  rw [List.take_add_one, h, List.foldl_append]
  rfl
theorem rowSm_get (s : Int) : ∀ (zs : List Int) (k i : Nat) (z : Int), zs[i]? = some z → (rowSm s k zs)[i]? = some (mix s (k + i) z)
  | [], _, _, _, h => by simp at h
  | y :: ys, k, 0, z, h => by
    simp at h; subst h; rfl
  | y :: ys, k, i + 1, z, h => by
    simp at h
    have := rowSm_get s ys (k + 1) i z h
    have e : k + 1 + i = k + (i + 1) := by omega
    rw [e] at this
    simpa [rowSm] using this
theorem rowSm_len (s : Int) : ∀ (zs : List Int) (k : Nat), (rowSm s k zs).length = zs.length
  | [], _ => rfl
  | y :: ys, k => by simp [rowSm, rowSm_len s ys]
theorem take_snoc {α : Type} {l : List α} {i : Nat} {x : α} (h : l[i]? = some x) : l.take i ++ [x] = l.take (i + 1) := by
  rw [List.take_add_one, h]; rfl
section
variable {T : List (Addr × Str)} {P : Program} {w : World} {K : PySem.W.Frag} {mg : Str → Option Value} {base : Heap} {C f : Addr} {fd : FuncData}
theorem ok_cell (F : Fun K "_law_cell" "_law_cell" sCell f fd) (hL : mg "len" = none) : FnOk P w K mg base CX0 1 f fd ["_law_script", "_law_k"] (spD T K 2 pCell) := by
  refine fd_ok F scCell rfl fun cdv A outer s H E ds d hr _ ⟨ns, i, e1, e3, e2⟩ => ?_
  subst e1; subst e2
  refine svs_cons (sv_if (tv_lt (ev_var 1 rfl) (ev_len (n := ns.length) (by simp [D.len]) (ev_var 0 rfl) hL)) (fun h => ?_) (fun h => ?_))
  · have hlt : i < ns.length := by simpa using h
    refine svs_one (sv_ret (ev_ixR ⟨i, rfl, ?_⟩ (ev_var 0 rfl) (ev_var 1 rfl)) rfl)
    rw [List.getElem?_map, List.getElem?_eq_getElem hlt, List.getD_eq_getElem?_getD, List.getElem?_eq_getElem hlt]
    rfl
  · have hlt : ns.length ≤ i := by simpa using h
    refine svs_nil (svs_one (sv_ret ev_int ?_))
    show D.int 0 = D.int (ns.getD i 0)
    rw [List.getD_eq_getElem?_getD, List.getElem?_eq_none hlt]
    rfl
theorem ok_row (F : Fun K "_law_row" "_law_row" sRow f fd) (hI : mg "int" = none) (hR : mg "range" = none) (hL : mg "len" = none) : FnOk P w K mg base CX0 1 f fd ["_law_cell_here", "_law_sizes"] (spD T K 2 pRow) := by
  refine fd_ok F scRow rfl fun cdv A outer s H E ds d hr _ ⟨c, zs, e1, hlen, hz, e2⟩ => ?_
  subst e1; subst e2
  have hm : ∀ {l : List Int} {i : Nat} {z : Int}, l[i]? = some z → (l.map D.int)[i]? = some (.int z) := fun h => by rw [List.getElem?_map, h]; rfl
  refine svs_cons (sv_setOwn 2 evs_nil ?_ scRow.nd)
  refine svs_cons (sv_if (tv_ge (ev_var 0 rfl) (ev_pow ⟨by decide, by decide, by decide⟩ ev_int ev_int)) (fun h => ?_) (fun h => ?_))
  · have hc : 10 ^ 18 ≤ c := by simpa using h
    have er : rowL c zs = rowBig c zs := if_pos hc
    refine svs_cons (sv_for (.one 3) (fun i ss => i ≤ zs.length ∧ ∃ s3, ss = [.d (.int (cAt c zs i)), .d (.lst (zs.map D.int)), .own (((rowBig c zs).take i).map D.int), s3, .no, .no, .no]) (iv_list (ev_var 1 rfl)) (pg_name (i := 3) scRow.nd rfl (Or.inl rfl)) ⟨Nat.zero_le _, _, rfl⟩ ?_ ?_)
    · rintro i x ss' hx ⟨hi, s3, rfl⟩
      obtain ⟨z, hz1, rfl⟩ : ∃ z, zs[i]? = some z ∧ D.int z = x := by
        rw [List.getElem?_map] at hx
        exact Option.map_eq_some_iff.mp hx
      have hlt : i < zs.length := (List.getElem?_eq_some_iff.mp hz1).1
      obtain ⟨p1, p2⟩ := hz z (List.mem_of_getElem? hz1)
      refine ⟨rfl, svs_cons (sv_append 2 rfl (ev_mod p1 (ev_int1 (ev_var 0 rfl) hI) (ev_var 3 rfl)) ?_ (by simp [rowBig_len]; omega))⟩
      refine svs_one (sv_set 0 (ev_fdivW ⟨p1, sm_log (Nat.lt_of_le_of_lt (show z.natAbs ≤ 10 ^ 30 by omega) (by decide +kernel))⟩ (ev_var 0 rfl) (ev_var 3 rfl)) ⟨hlt, .d (.int z), ?_⟩ scRow.nd)
      rw [cAt_succ hz1, ← take_snoc (rowBig_get zs c i z hz1), List.map_append]
      rfl
    rintro ss' ⟨_, s3, rfl⟩
    refine svs_freeze 2 rfl (svs_one (sv_ret (ev_var 2 rfl) ?_))
    show D.lst _ = D.lst _
    rw [er, List.length_map, List.take_of_length_le (by rw [rowBig_len]; exact Nat.le_refl _)]
  · have hc : ¬ 10 ^ 18 ≤ c := by simpa using h
    have er : rowL c zs = rowSm (c % 2147483647) 0 zs := if_neg hc
    refine svs_nil (svs_cons (sv_set 4 (ev_mod (by decide) (ev_int1 (ev_var 0 rfl) hI) ev_int) ?_ scRow.nd))
    generalize hs : c % 2147483647 = sd
    have hsd : 0 ≤ sd ∧ sd < 2147483647 := by omega
    rw [hs] at er
    refine svs_cons (sv_for (.one 5) (fun i ss => i ≤ zs.length ∧ ∃ s5 s6, ss = [.d (.int c), .d (.lst (zs.map D.int)), .own (((rowSm sd 0 zs).take i).map D.int), .no, .d (.int sd), s5, s6]) (iv_range1 (n := zs.length) (ev_len (n := zs.length) (by simp [D.len]) (ev_var 1 rfl) hL) (by omega) hR) (pg_name (i := 5) scRow.nd rfl (Or.inl rfl)) ⟨Nat.zero_le _, _, _, rfl⟩ ?_ ?_)
    · rintro i x ss' hx ⟨hi, s5, s6, rfl⟩
      have hlt : i < zs.length := by
        have := (List.getElem?_eq_some_iff.mp hx).1
        simpa [rng_len] using this
      have hx : (rng 0 zs.length)[i]? = some x := hx
      rw [rng_get hlt, Int.zero_add] at hx
      obtain rfl : D.int (i : Int) = x := Option.some.inj hx
      have hz1 : zs[i]? = some zs[i] := List.getElem?_eq_getElem hlt
      generalize zs[i] = z at hz1
      obtain ⟨p1, p2⟩ := hz z (List.mem_of_getElem? hz1)
      have hb : (sd + 7919 * (i : Int) + 104729).natAbs < 2 ^ 64 := by omega
      refine ⟨rfl, svs_cons (sv_set 6 (ev_add (ev_mod (by decide) (ev_int1 (ev_pow ⟨by decide, by decide, hb⟩ (ev_add (ev_add (ev_var 4 rfl) (ev_mul (.inl (by decide)) ev_int (ev_var 5 rfl))) ev_int) ev_int) hI) ev_int) (ev_var 5 rfl)) ?_ scRow.nd)⟩
      refine svs_one (sv_append 2 rfl (ev_mod p1 (ev_int1 (ev_mod (by decide) (ev_int1 (ev_mul (.inr (by decide)) (ev_var 6 rfl) ev_int) hI) ev_int) hI) (ev_ixL ⟨i, rfl, hm hz1⟩ (ev_var 1 rfl) (ev_var 5 rfl))) ⟨hlt, .d (.int (i : Nat)), .d (.int ((sd + 7919 * (i : Int) + 104729) ^ (5 : Int).toNat % 2147483647 + (i : Int))), ?_⟩ (by simp [rowSm_len]; omega))
      have := rowSm_get sd zs 0 i z hz1
      rw [Nat.zero_add] at this
      rw [← take_snoc this, List.map_append]
      rfl
    rintro ss' ⟨_, s5, s6, rfl⟩
    refine svs_freeze 2 rfl (svs_one (sv_ret (ev_var 2 rfl) ?_))
    show D.lst _ = D.lst _
    rw [er, rng_len, List.take_of_length_le (by rw [rowSm_len]; exact Nat.le_refl _)]
end
/-- the draws are below their sizes -/
theorem rowL_at (c : Int) {zs : List Int} {i : Nat} {z : Int} (h : zs[i]? = some z) (hz : 0 < z) : ∃ v : Nat, (rowL c zs)[i]? = some (v : Int) ∧ (v : Int) < z := by
  unfold rowL
  split
  · have h1 := Int.emod_nonneg (cAt c zs i) (show z ≠ 0 by omega)
    have h2 := Int.emod_lt_of_pos (cAt c zs i) hz
    refine ⟨(cAt c zs i % z).toNat, ?_, by omega⟩
    rw [rowBig_get zs c i z h, Int.toNat_of_nonneg h1]
  · have e := rowSm_get (c % 2147483647) zs 0 i z h
    rw [Nat.zero_add] at e
    have h1 := Int.emod_nonneg (((c % 2147483647 + 7919 * (i : Int) + 104729) ^ 5 % 2147483647 + (i : Int)) * 40692 % 2147483629) (show z ≠ 0 by omega)
    have h2 := Int.emod_lt_of_pos (((c % 2147483647 + 7919 * (i : Int) + 104729) ^ 5 % 2147483647 + (i : Int)) * 40692 % 2147483629) hz
    refine ⟨(mix (c % 2147483647) i z).toNat, ?_, by show ((mix _ i z).toNat : Int) < z; unfold mix; omega⟩
    rw [e, Int.toNat_of_nonneg (by unfold mix; exact h1)]
theorem rowL_len (c : Int) (zs : List Int) : (rowL c zs).length = zs.length := by
  unfold rowL
  split
  · exact rowBig_len _ _
  · exact rowSm_len _ _ _
end K05

set_option Elab.async false
set_option linter.all false
set_option maxRecDepth 100000
set_option maxHeartbeats 4000000
/-! K05f: words, drawn; different from one another. -/
namespace K05
open PySem PySem.Spec PyProof.Rows L2 Fd Tx
/-- the letters of a draw -/
def wdL : Nat → Nat → List Nat
  | 0, _ => []
  | k + 1, l => (97 + l % 26) :: wdL k (l / 26)
def word (n : Nat) : Str := S (wdL (1 + n % 8) (n / 8))
def lets : List Nat := (List.range 26).map (97 + ·)
theorem let_cps : LET.cps.toList = lets := by decide +kernel
theorem let_get {i : Nat} (h : i < 26) : LET.cps.toList[i]? = some (97 + i) := by
  rw [let_cps]; unfold lets
  rw [List.getElem?_map, List.getElem?_range h]; rfl
theorem isLet_iff (c : Nat) : isLet c = true ↔ 97 ≤ c ∧ c < 123 := by
  unfold isLet
  rw [let_cps, decide_eq_true_eq]
  unfold lets
  rw [List.mem_map]
  constructor
  · rintro ⟨i, h1, rfl⟩
    have := List.mem_range.mp h1
    omega
  · rintro ⟨h1, h2⟩
    exact ⟨c - 97, List.mem_range.mpr (by omega), by omega⟩
theorem wdL_len : ∀ k l, (wdL k l).length = k
  | 0, _ => rfl
  | k + 1, l => by rw [wdL, List.length_cons, wdL_len k]
theorem wdL_let : ∀ k l, (wdL k l).all isLet = true
  | 0, _ => rfl
  | k + 1, l => by
    rw [wdL, List.all_cons, wdL_let k, Bool.and_true, isLet_iff]
    have := Nat.mod_lt l (show 0 < 26 by decide)
    omega
theorem nm_S {l : List Nat} (h1 : 1 ≤ l.length) (h2 : l.length ≤ 8) (h3 : l.all isLet = true) : nmOk (S l) = true := by
  unfold nmOk
  rw [len_S, decide_eq_true h1, decide_eq_true h2, show (S l).cps.toList = l from rfl, h3]; rfl
theorem word_nm (n : Nat) : nmOk (word n) = true := nm_S (by rw [wdL_len]; omega) (by rw [wdL_len]; omega) (wdL_let _ _)
theorem nm_ok {x : Str} (h : nmOk x = true) : x.length ≤ 8 ∧ PyData.strOk x = true := by
  unfold nmOk at h
  rw [Bool.and_eq_true, Bool.and_eq_true] at h
  refine ⟨of_decide_eq_true h.1.2, ?_⟩
  unfold PyData.strOk
  rw [Array.all_eq_true]
  intro i hi
  have hm : x.cps[i] ∈ x.cps.toList := Array.mem_toList_iff.mpr (Array.getElem_mem hi)
  have := List.all_eq_true.mp h.2 _ hm
  rw [isLet_iff] at this
  exact decide_eq_true (by omega)
theorem nm_tyd {x : Str} (h : nmOk x = true) : Tyd (.str x) := ⟨by have := (nm_ok h).1; omega, (nm_ok h).2⟩
/-- the spare words of a draw -/
def spare (n : Nat) : List Str := word n :: lets.map fun c => S [113, c]
theorem spare_nm (n : Nat) : ∀ w ∈ spare n, nmOk w = true := fun w hw => by
  rcases List.mem_cons.mp hw with rfl | hw
  · exact word_nm n
  · obtain ⟨c, hc, rfl⟩ := List.mem_map.mp hw
    have : isLet c = true := by unfold isLet; rw [let_cps]; exact decide_eq_true hc
    refine nm_S (by simp) (by simp) ?_
    simp only [List.all_cons, List.all_nil, Bool.and_true, this]
    decide +kernel
theorem few : ∀ {qs acc : List Str}, qs.Nodup → (∀ q ∈ qs, q ∈ acc) → qs.length ≤ acc.length
  | [], _, _, _ => Nat.zero_le _
  | q :: qs, acc, nd, h => by
    obtain ⟨n1, n2⟩ := List.nodup_cons.mp nd
    have hq := h q List.mem_cons_self
    have := few (acc := acc.erase q) n2 fun r hr => (List.mem_erase_of_ne fun (e : r = q) => n1 (e ▸ hr)).mpr (h r (List.mem_cons_of_mem _ hr))
    rw [List.length_erase_of_mem hq] at this
    have : 0 < acc.length := List.length_pos_of_mem hq
    rw [List.length_cons]; omega
theorem qs_nodup : (lets.map fun c => S [113, c]).Nodup := by decide +kernel
def free (acc : List Str) (n : Nat) : List Str := (spare n).filter fun w => !decide (w ∈ acc)
theorem free_ne {acc : List Str} (n : Nat) (h : acc.length < 26) : ∃ w r, free acc n = w :: r ∧ w ∈ spare n ∧ w ∉ acc := by
  cases e : free acc n with
  | nil =>
    exfalso
    have : ∀ q ∈ lets.map fun c => S [113, c], q ∈ acc := fun q hq => by
      refine Decidable.byContradiction fun hn => ?_
      have : q ∈ free acc n := List.mem_filter.mpr ⟨List.mem_cons_of_mem _ hq, by rw [decide_eq_false hn]; rfl⟩
      rw [e] at this; cases this
    have := few qs_nodup this
    rw [List.length_map, show lets.length = 26 by decide +kernel] at this
    omega
  | cons w r =>
    have hw : w ∈ free acc n := by rw [e]; exact List.mem_cons_self
    obtain ⟨h1, h2⟩ := List.mem_filter.mp hw
    exact ⟨w, r, rfl, h1, by simpa using h2⟩
def pick (acc : List Str) (n : Nat) : Str := (free acc n).headD Str.empty
def wordsF (acc : List Str) : List Nat → List Str
  | [] => acc
  | n :: ns => wordsF (acc ++ [pick acc n]) ns
theorem pick_ok {acc : List Str} (n : Nat) (h : acc.length < 26) : pick acc n ∈ spare n ∧ pick acc n ∉ acc ∧ (free acc n)[0]? = some (pick acc n) := by
  obtain ⟨w, r, e, h1, h2⟩ := free_ne n h
  have : pick acc n = w := by unfold pick; rw [e]; rfl
  rw [this, e]
  exact ⟨h1, h2, rfl⟩
structure Fine (ws : List Str) : Prop where
  nd : ws.Nodup
  nm : ∀ w ∈ ws, nmOk w = true
theorem fine_snoc {acc : List Str} (h : Fine acc) (n : Nat) (hl : acc.length < 26) : Fine (acc ++ [pick acc n]) := by
  obtain ⟨h1, h2, _⟩ := pick_ok n hl
  refine ⟨?_, fun w hw => ?_⟩
  · rw [List.nodup_append]
    refine ⟨h.nd, by simp, fun a ha b hb e => ?_⟩
    have : b = pick acc n := by simpa using hb
    subst this; subst e
    exact h2 ha
  · rcases List.mem_append.mp hw with hw | hw
    · exact h.nm w hw
    · have : w = pick acc n := by simpa using hw
      subst this
      exact spare_nm n _ h1
theorem words_fine : ∀ (ns : List Nat) {acc : List Str}, Fine acc → acc.length + ns.length ≤ 26 → Fine (wordsF acc ns) ∧ (wordsF acc ns).length = acc.length + ns.length
  | [], acc, h, _ => ⟨h, rfl⟩
  | n :: ns, acc, h, hl => by
    rw [List.length_cons] at hl
    obtain ⟨h1, h2⟩ := words_fine ns (fine_snoc h n (by omega)) (by rw [List.length_append, List.length_singleton]; omega)
    refine ⟨h1, ?_⟩
    show (wordsF (acc ++ [pick acc n]) ns).length = _
    rw [h2, List.length_append, List.length_singleton, List.length_cons]; omega
theorem words_snoc : ∀ (ns : List Nat) (acc : List Str) (n : Nat), wordsF acc (ns ++ [n]) = wordsF acc ns ++ [pick (wordsF acc ns) n]
  | [], _, _ => rfl
  | m :: ns, acc, n => words_snoc ns _ n
def pWord (ds : List D) (d : D) : Prop := ∃ n : Nat, ds = [.int n] ∧ d = .str (word n)
def pWords (ds : List D) (d : D) : Prop := ∃ ns : List Nat, ds = [.lst (ns.map fun n => D.int (n : Nat))] ∧ ns.length ≤ 20 ∧ d = .lst ((wordsF [] ns).map D.str)
theorem scWord : FnScope ["_law_draw", "_law_out", "_law_left", "_law_k"] ["_law_draw"] (defScope sWord) := ⟨rfl, rfl, rfl, by decide +kernel, rfl, by decide +kernel, by decide +kernel⟩
theorem scWords : FnScope ["_law_draws", "_law_out", "_law_draw", "_law_spare", "_law_letter", "_law_word_here"] ["_law_draws"] (defScope sWords) := ⟨rfl, rfl, rfl, by decide +kernel, rfl, by decide +kernel, by decide +kernel⟩
theorem wdL_take : ∀ (k l i : Nat), i < k → (wdL k l)[i]? = some (97 + l / 26 ^ i % 26)
  | 0, _, _, h => absurd h (Nat.not_lt_zero _)
  | k + 1, l, 0, _ => by simp [wdL]
  | k + 1, l, i + 1, h => by
    rw [wdL, List.getElem?_cons_succ, wdL_take k (l / 26) i (by omega), Nat.div_div_eq_div_mul, Nat.pow_succ, Nat.mul_comm]
section
variable {T : List (Addr × Str)} {P : Program} {w : World} {K : PySem.W.Frag} {mg : Str → Option Value} {base : Heap} {f : Addr} {fd : FuncData}
theorem ok_word (F : Fun K "_law_word" "_law_word" sWord f fd) (B : Fre mg) : FnOk P w K mg base CX0 1 f fd ["_law_draw"] (spD T K 1 pWord) := by
  refine fd_ok F scWord rfl fun cdv A outer s H E ds d hr _ ⟨n, e1, e2⟩ => ?_
  subst e1; subst e2
  refine svs_cons (sv_set 1 (d := .str (S [])) (EV.cast ev_str (congrArg D.str (by decide))) ?_ scWord.nd)
  refine svs_cons (sv_set 2 (d := .int ((n / 8 : Nat) : Int)) (EV.cast (ev_fdivW ⟨by decide, by decide +kernel⟩ (ev_var 0 rfl) ev_int) (congrArg D.int (by simp))) ?_ scWord.nd)
  refine svs_cons (sv_for (.one 3) (fun i ss => i ≤ 1 + n % 8 ∧ ∃ s3, ss = [.d (.int (n : Nat)), .d (.str (S ((wdL (1 + n % 8) (n / 8)).take i))), .d (.int ((n / 8 / 26 ^ i : Nat) : Int)), s3]) (iv_range1 (n := ((1 + n % 8 : Nat) : Int)) (EV.cast (ev_add ev_int (ev_mod (by decide) (ev_int1 (ev_var 0 rfl) B.int) ev_int)) (congrArg D.int (by simp))) (by omega) B.range) (pg_name (i := 3) scWord.nd rfl (Or.inl rfl)) ⟨Nat.zero_le _, .no, by simp; rfl⟩ ?_ ?_)
  · rintro i x ss' hx ⟨hi, s3, rfl⟩
    have hlt : i < 1 + n % 8 := by
      have := (List.getElem?_eq_some_iff.mp hx).1
      rw [rng_len] at this; omega
    refine ⟨rfl, svs_cons (sv_set 1 (d := .str (S ((wdL (1 + n % 8) (n / 8)).take (i + 1)))) (EV.cast (ev_addS ?_ (ev_var 1 rfl) (ev_sign (c := 97 + n / 8 / 26 ^ i % 26) ⟨n / 8 / 26 ^ i % 26, ?_, let_get (Nat.mod_lt _ (by decide))⟩ (by decide +kernel) (EV.cast ev_str (congrArg D.str (show _ = LET from rfl))) (ev_mod (by decide) (ev_int1 (ev_var 2 rfl) B.int) ev_int))) ?_) ?_ scWord.nd)⟩
    · rw [len_S, sizeLine_eq]
      have : ((wdL (1 + n % 8) (n / 8)).take i).length ≤ i := List.length_take_le ..
      show _ + 1 ≤ _
      omega
    · simp
    · rw [show (⟨#[97 + n / 8 / 26 ^ i % 26]⟩ : Str) = S [97 + n / 8 / 26 ^ i % 26] from rfl, S_app, List.take_add_one, wdL_take _ _ _ hlt]; rfl
    · refine svs_one (sv_set 2 (d := .int ((n / 8 / 26 ^ (i + 1) : Nat) : Int)) (EV.cast (ev_fdivW ⟨by decide, by decide +kernel⟩ (ev_var 2 rfl) ev_int) (congrArg D.int ?_)) ⟨hlt, _, rfl⟩ scWord.nd)
      rw [Nat.pow_succ, ← Nat.div_div_eq_div_mul]; simp
  · rintro ss' ⟨_, s3, rfl⟩
    rw [rng_len, Int.toNat_natCast]
    refine svs_one (sv_ret (ev_var 1 rfl) ?_)
    rw [List.take_of_length_le (by rw [wdL_len]; exact Nat.le_refl _)]; rfl
end
end K05

set_option Elab.async false
set_option linter.all false
set_option maxRecDepth 100000
set_option maxHeartbeats 4000000
/-! K05g: the law's words, its own telling of names. -/
namespace K05
open PySem PySem.Spec PyProof.Rows L2 Fd Tx
theorem outs_str (keep : Str → Bool) (ws : List Str) (k : D → Bool) (hk : ∀ w, k (.str w) = keep w) : outs k (fun d => d) (ws.map D.str) = (ws.filter keep).map D.str := by
  unfold outs
  rw [List.map_id', List.filter_map]
  congr 1
  exact List.filter_congr fun w _ => hk w
def keepN (acc : List Str) : D → Bool
  | .str w => !decide (w ∈ acc)
  | _ => false
def qF : D → D
  | .str s => .str (S [113] ++ s)
  | _ => .non
def signF : D → Bool
  | .str s => !s.cps.toList.all isLet
  | _ => false
theorem one_ok {c : Nat} (h : c < 0x110000) : PyData.strOk ⟨#[c]⟩ = true := by
  unfold PyData.strOk
  simp [h]
section
variable {T : List (Addr × Str)} {P : Program} {w : World} {K : PySem.W.Frag} {mg : Str → Option Value} {base : Heap} {f : Addr} {fd : FuncData}
theorem ok_words (F : Fun K "_law_words" "_law_words" sWords f fd) (G : FD T P w K mg base "_law_word" 1 1 pWord) : FnOk P w K mg base CX0 2 f fd ["_law_draws"] (spD T K 1 pWords) := by
  refine fd_ok F scWords rfl fun cdv A outer s H E ds d hr _ ⟨ns, e1, hl, e2⟩ => ?_
  subst e1; subst e2
  refine svs_cons (sv_setOwn 1 evs_nil ?_ scWords.nd)
  refine svs_cons (sv_for (.one 2) (fun i ss => i ≤ ns.length ∧ ∃ s2 s3, ss = [.d (.lst (ns.map fun n => D.int (n : Nat))), .own ((wordsF [] (ns.take i)).map D.str), s2, s3, .no, .no]) (iv_list (ev_var 0 rfl)) (pg_name (i := 2) scWords.nd rfl (Or.inl rfl)) ⟨Nat.zero_le _, .no, .no, rfl⟩ ?_ ?_)
  · rintro i x ss' hx ⟨hi, s2, s3, rfl⟩
    obtain ⟨n, hn, rfl⟩ : ∃ n, ns[i]? = some n ∧ D.int (n : Nat) = x := by
      rw [List.getElem?_map] at hx
      exact Option.map_eq_some_iff.mp hx
    have hlt : i < ns.length := (List.getElem?_eq_some_iff.mp hn).1
    obtain ⟨fine, len⟩ := words_fine (ns.take i) (acc := []) ⟨by simp, by simp⟩ (by rw [List.length_take]; simp; omega)
    have len : (wordsF [] (ns.take i)).length ≤ 20 := by rw [len, List.length_take]; simp; omega
    generalize hacc : wordsF [] (ns.take i) = acc at fine len ⊢
    obtain ⟨p1, p2, p3⟩ := pick_ok n (show acc.length < 26 by omega)
    refine ⟨rfl, svs_cons (sv_set 3 (d := .lst ((spare n).map D.str)) (EV.cast (ev_cat (xs := [.str (word n)]) (ys := (lets.map fun c => S [113, c]).map D.str) (by simp [lets]) (ev_lst (evs_cons (ev_call G hr (evs_cons (ev_var 2 rfl) evs_nil) ⟨n, rfl, rfl⟩) evs_nil)) (EV.cast (ev_lc [("_law_letter", 4)] (.one 4) (fun _ => true) qF (iv_str (EV.cast ev_str (congrArg D.str (show _ = LET from rfl))))
      (id (α := BlkOk ["_law_draws", "_law_out", "_law_draw", "_law_spare", "_law_letter", "_law_word_here"] (defScope sWords) _ [("_law_letter", 4)]) ⟨rfl, by decide +kernel, by decide +kernel, by decide +kernel, by decide +kernel⟩)
      (fun s H C cl fp => pg_name (i := 4) scWords.nd rfl (Or.inl rfl)) (fun s H C' cl fp y hy => ts_nil) (fun s H C' cl fp y hy hk => ?_) scWords.nd (fun _ _ => rfl) (by decide +kernel)) (congrArg D.lst ?_))) rfl) ?_ scWords.nd)⟩
    · obtain ⟨c, _, rfl⟩ := List.mem_map.mp hy
      exact EV.cast (ev_addS (x := S [113]) (y := ⟨#[c]⟩) (show 1 + 1 ≤ sizeLine by decide +kernel) (EV.cast ev_str (congrArg D.str (by decide))) (ev_var 4 rfl)) rfl
    · unfold outs Fd.signs
      rw [List.filter_eq_self.mpr fun _ _ => rfl, let_cps, List.map_map, List.map_map]
      refine List.map_congr_left fun c _ => ?_
      show D.str (S [113] ++ S [c]) = D.str (S [113, c])
      rw [S_app]; rfl
    · refine svs_one (sv_append 1 rfl (ev_ixL (d := .str (pick acc n)) ⟨0, rfl, ?_⟩ (EV.cast (ev_lc [("_law_word_here", 5)] (.one 5) (keepN acc) (fun d => d) (iv_list (ev_var 3 rfl))
        (id (α := BlkOk ["_law_draws", "_law_out", "_law_draw", "_law_spare", "_law_letter", "_law_word_here"] (defScope sWords) _ [("_law_word_here", 5)]) ⟨rfl, by decide +kernel, by decide +kernel, by decide +kernel, by decide +kernel⟩)
        (fun s H C cl fp => pg_name (i := 5) scWords.nd rfl (Or.inl rfl)) (fun s H C' cl fp y hy => ?_) (fun s H C' cl fp y hy hk => ev_var 5 rfl) scWords.nd (fun _ _ => rfl) (by rw [List.length_map]; simp [spare, lets])) (congrArg D.lst (outs_str (fun w => !decide (w ∈ acc)) (spare n) (keepN acc) fun _ => rfl))) ev_int) ⟨hlt, .d (.int (n : Nat)), .d (.lst ((spare n).map D.str)), ?_⟩ (by rw [List.length_map]; omega))
      · show ((free acc n).map D.str)[0]? = _
        rw [List.getElem?_map, p3]; rfl
      · obtain ⟨w, hw, rfl⟩ := List.mem_map.mp hy
        exact ts_one (TV.cast (tv_notInOwn 1 rfl hr (ev_var 5 rfl) (.str (nm_ok (spare_nm n w hw)).2) (.strs fun z hz => (nm_ok (fine.nm z hz)).2)) (congrArg not (any_strs acc w)))
      · have : wordsF [] (ns.take (i + 1)) = acc ++ [pick acc n] := by
          rw [List.take_succ, hn, ← hacc]; exact words_snoc _ _ _
        rw [this, List.map_append]; rfl
  · rintro ss' ⟨_, s2, s3, rfl⟩
    refine svs_freeze 1 rfl (svs_one (sv_ret (ev_var 1 rfl) ?_))
    rw [List.length_map, List.take_length]
end
end K05

set_option Elab.async false
set_option linter.all false
set_option maxRecDepth 100000
set_option maxHeartbeats 4000000
/-! Fd35: stars in displays; a comprehension with two fors. -/
namespace Fd
open PySem PySem.Spec PyProof.Rows L2
section
variable {T : List (Addr × Str)} {X : Cx} {ss : SS} {e : Expr} {es : List Expr} {xs ds : List D} {d : D} {p : Pos}
/-- *e, .. : e is a list or a tuple -/
theorem evs_star (hd : d = .lst xs ∨ d = .tup xs ∨ d = .rdl xs) (ha : EV T X e ss d) (hr : EVs T X es ss ds) (hs : starEach (.Starred e p :: es) X.env = (true, eval e X.env) :: starEach es X.env := by rfl) : EVs T X (.Starred e p :: es) ss (xs ++ ds) :=
  EVs.of (StX.pa_star ha hr hs) fun B F H σ Q R k => ev_go R fun v F1 H1 n1 R1 i1 => by
    have got : ∃ a vs, v = .ref a ∧ (SqT X.K H1 a vs ∨ SqL X.K H1 a vs) ∧ IsL X.K F1 xs vs := by
      rcases hd with rfl | rfl | rfl
      · obtain ⟨a, vs, rfl, e1, e2⟩ := i1; exact ⟨a, vs, rfl, .inr (SqL.of (R1.sub _ _ e1)), e2⟩
      · obtain ⟨a, vs, rfl, e1, e2⟩ := i1; exact ⟨a, vs, rfl, .inl (ext_seqT R1.sub e1), e2⟩
      · obtain ⟨a, vs, rfl, e1, e2⟩ := i1; exact ⟨a, vs, rfl, .inr (ext_seqL R1.sub e1), e2⟩
    obtain ⟨a, vs, rfl, e1, e2⟩ := got
    exact ⟨a, vs, rfl, e1, evs_go R1 fun us F2 H2 n2 R2 i2 => k _ F2 H2 (n1.trans n2) R2 ((IsL.mono n2.f _ e2).append i2)⟩
end
/-- the items that two fors give -/
def outs2 (g : D → List D) (f : D → D → D) (xs : List D) : List D := xs.flatMap fun x => (g x).map (f x)
theorem outs2_take {g : D → List D} {f : D → D → D} {xs : List D} {i : Nat} {x : D} (h : xs[i]? = some x) : outs2 g f (xs.take (i + 1)) = outs2 g f (xs.take i) ++ (g x).map (f x) := by
  unfold outs2
  rw [List.take_succ, h, List.flatMap_append]
  simp
theorem outs2_le {g : D → List D} {f : D → D → D} {xs : List D} (i : Nat) : (outs2 g f (xs.take i)).length ≤ (outs2 g f xs).length := by
  conv => rhs; rw [← List.take_append_drop i xs]
  unfold outs2
  rw [List.flatMap_append, List.length_append]
  omega
def tIvF (T : List (Addr × Str)) (K : PySem.W.Frag) (Rl : SS → List D → Prop) : TI := fun σ H R => ∃ B F ss xs, Rl ss xs ∧ StR T K B F H σ ss ∧ ∀ J F1 H1, Nx T F H F1 H1 → StR T K B F1 H1 σ ss → Yl T K J F1 xs → R J H1
theorem pi_fam {T : List (Addr × Str)} {X : Cx} {tg e : Expr} {Rl : SS → List D → Prop} (h : ∀ ss xs, Rl ss xs → IV T X tg e ss xs) : PI X tg e (tIvF T X.K Rl) :=
  ⟨fun pins s σ H R I ⟨B, F, ss, xs, r, R0, q⟩ => (h ss xs r).run pins s σ H R I ⟨B, F, R0, q⟩⟩
theorem yes_go {te : TE} {σ : L2.St} {H : Hp} {A : VK} {B : Hp → Prop} (h : te σ H A) : tYes σ H fun b H3 => if b = true then te σ H3 A else B H3 := iteT (B := B H) h
theorem yes_goI {wi : TI} {σ : L2.St} {H : Hp} {A : It → Hp → Prop} {B : Hp → Prop} (h : wi σ H A) : tYes σ H fun b H3 => if b = true then wi σ H3 A else B H3 := iteT (B := B H) h
def noMine (ss : SS) : Bool := ss.all fun s => !s.mine
theorem noMine_at {ss : SS} (h : noMine ss = true) {i : Nat} {s : S} (e : ss[i]? = some s) : s.mine = false := by
  have := List.all_eq_true.mp h s (List.mem_of_getElem? e)
  simpa using this
theorem offD {T : List (Addr × Str)} {Fa Ha Fb Hb : Hp} {D : Addr} {vs : List V} (n : Nx T Fa Ha Fb Hb) (h1 : Fa D = none) (h2 : Ha D = some (.lst vs)) : Fb D = none := by
  cases e : Fb D with
  | none => rfl
  | some u =>
    rcases n.n D u e with z | z
    · exact absurd h1 z
    · exact z.no h2 (fun _ z => nomatch z) (fun _ z => nomatch z)
/-- one more at D, which is new since H1 -/
theorem nx_app {T : List (Addr × Str)} {F1 H1 F H : Hp} {D : Addr} {vs us : List V} (n : Nx T F1 H1 F H) (hD : H1 D = none) (fD : F D = none) (eD : H D = some (.lst vs)) : Nx T F1 H1 F (upd H D (.lst us)) :=
  ⟨n.f, ⟨fun p o e nn => by rw [upd_ne (ne_of_none e hD)]; exact n.h.k p o e nn, fun t => tabs_upd (n.h.t t) fun o' e z => by
    rw [eD] at e; cases e
    rcases z with ⟨_, z⟩ | ⟨_, _, z⟩ <;> cases z⟩, fun p o e => by rw [upd_ne (ne_of_none e fD)]; exact n.s p o e, n.nt, n.n⟩
section
variable {T : List (Addr × Str)} {X : Cx} {ss : SS} {e elt tg tg1 e1 : Expr} {xs : List D} {pos : Pos} {scope : Scope}
theorem lc2_go {K : PySem.W.Frag} {B : Hp × Hp} {F H : Hp} {σ : L2.St} {vs vs1 : List Nat} {t t1 : Tg} {wi wi1 : TI} {te : TE} {Pv : V → Prop} {g : D → List D} {f : D → D → D} {Q : VK} (hv : vs ≠ []) (hv1 : vs1 ≠ []) (ht : ∀ j ∈ t.slots, j ∈ vs) (ht1 : ∀ j ∈ t1.slots, j ∈ vs1) (hfit : ∀ x ∈ xs, t.fits x = true) (hfit1 : ∀ x ∈ xs, ∀ y ∈ g x, t1.fits y = true)
    (hlen : (outs2 g f xs).length ≤ 100000) (hm : ∀ x ∈ xs, noMine (t.put x (wipeS ss vs)) = true) (R : StR T K B F H σ ss)
    (hO : ∀ R0 : It → Hp → Prop, (∀ J F1 H1, Nx T F H F1 H1 → StR T K B F1 H1 σ ss → Yl T K J F1 xs → R0 J H1) → wi σ H R0)
    (hI : ∀ x, x ∈ xs → ∀ F' H' σ2 (R1 : It → Hp → Prop), Nx T F H F' H' → StR T K B F' H' σ2 (t.put x (wipeS ss vs)) → L2.wipe σ2 vs = L2.wipe σ vs → (∀ J1 F3 H3, Nx T F' H' F3 H3 → StR T K B F3 H3 σ2 (t.put x (wipeS ss vs)) → Yl T K J1 F3 (g x) → R1 J1 H3) → wi1 σ2 H' R1)
    (hT : ∀ x, x ∈ xs → ∀ y, y ∈ g x → ∀ F' H' σ3 (Q1 : VK), StR T K B F' H' σ3 (t1.put y (wipeS (t.put x (wipeS ss vs)) vs1)) → (∀ v F1 H1, Nx T F' H' F1 H1 → StR T K B F1 H1 σ3 (t1.put y (wipeS (t.put x (wipeS ss vs)) vs1)) → Is K F1 (f x y) v → Pv v → Q1 v H1) → te σ3 H' Q1)
    (q : ∀ D vs' F1 H1, Nx T F H F1 H1 → StR T K B F1 H1 σ ss → F1 D = none → Fr B.2 D → Fr H D → H1 D = some (.lst vs') → IsL K F1 (outs2 g f xs) vs' → (∀ w ∈ vs', Pv w) → Q (.ref D) H1) :
    tLc2 wi (gOf K t) tYes wi1 (gOf K t1) tYes te vs vs1 σ H Q := by
  refine hO _ fun J F1 H1 n1 R1 Y D hD => ?_
  have HD : Fr H D := n1.h.ff hD
  have HB : Fr B.2 D := R.base_fr HD
  refine ⟨fun i m H' => m = xs.length - i ∧ i ≤ xs.length ∧ ∃ F' acc, Nx T F1 H1 F' H' ∧ F' D = none ∧ H' D = some (.lst acc) ∧ IsL K F' (outs2 g f (xs.take i)) acc ∧ ∀ w ∈ acc, Pv w, ⟨xs.length, by simp, Nat.zero_le _, F1, [], Nx.allocH R1.sub hD, R1.free hD, upd_same, by simp [outs2]; exact rfl, fun _ h => nomatch h⟩, ?_⟩
  rintro i m H' ⟨rfl, hi', F', acc, n2, fD, eD, hacc, hpv⟩
  by_cases hlt : i < xs.length
  · obtain ⟨go, yl⟩ := Y.item i F' H' n2.f n2.s hlt
    refine .inr ⟨go, fun H2 => ∃ F2 acc', Nx T F1 H1 F2 H2 ∧ F2 D = none ∧ H2 D = some (.lst acc') ∧ IsL K F2 (outs2 g f (xs.take (i + 1))) acc' ∧ ∀ w ∈ acc', Pv w, fun H2 ⟨F2, acc', h⟩ => ⟨xs.length - (i + 1), by omega, rfl, hlt, F2, acc', h⟩, fun v H2 y => ?_⟩
    obtain ⟨F2, x, n3, hx, ix⟩ := yl v H2 y
    have hmem : x ∈ xs := List.mem_of_getElem? hx
    have fD2 : F2 D = none := offD n3 fD eD
    have n12 := n2.trans n3
    have eD2 := n3.h.k _ _ eD (fun _ z => nomatch z)
    have hle := outs2_le (g := g) (f := f) (xs := xs) (i + 1)
    rw [outs2_take hx, List.length_append, List.length_map] at hle
    have hal := hacc.length
    have R2 : StR T K B F2 H2 (L2.wipe σ vs) (wipeS ss vs) := (R1.wipe vs).grow n12
    refine tg_go (ws := vs) R2 ix (hfit x hmem) (fun j hj => .inl (ht j hj)) fun σ2 R3 hw => ⟨(hw hv).trans wipe_wipe, yes_goI (wi := wi1) ?_⟩
    refine hI x hmem F2 H2 σ2 _ (n1.trans n12) R3 ((hw hv).trans wipe_wipe) fun J1 F3 H3 n4 R4 Y1 => ?_
    have fD3 : F3 D = none := offD n4 fD2 eD2
    have eD3 := n4.h.k _ _ eD2 (fun _ z => nomatch z)
    have n13 := n12.trans n4
    refine ⟨fun j k H'' => k = (g x).length - j ∧ j ≤ (g x).length ∧ ∃ F' acc', Nx T F1 H1 F' H'' ∧ Ext F3 F' ∧ StR T K B F' H'' σ2 (t.put x (wipeS ss vs)) ∧ F' D = none ∧ H'' D = some (.lst acc') ∧ IsL K F' (outs2 g f (xs.take i) ++ ((g x).take j).map (f x)) acc' ∧ ∀ w ∈ acc', Pv w, ⟨(g x).length, by simp, Nat.zero_le _, F3, acc, n13, fun _ _ h => h, R4, fD3, eD3, by simpa using IsL.mono (n3.f.trans n4.f) _ hacc, hpv⟩, ?_⟩
    rintro j k H4 ⟨rfl, hj', F4, acc', n5, x5, R5, fD4, eD4, hacc', hpv'⟩
    by_cases hjl : j < (g x).length
    · obtain ⟨go1, yl1⟩ := Y1.item j F4 H4 x5 n5.s hjl
      refine .inr ⟨go1, fun H5 => ∃ F5 acc5, Nx T F1 H1 F5 H5 ∧ Ext F3 F5 ∧ StR T K B F5 H5 σ2 (t.put x (wipeS ss vs)) ∧ F5 D = none ∧ H5 D = some (.lst acc5) ∧ IsL K F5 (outs2 g f (xs.take i) ++ ((g x).take (j + 1)).map (f x)) acc5 ∧ ∀ w ∈ acc5, Pv w, fun H5 ⟨F5, acc5, h⟩ => ⟨(g x).length - (j + 1), by omega, rfl, hjl, F5, acc5, h⟩, fun v1 H5 y1 => ?_⟩
      obtain ⟨F5, z, n6, hz, iz⟩ := yl1 v1 H5 y1
      have hzm : z ∈ g x := List.mem_of_getElem? hz
      have R6 := R5.grow n6
      have fD5 : F5 D = none := offD n6 fD4 eD4
      have eD5 := n6.h.k _ _ eD4 (fun _ z => nomatch z)
      refine tg_go (ws := vs1) (R6.wipe vs1) iz (hfit1 x hmem z hzm) (fun j hj => .inl (ht1 j hj)) fun σ3 R7 hw1 => ⟨(hw1 hv1).trans wipe_wipe, yes_go (te := te) ?_⟩
      refine hT x hmem z hzm F5 H5 σ3 _ R7 fun u F6 H6 n7 R8 i8 hu => ?_
      have fD6 : F6 D = none := offD n7 fD5 eD5
      have eD6 := n7.h.k _ _ eD5 (fun _ z => nomatch z)
      have n67 := n6.trans n7
      refine ⟨acc', eD6, ?_, F6, acc' ++ [u], nx_app (n5.trans n67) hD fD6 eD6, x5.trans n67.f, (R6.grow n7).updH fD6 HB (fun o' e z => ?_) (fun l s e1 e2 => ?_), fD6, upd_same, ?_, fun w hw => ?_⟩
      · have := hacc'.length
        rw [List.length_append, List.length_map, List.length_take] at this
        rw [sizeLine_eq]; omega
      · rw [eD6] at e; cases e
        rcases z with ⟨_, z⟩ | ⟨_, _, z⟩ <;> cases z
      · rw [noMine_at (hm x hmem) e1] at e2; cases e2
      · have : (g x).take (j + 1) = (g x).take j ++ [z] := by rw [List.take_succ, hz]; rfl
        rw [this, List.map_append, ← List.append_assoc]
        exact (IsL.mono n67.f _ hacc').snoc i8
      · rcases List.mem_append.mp hw with hw | hw
        · exact hpv' w hw
        · obtain rfl : w = u := by simpa using hw
          exact hu
    · obtain rfl : j = (g x).length := by omega
      refine .inl ⟨Y1.stop F4 H4 x5 n5.s, F4, acc', n5, fD4, eD4, ?_, hpv'⟩
      rw [outs2_take hx]
      rw [List.take_length] at hacc'
      exact hacc'
  · have e : i = xs.length := by omega
    subst e
    refine .inl ⟨Y.stop F' H' n2.f n2.s, q D acc F' H' (n1.trans n2) (R1.grow n2) fD HB HD eD ?_ hpv⟩
    rw [List.take_length] at hacc
    exact hacc
/-- [elt for tg in e for tg1 in e1] -/
theorem ev_lc2 (own : List (Str × Nat)) (vs1 : List Nat) (t t1 : Tg) (g : D → List D) (f : D → D → D) (hi : IV T X tg e ss xs) (ok : BlkOk X.N X.env.scope scope own) (hsub : ∀ i ∈ vs1, i ∈ own.map (·.2))
    (hg : ∀ (s : Shared) (H : Hp) (C : Addr) (cl : List (Str × Addr)) (fp : List Addr), PG (X.blk s H scope (compEnvC scope cl C X.env) fp) tg (gOf X.K t))
    (hi1 : ∀ (s : Shared) (H : Hp) (C : Addr) (cl : List (Str × Addr)) (fp : List Addr) x, x ∈ xs → IV T (X.blk s H scope (compEnvC scope cl C X.env) fp) tg1 e1 (t.put x (wipeS ss (own.map (·.2)))) (g x))
    (hg1 : ∀ (s : Shared) (H : Hp) (C : Addr) (cl : List (Str × Addr)) (fp : List Addr), PG (X.blk s H scope (compEnvC scope cl C X.env) fp) tg1 (gOf X.K t1))
    (he : ∀ (s : Shared) (H : Hp) (C : Addr) (cl : List (Str × Addr)) (fp : List Addr) x, x ∈ xs → ∀ y ∈ g x, EV T (X.blk s H scope (compEnvC scope cl C X.env) fp) elt (t1.put y (wipeS (t.put x (wipeS ss (own.map (·.2)))) vs1)) (f x y))
    (hN : X.N.Nodup) (hfit : ∀ x ∈ xs, t.fits x = true) (hfit1 : ∀ x ∈ xs, ∀ y ∈ g x, t1.fits y = true) (hlen : (outs2 g f xs).length ≤ 100000) (hm : ∀ x ∈ xs, noMine (t.put x (wipeS ss (own.map (·.2)))) = true)
    (hv : own.map (·.2) ≠ [] := by decide) (hv1 : vs1 ≠ [] := by decide) (hsl : ∀ j ∈ t.slots, j ∈ own.map (·.2) := by decide) (hsl1 : ∀ j ∈ t1.slots, j ∈ vs1 := by decide) (hc : X.calm = true := by rfl) (hs : ∀ x, foldedSetIterable e X.env x = pure x := by intro _; rfl) (hs1 : ∀ env x, foldedSetIterable e1 env x = pure x := by intro _ _; rfl) :
    EV T X (.ListComp elt [⟨tg, e, [], 0⟩, ⟨tg1, e1, [], 0⟩] scope pos) ss (.lst (outs2 g f xs)) := by
  refine EV.of (pe_lc2 (vs1 := vs1) (wi1 := tIvF T X.K fun ss' ys => ∃ x ∈ xs, ss' = t.put x (wipeS ss (own.map (·.2))) ∧ ys = g x) (te := tEv T X.K fun ss' d => ∃ x ∈ xs, ∃ y ∈ g x, ss' = t1.put y (wipeS (t.put x (wipeS ss (own.map (·.2)))) vs1) ∧ d = f x y) hc hN hi ok hsub hg (fun s H C cl fp => pts_nil)
    (fun s H C cl fp => pi_fam (X := X.blk s H scope (compEnvC scope cl C X.env) fp) (Rl := fun ss' ys => ∃ x ∈ xs, ss' = t.put x (wipeS ss (own.map (·.2))) ∧ ys = g x) fun ss' ys ⟨x, hx, e1, e2⟩ => by rw [e1, e2]; exact hi1 s H C cl fp x hx) hg1 (fun s H C cl fp => pts_nil)
    (fun s H C cl fp => pe_fam (X := X.blk s H scope (compEnvC scope cl C X.env) fp) (Rl := fun ss' d => ∃ x ∈ xs, ∃ y ∈ g x, ss' = t1.put y (wipeS (t.put x (wipeS ss (own.map (·.2)))) vs1) ∧ d = f x y) fun ss' d ⟨x, hx, y, hy, e1, e2⟩ => by rw [e1, e2]; exact he s H C cl fp x hx y hy) hs hs1) fun B F H σ Q R q => ?_
  exact lc2_go hv hv1 hsl hsl1 hfit hfit1 hlen hm R (fun R0 k => ⟨B, F, R, k⟩) (fun x hx F' H' σ2 R1 n R3 hw k => ⟨B, F', _, g x, ⟨x, hx, rfl, rfl⟩, R3, k⟩) (Pv := fun _ => True) (fun x hx y hy F' H' σ3 Q1 R3 k => ⟨B, F', _, f x y, ⟨x, hx, y, hy, rfl, rfl⟩, R3, fun v F1 H1 n R i => k v F1 H1 n R i trivial⟩) fun D vs' F1 H1 n1 R1 f1 b1 h1 d1 i1 _ => by
    have n2 := n1.told f1 h1 d1
    exact q _ _ H1 n2 (R.grow n2) ⟨D, vs', rfl, upd_same, IsL.mono (Ext.upd f1) _ i1⟩
/-- y = [elt for tg in e for tg1 in e1] -/
theorem sv_lc2 {P : Post} {y : Str} {py spos : Pos} (j : Nat) (own : List (Str × Nat)) (vs1 : List Nat) (t t1 : Tg) (g : D → List D) (f : D → D → D) (hi : IV T X tg e ss xs) (ok : BlkOk X.N X.env.scope scope own) (hsub : ∀ i ∈ vs1, i ∈ own.map (·.2))
    (hg : ∀ (s : Shared) (H : Hp) (C : Addr) (cl : List (Str × Addr)) (fp : List Addr), PG (X.blk s H scope (compEnvC scope cl C X.env) fp) tg (gOf X.K t))
    (hi1 : ∀ (s : Shared) (H : Hp) (C : Addr) (cl : List (Str × Addr)) (fp : List Addr) x, x ∈ xs → IV T (X.blk s H scope (compEnvC scope cl C X.env) fp) tg1 e1 (t.put x (wipeS ss (own.map (·.2)))) (g x))
    (hg1 : ∀ (s : Shared) (H : Hp) (C : Addr) (cl : List (Str × Addr)) (fp : List Addr), PG (X.blk s H scope (compEnvC scope cl C X.env) fp) tg1 (gOf X.K t1))
    (he : ∀ (s : Shared) (H : Hp) (C : Addr) (cl : List (Str × Addr)) (fp : List Addr) x, x ∈ xs → ∀ y ∈ g x, EV T (X.blk s H scope (compEnvC scope cl C X.env) fp) elt (t1.put y (wipeS (t.put x (wipeS ss (own.map (·.2)))) vs1)) (f x y))
    (kk : P.nx (ss.set j (.d (.lst (outs2 g f xs))))) (hN : X.N.Nodup) (hfit : ∀ x ∈ xs, t.fits x = true) (hfit1 : ∀ x ∈ xs, ∀ y ∈ g x, t1.fits y = true) (hlen : (outs2 g f xs).length ≤ 100000) (hm : ∀ x ∈ xs, noMine (t.put x (wipeS ss (own.map (·.2)))) = true)
    (hsw : swapsWith (.ListComp elt [⟨tg, e, [], 0⟩, ⟨tg1, e1, [], 0⟩] scope pos) (some (.Name y py)) spos.line X.env = pure true) (hy : X.N[j]? = some y := by rfl) (hyl : X.env.scope.names.lookup y = some .local := by rfl)
    (hv : own.map (·.2) ≠ [] := by decide) (hv1 : vs1 ≠ [] := by decide) (hsl : ∀ j ∈ t.slots, j ∈ own.map (·.2) := by decide) (hsl1 : ∀ j ∈ t1.slots, j ∈ vs1 := by decide) (hc : X.calm = true := by rfl) (hs : ∀ x, foldedSetIterable e X.env x = pure x := by intro _; rfl) (hs1 : ∀ env x, foldedSetIterable e1 env x = pure x := by intro _ _; rfl) :
    SV T X (.Assign [.Name y py] (.ListComp elt [⟨tg, e, [], 0⟩, ⟨tg1, e1, [], 0⟩] scope pos) spos) ss P := by
  refine SV.of (ps_setLc2 (i := j) (vs1 := vs1) (wi1 := tIvF T X.K fun ss' ys => ∃ x ∈ xs, ss' = t.put x (wipeS ss (own.map (·.2))) ∧ ys = g x) (te := tEv T X.K fun ss' d => ∃ x ∈ xs, ∃ y ∈ g x, ss' = t1.put y (wipeS (t.put x (wipeS ss (own.map (·.2)))) vs1) ∧ d = f x y) hc hN hy hyl hsw hi ok hsub hg (fun s H C cl fp => pts_nil)
    (fun s H C cl fp => pi_fam (X := X.blk s H scope (compEnvC scope cl C X.env) fp) (Rl := fun ss' ys => ∃ x ∈ xs, ss' = t.put x (wipeS ss (own.map (·.2))) ∧ ys = g x) fun ss' ys ⟨x, hx, e1, e2⟩ => by rw [e1, e2]; exact hi1 s H C cl fp x hx) hg1 (fun s H C cl fp => pts_nil)
    (fun s H C cl fp => pe_fam (X := X.blk s H scope (compEnvC scope cl C X.env) fp) (Rl := fun ss' d => ∃ x ∈ xs, ∃ y ∈ g x, ss' = t1.put y (wipeS (t.put x (wipeS ss (own.map (·.2)))) vs1) ∧ d = f x y) fun ss' d ⟨x, hx, y, hy, e1, e2⟩ => by rw [e1, e2]; exact he s H C cl fp x hx y hy) hs hs1) fun B F H σ Dn R q => ?_
  refine lc2_go hv hv1 hsl hsl1 hfit hfit1 hlen hm R (fun R0 k => ⟨B, F, R, k⟩) (fun x hx F' H' σ2 R1 n R3 hw k => ⟨B, F', _, g x, ⟨x, hx, rfl, rfl⟩, R3, k⟩) (Pv := fun _ => True) (fun x hx y hy F' H' σ3 Q1 R3 k => ⟨B, F', _, f x y, ⟨x, hx, y, hy, rfl, rfl⟩, R3, fun v F1 H1 n R i => k v F1 H1 n R i trivial⟩) fun D vs' F1 H1 n1 R1 f1 b1 h1 d1 i1 _ => ?_
  have n2 := n1.told f1 h1 d1
  exact q.nx _ _ _ H1 kk ((R.grow n2).put ⟨D, vs', rfl, upd_same, IsL.mono (Ext.upd f1) _ i1⟩)
end
end Fd

set_option Elab.async false
set_option linter.all false
set_option maxRecDepth 100000
set_option maxHeartbeats 4000000
/-! K05h: tuples of small numbers. -/
namespace K05
open PySem PySem.Spec PyProof.Rows L2 Fd Tx
def stepN (found : List (List Int)) (top : Nat) : List (List Int) := found.flatMap fun s => (List.range (top + 1)).map fun n => s ++ [Int.ofNat n]
def smallF (tops : List Nat) : List (List Int) := tops.foldl stepN [[]]
def tupI (s : List Int) : D := .tup (s.map D.int)
def addT (x y : D) : D := match x with
  | .tup xs => .tup (xs ++ [y])
  | d => d
theorem step_len (found : List (List Int)) (top : Nat) : (stepN found top).length = found.length * (top + 1) := by
  unfold stepN
  induction found with
  | nil => simp
  | cons s l ih =>
    rw [List.flatMap_cons, List.length_append, ih, List.length_map, List.length_range, List.length_cons, Nat.add_mul, Nat.one_mul, Nat.add_comm]
theorem small_snoc (tops : List Nat) (t : Nat) : smallF (tops ++ [t]) = stepN (smallF tops) t := by unfold smallF; rw [List.foldl_append]; rfl
theorem small_len' : ∀ (tops : List Nat) (acc : List (List Int)), (∀ t ∈ tops, t ≤ 3) → (tops.foldl stepN acc).length ≤ acc.length * 4 ^ tops.length
  | [], acc, _ => by simp
  | t :: l, acc, h => by
    have ih := small_len' l (stepN acc t) fun x hx => h x (List.mem_cons_of_mem _ hx)
    have ht := h t List.mem_cons_self
    rw [step_len] at ih
    rw [List.foldl_cons, List.length_cons, Nat.pow_succ]
    refine Nat.le_trans ih ?_
    have : acc.length * (t + 1) * 4 ^ l.length ≤ acc.length * 4 * 4 ^ l.length := Nat.mul_le_mul_right _ (Nat.mul_le_mul_left _ (by omega))
    refine Nat.le_trans this ?_
    rw [Nat.mul_assoc, Nat.mul_comm 4]
    exact Nat.le_refl _
theorem small_len (tops : List Nat) (h : ∀ t ∈ tops, t ≤ 3) : (smallF tops).length ≤ 4 ^ tops.length := by
  have := small_len' tops [[]] h
  rw [List.length_singleton, Nat.one_mul] at this
  exact this
theorem small_each' : ∀ (tops : List Nat) (acc : List (List Int)) (n : Nat), (∀ s ∈ acc, s.length = n) → ∀ s ∈ tops.foldl stepN acc, s.length = n + tops.length
  | [], acc, n, h, s, hs => h s hs
  | t :: l, acc, n, h, s, hs => by
    have := small_each' l (stepN acc t) (n + 1) (fun s hs => by
      obtain ⟨r, hr, h2⟩ := List.mem_flatMap.mp hs
      obtain ⟨m, _, rfl⟩ := List.mem_map.mp h2
      rw [List.length_append, h r hr]; rfl) s hs
    rw [List.length_cons]; omega
theorem small_each (tops : List Nat) : ∀ s ∈ smallF tops, s.length = tops.length := fun s hs => by
  have h0 : ∀ s ∈ ([[]] : List (List Int)), s.length = 0 := fun s hs => by
    have e : s = [] := by simpa using hs
    rw [e]; rfl
  have := small_each' tops [[]] 0 h0 s hs
  omega
theorem step_outs (found : List (List Int)) (top : Nat) : outs2 (fun _ => rng 0 (top + 1)) addT (found.map tupI) = (stepN found top).map tupI := by
  unfold outs2 stepN rng
  rw [List.flatMap_map, List.map_flatMap]
  refine congrArg (List.flatMap · found) (funext fun s => ?_)
  rw [List.map_map, List.map_map]
  refine List.map_congr_left fun n _ => ?_
  show D.tup (s.map D.int ++ [D.int (0 + (n : Int))]) = D.tup ((s ++ [Int.ofNat n]).map D.int)
  rw [List.map_append, Int.zero_add]; rfl
def pSmall (ds : List D) (d : D) : Prop := ∃ (x : D) (tops : List Nat), ds = [x] ∧ seq? x = some (tops.map fun n => D.int (n : Nat)) ∧ tops.length ≤ 3 ∧ (∀ t ∈ tops, t ≤ 3) ∧ d = .lst ((smallF tops).map tupI)
theorem scSmall : FnScope ["tops", "found", "top", "shorter", "number"] ["tops"] (defScope sSmall) := ⟨rfl, rfl, rfl, by decide +kernel, rfl, by decide +kernel, by decide +kernel⟩
section
variable {T : List (Addr × Str)} {P : Program} {w : World} {K : PySem.W.Frag} {mg : Str → Option Value} {base : Heap} {f : Addr} {fd : FuncData}
theorem ok_small (F : Fun K "_small_numbers" "_small_numbers" sSmall f fd) (B : Fre mg) : FnOk P w K mg base CX0 1 f fd ["tops"] (spD T K 1 pSmall) := by
  refine fd_ok F scSmall rfl fun cdv A outer s H E ds d hr _ ⟨x, tops, e1, hq, hl, ht, e2⟩ => ?_
  subst e1; subst e2
  refine svs_cons (sv_set 1 (d := .lst ([[]].map tupI)) (ev_lst (evs_cons (ev_tup evs_nil) evs_nil)) ?_ scSmall.nd)
  refine svs_cons (sv_for (.one 2) (fun i ss => i ≤ tops.length ∧ ∃ s2, (s2 = .no ∨ ∃ d, s2 = .d d) ∧ ss = [.d x, .d (.lst ((smallF (tops.take i)).map tupI)), s2, .no, .no]) (iv_seq hq (ev_var 0 rfl)) (pg_name (i := 2) scSmall.nd rfl (Or.inr rfl)) ⟨Nat.zero_le _, .no, .inl rfl, rfl⟩ ?_ ?_)
  · rintro i y ss' hy ⟨hi, s2, _, rfl⟩
    obtain ⟨t, hn, rfl⟩ : ∃ t, tops[i]? = some t ∧ D.int (t : Nat) = y := by
      rw [List.getElem?_map] at hy
      exact Option.map_eq_some_iff.mp hy
    have hlt : i < tops.length := (List.getElem?_eq_some_iff.mp hn).1
    have ht3 := ht t (List.mem_of_getElem? hn)
    have hb := small_len (tops.take i) fun x hx => ht x (List.mem_of_mem_take hx)
    have hb2 : (smallF (tops.take i)).length ≤ 64 := Nat.le_trans hb (by rw [List.length_take]; exact Nat.le_trans (Nat.pow_le_pow_right (by decide) (show min i tops.length ≤ 3 by omega)) (by decide))
    refine ⟨rfl, svs_one (sv_lc2 1 [("shorter", 3), ("number", 4)] [4] (.one 3) (.one 4) (fun _ => rng 0 (t + 1)) addT (iv_list (ev_var 1 rfl)) (id (α := BlkOk ["tops", "found", "top", "shorter", "number"] (defScope sSmall) _ [("shorter", 3), ("number", 4)]) ⟨rfl, by decide +kernel, by decide +kernel, by decide +kernel, by decide +kernel⟩) (by decide)
      (fun s H C cl fp => pg_name (i := 3) scSmall.nd rfl (Or.inl rfl)) (fun s H C' cl fp y hy => ?_) (fun s H C cl fp => pg_name (i := 4) scSmall.nd rfl (Or.inl rfl)) (fun s H C' cl fp y hy z hz => ?_) ?_ scSmall.nd (fun _ _ => rfl) (fun _ _ _ _ => rfl) ?_ (fun y hy => ?_) rfl)⟩
    · exact (show (((t : Int) + 1).toNat = t + 1) by omega) ▸ iv_range1 (ev_add (ev_var 2 rfl) ev_int) (by omega) B.range
    · obtain ⟨s, hs, rfl⟩ := List.mem_map.mp hy
      have hsl := small_each _ s hs
      rw [List.length_take] at hsl
      exact ev_tup (evs_star (.inr (.inl rfl)) (ev_var 3 rfl) (evs_cons (ev_var 4 rfl) evs_nil)) (by rw [List.length_append, List.length_map, List.length_singleton]; omega)
    · refine ⟨hlt, .d (.int (t : Nat)), .inr ⟨_, rfl⟩, ?_⟩
      rw [step_outs, List.take_succ, hn]
      show _ = [_, S.d (.lst ((smallF (tops.take i ++ [t])).map tupI)), _, _, _]
      rw [small_snoc]; rfl
    · rw [step_outs, List.length_map, step_len]
      have := Nat.mul_le_mul hb2 (show t + 1 ≤ 4 by omega)
      omega
    · obtain ⟨s, _, rfl⟩ := List.mem_map.mp hy
      rfl
  · rintro ss' ⟨_, s2, _, rfl⟩
    rw [List.length_map, List.take_length]
    exact svs_one (sv_ret (ev_var 1 rfl) rfl)
end
end K05

set_option Elab.async false
set_option linter.all false
set_option maxRecDepth 100000
set_option maxHeartbeats 4000000
/-! K05i: the grid. -/
namespace K05
open PySem PySem.Spec PyProof.Rows L2 Fd Tx
def rowT (x : Str) (s : List Int) : D := .tup (.str x :: s.map D.int)
def gridF (ks : List Kd) (tp : Str → List Nat) : List D := ks.flatMap fun k => (smallF (tp k.1)).map (rowT k.1)
def consT (x y : D) : D := match y with
  | .tup xs => .tup (x :: xs)
  | d => d
def numsOf (tp : Str → List Nat) : D → List D
  | .str x => (smallF (tp x)).map tupI
  | _ => []
theorem grid_outs (ks : List Kd) (tp : Str → List Nat) : outs2 (numsOf tp) consT (ks.map fun k => D.str k.1) = gridF ks tp := by
  unfold outs2 gridF
  rw [List.flatMap_map]
  refine congrArg (List.flatMap · ks) (funext fun k => ?_)
  show ((smallF (tp k.1)).map tupI).map (consT (.str k.1)) = _
  rw [List.map_map]; rfl
theorem grid_len {ks : List Kd} {tp : Str → List Nat} (h : ∀ k ∈ ks, (tp k.1).length ≤ 3 ∧ ∀ t ∈ tp k.1, t ≤ 3) : (gridF ks tp).length ≤ 64 * ks.length := by
  unfold gridF
  induction ks with
  | nil => simp
  | cons k l ih =>
    rw [List.flatMap_cons, List.length_append, List.length_map, List.length_cons, Nat.mul_succ]
    have h1 := ih fun j hj => h j (List.mem_cons_of_mem _ hj)
    obtain ⟨h2, h3⟩ := h k List.mem_cons_self
    have h4 := small_len (tp k.1) h3
    have h5 : 4 ^ (tp k.1).length ≤ 64 := Nat.le_trans (Nat.pow_le_pow_right (by decide) h2) (by decide)
    omega
/-- data without dicts stay where dicts alone change -/
theorem ints_keep {K : PySem.W.Frag} {F G : Hp} : ∀ {s : List Int} {vs : List V}, IsL K F (s.map D.int) vs → IsL K G (s.map D.int) vs
  | [], _, h => h
  | z :: zs, _, h => by
    obtain ⟨v, r, e, h1, h2⟩ := h
    exact ⟨v, r, e, h1, ints_keep h2⟩
def NoDk (o : HO) : Prop := (∀ kvs, o ≠ .dK kvs) ∧ ∀ o' kvs, o ≠ .frz o' (.dK kvs)
theorem seqI_keep {K : PySem.W.Frag} {F G : Hp} (k : ∀ b o, F b = some o → NoDk o → G b = some o) {d : D} {s : List Int} {v : V} (hq : seq? d = some (s.map D.int)) (h : Is K F d v) : Is K G d v := by
  cases d with
  | lst ys =>
    cases hq
    obtain ⟨a, vs, e, h1, h2⟩ := h
    exact ⟨a, vs, e, k _ _ h1 ⟨fun _ z => (nomatch z), fun _ _ z => (nomatch z)⟩, ints_keep h2⟩
  | tup ys =>
    cases hq
    obtain ⟨a, vs, e, h1, h2⟩ := h
    refine ⟨a, vs, e, ?_, ints_keep h2⟩
    rcases h1 with (h1 | ⟨o, h1⟩) | h1
    · exact .inl (.inl (k _ _ h1 ⟨fun _ z => (nomatch z), fun _ _ z => (nomatch z)⟩))
    · exact .inl (.inr ⟨o, k _ _ h1 ⟨fun _ z => (nomatch z), fun _ _ z => (nomatch z)⟩⟩)
    · exact .inr h1
  | _ => cases hq
theorem row_keep {K : PySem.W.Frag} {F G : Hp} (k : ∀ b o, F b = some o → NoDk o → G b = some o) {x : Str} {s : List Int} {v : V} (h : Is K F (rowT x s) v) : Is K G (rowT x s) v := by
  obtain ⟨a, vs, e, h1, h2⟩ := h
  refine ⟨a, vs, e, ?_, ?_⟩
  · rcases h1 with (h1 | ⟨o, h1⟩) | h1
    · exact .inl (.inl (k _ _ h1 ⟨fun _ z => (nomatch z), fun _ _ z => (nomatch z)⟩))
    · exact .inl (.inr ⟨o, k _ _ h1 ⟨fun _ z => (nomatch z), fun _ _ z => (nomatch z)⟩⟩)
    · exact .inr h1
  · obtain ⟨v', r, e', h3, h4⟩ := h2
    exact ⟨v', r, e', h3, ints_keep h4⟩
theorem rows_keep {K : PySem.W.Frag} {F G : Hp} (k : ∀ b o, F b = some o → NoDk o → G b = some o) : ∀ {ds : List D} {vs : List V}, (∀ d ∈ ds, ∃ x s, d = rowT x s) → IsL K F ds vs → IsL K G ds vs
  | [], _, _, h => h
  | d :: ds, _, hd, h => by
    obtain ⟨v, r, e, h1, h2⟩ := h
    obtain ⟨x, s, rfl⟩ := hd d List.mem_cons_self
    exact ⟨v, r, e, row_keep k h1, rows_keep k (fun y hy => hd y (List.mem_cons_of_mem _ hy)) h2⟩
theorem grid_rows {ks : List Kd} {tp : Str → List Nat} : ∀ d ∈ gridF ks tp, ∃ x s, d = rowT x s := fun d hd => by
  obtain ⟨k, _, h⟩ := List.mem_flatMap.mp hd
  obtain ⟨s, _, rfl⟩ := List.mem_map.mp h
  exact ⟨_, _, rfl⟩
/-- powers, as data: a list or a tuple for each kind -/
structure Pw (ks : List Kd) (pks : List Key) (pxs : List D) (tp : Str → List Nat) : Prop where
  at_ : ∀ k ∈ ks, ∃ dv, look pks pxs (Sum.inr k.1) = some dv ∧ seq? dv = some ((tp k.1).map fun n => D.int (n : Nat))
  le : ∀ k ∈ ks, (tp k.1).length ≤ 3 ∧ ∀ t ∈ tp k.1, t ≤ 3
def pGrid (C : Addr) (ds : List D) (d : D) : Prop := ∃ ks pks pxs tp, ds = [rowsD C ks, .dct pks pxs] ∧ Pw ks pks pxs tp ∧ ks.length ≤ 10 ∧ d = .lst (gridF ks tp)
theorem scGrid : FnScope ["self", "powers", "kind", "numbers"] ["self", "powers"] (defScope sGrid) := ⟨rfl, rfl, rfl, by decide +kernel, rfl, by decide +kernel, by decide +kernel⟩
def bare : SS := [.no, .no, .no, .no]
theorem bare_no {i : Nat} {s : Fd.S} (h : bare[i]? = some s) : s = .no := by
  match i, h with
  | 0, h => cases h; rfl
  | 1, h => cases h; rfl
  | 2, h => cases h; rfl
  | 3, h => cases h; rfl
  | n + 4, h => simp [bare] at h
theorem str_bare {T : List (Addr × Str)} {K : PySem.W.Frag} {F H : Hp} {σ : L2.St} (hl : σ.length = 4) (x : Ext F H) (nt : ∀ p ps, F p ≠ some (.tbl ps)) (tb : LamX.Tabs T H) : StR T K (F, H) F H σ bare where
  len := hl
  bF := fun _ _ h => h
  bH := .refl H
  sub := x
  nt := nt
  tb := tb
  new := fun p o e => .inl (by show F p ≠ none; rw [e]; exact fun z => nomatch z)
  slots := fun i s o e _ => by rw [bare_no e]; exact True.intro
  own := fun i s p e m _ => by rw [bare_no e] at m; cases m
  dis := fun i j s t p e _ m _ _ _ => by rw [bare_no e] at m; cases m
end K05

set_option Elab.async false
set_option linter.all false
set_option maxRecDepth 100000
set_option maxHeartbeats 4000000
/-! Fd36: a new list of data is told; a list of one's own, read in a test as data. -/
namespace Fd
open PySem PySem.Spec PyProof.Rows L2
/-- p is a list of the data xs that stood nowhere -/
structure NewD (K : PySem.W.Frag) (F H F1 H1 : Hp) (xs : List D) (p : Addr) (vs : List V) : Prop where
  f0 : F p = none
  fr : Fr H p
  no : F1 p = none
  is : H1 p = some (.lst vs)
  dt : IsL K F1 xs vs
def EVD (T : List (Addr × Str)) (X : Cx) (e : Expr) (ss : SS) (xs : List D) : Prop := ∃ te, PE X e te ∧ ∀ B F H σ Q, StR T X.K B F H σ ss → (∀ p vs F1 H1, Nx T F H F1 H1 → StR T X.K B F1 H1 σ ss → NewD X.K F H F1 H1 xs p vs → Q (.ref p) H1) → te σ H Q
def RFd (T : List (Addr × Str)) (X : Cx) (sts : List Stmt) (ss : SS) (xs : List D) : Prop := ∃ t, PSs X sts t ∧ ∀ B F H σ Dn, StR T X.K B F H σ ss → (∀ p vs F1 H1, Nx T B.1 B.2 F1 H1 → NewD X.K B.1 B.2 F1 H1 xs p vs → Dn.rt (.ref p) H1) → t Dn σ H
def spN1 (T : List (Addr × Str)) (K : PySem.W.Frag) (n : Nat) (pre : List D → List D → Prop) : Sp := fun vs H Q _ => ∃ F ds xs, Ext F H ∧ (∀ p ps, F p ≠ some (.tbl ps)) ∧ LamX.Tabs T H ∧ IsL K F ds vs ∧ ds.length = n ∧ pre ds xs ∧ ∀ p us F1 H1, Nx T F H F1 H1 → NewD K F H F1 H1 xs p us → Q (.ref p) H1
structure OwnN1 (T : List (Addr × Str)) (P : Program) (w : World) (K : PySem.W.Frag) (mg : Str → Option Value) (base : Heap) (C : Addr) (m : Str) (n k : Nat) (pre : List D → List D → Prop) (f : Addr) : Prop where
  at_ : PySem.W.findIn K (.ref C) m = some (some (.ref f))
  fn : PySem.W.isFn K (.ref f) = true
  kp : PySem.W.keepIn K (.ref f) = true
  ok : ∃ fd ps, Binds K fd ps [] ∧ ps.length = n ∧ FnOk P w K mg base CX0 k f fd ps (spN1 T K n pre)
theorem NewD.told {T : List (Addr × Str)} {K : PySem.W.Frag} {F H F1 H1 : Hp} {xs : List D} {p : Addr} {vs : List V} (n : Nx T F H F1 H1) (h : NewD K F H F1 H1 xs p vs) : Nx T F H (upd F1 p (.lst vs)) H1 ∧ Is K (upd F1 p (.lst vs)) (.lst xs) (.ref p) :=
  ⟨n.told h.no h.fr h.is, p, vs, rfl, upd_same, IsL.mono (Ext.upd h.no) _ h.dt⟩
theorem spN1_data {T : List (Addr × Str)} {K : PySem.W.Frag} {n : Nat} {pre : List D → List D → Prop} {vs : List V} {H : Hp} {Q : VK} {E : XK} (h : spD T K n (fun ds d => ∃ xs, pre ds xs ∧ d = .lst xs) vs H Q E) : spN1 T K n pre vs H Q E := by
  obtain ⟨F, ds, d, x, nt, tb, i, l, ⟨xs, hp, rfl⟩, q⟩ := h
  exact ⟨F, ds, xs, x, nt, tb, i, l, hp, fun p us F1 H1 n1 nd => q _ _ H1 (NewD.told n1 nd).1 (NewD.told n1 nd).2⟩
section
variable {T : List (Addr × Str)} {X : Cx} {ss : SS} {e o : Expr} {es : List Expr} {ds xs ys : List D} {n k : Nat} {m : Str} {pos apos : Pos} {C : Addr} {ns : List Str} {P : Post}
/-- o.m(..) tells a new list -/
theorem evd_meth {pl : Sem Bool} {pre : List D → List D → Prop} {f : Addr} (he : EV T X o ss (.ins C ns ys)) (cl : Cls X.K C) (M : OwnN1 T X.prog X.w X.K X.mg X.base C m n k pre f) (hr : Room k X.A)
    (ha : EVs T X (e :: es) ss ds) (hp : pre (.ins C ns ys :: ds) xs) (hmn : m ∉ ns) (hn : (D.ins C ns ys :: ds).length = n := by rfl)
    (hst : starEach (e :: es) X.env = (false, eval e X.env) :: starEach es X.env := by rfl) (hpl : (backTo pos (starEach es X.env)).any (·.1) = false := by rfl)
    (ht : eval (.Call (.Attribute o m apos) (e :: es) [] pos) X.env = (do
      let ov ← eval o X.env; standAt apos.atName; let (f, first) ← holding [ov] (getMethod ov m pl); callWith pos f first (backTo pos (starEach (e :: es) X.env)) (backToKw pos (keywordEach [] X.env))) := by rfl) :
    EVD T X (.Call (.Attribute o m apos) (e :: es) [] pos) ss xs := by
  obtain ⟨fd, ps, hb, hps, G⟩ := M.ok
  refine ⟨_, pe_meth (E := E0) he cl ⟨M.at_, M.fn, M.kp⟩ G hr hb .nil pass0 ha hst hpl ht, fun B F H σ Q R q => ev_go R fun v F1 H1 n1 R1 i1 => ?_⟩
  obtain ⟨y, dx, fs, rfl, e1, e2, e3⟩ := id i1
  refine ⟨y, dx, fs, rfl, R1.sub _ _ e1, no_lookup (by rw [e2]; exact hmn), evs_go R1 fun vs F2 H2 n2 R2 i2 => ?_⟩
  rw [List.append_nil]
  have back : ∀ {p : Addr}, F2 p = none → F p = none := fun {p} h => by
    cases e : F p with
    | none => rfl
    | some u => rw [n2.f _ _ (n1.f _ _ e)] at h; cases h
  exact ⟨F2, _, xs, R2.sub, R2.nt, R2.tb, IsL.cons (Is.mono n2.f _ i1) i2, hn, hp, fun p us F3 H3 n3 nd => q p us F3 H3 ((n1.trans n2).trans n3) (R2.grow n3) ⟨back nd.f0, n1.h.fr (n2.h.fr nd.fr), nd.no, nd.is, nd.dt⟩⟩
/-- x = e, e a new list: one's own -/
theorem sv_setD (i : Nat) {x : Str} {px : Pos} (he : EVD T X e ss xs) (kk : P.nx (ss.set i (.own xs))) (hN : X.N.Nodup) (hi : X.N[i]? = some x := by rfl) (hx : Loc X.env.scope x := by first | exact Or.inl rfl | exact Or.inr rfl)
    (hs : swapsWith e (some (.Name x px)) pos.line X.env = pure false := by rfl) (hf : X.fn x = true ∨ X.env.scope.names.lookup x = some .local := by first | exact .inl rfl | exact .inr rfl | assumption) : SV T X (.Assign [.Name x px] e pos) ss P := by
  obtain ⟨te, hp, hk⟩ := he
  refine SV.of (ps_set hN hi hx hp hs hf) fun B F H σ Dn R g => hk B F H σ _ R fun p vs F1 H1 n1 R1 nd => ?_
  refine g.nx _ _ F1 H1 kk (R1.putOwn rfl ⟨p, vs, rfl, nd.no, nd.is, nd.dt⟩ (R.base_fr nd.fr) fun l t' _ e1 e2 z => ?_)
  obtain ⟨p', w1, w2, w3⟩ := R.mine_at e1 e2
  rw [z] at w1
  cases w1
  cases hH : H p with
  | none => exact w3 hH
  | some o' =>
    obtain ⟨ps, rfl⟩ := nd.fr o' hH
    exact R.plain e1 e2 z _ hH (.inl ⟨ps, rfl⟩)
/-- the heap grew while p was lent to the data -/
theorem Nx.back {F H F1 H1 : Hp} {p : Addr} {vs : List V} (h0 : F p = none) (n : Nx T (upd F p (.lst vs)) H F1 H1) : Nx T F H (fun b => if b = p then none else F1 b) H1 :=
  ⟨fun b o e => by
    have z : b ≠ p := fun z => by rw [z, h0] at e; cases e
    show (if b = p then none else F1 b) = some o
    rw [if_neg z]; exact n.f b o (by rw [upd_ne z]; exact e), n.h, fun b o e => by
    have e : (if b = p then none else F1 b) = some o := e
    by_cases z : b = p
    · rw [if_pos z] at e; cases e
    · rw [if_neg z] at e; exact n.s b o e, fun q ps e => by
    have e : (if q = p then none else F1 q) = some _ := e
    by_cases z : q = p
    · rw [if_pos z] at e; cases e
    · rw [if_neg z] at e
      have := n.nt q ps e
      rw [upd_ne z] at this; exact this, fun q o e => by
    have e : (if q = p then none else F1 q) = some o := e
    by_cases z : q = p
    · rw [if_pos z] at e; cases e
    · rw [if_neg z] at e
      have := n.n q o e
      rw [upd_ne z] at this; exact this⟩
theorem StR.freezeAt {B : Hp × Hp} {F H : Hp} {σ : L2.St} {K : PySem.W.Frag} {i : Nat} {xs : List D} {p : Addr} {vs : List V} (R : StR T K B F H σ ss) (h : ss[i]? = some (.own xs)) (hσ : σ[i]? = some (some (.ref p))) (e1 : F p = none) (e2 : H p = some (.lst vs)) (hx : IsL K F xs vs) : StR T K B (upd F p (.lst vs)) H σ (ss.set i (.d (.lst xs))) := by
  have hi : i < ss.length := (List.getElem?_eq_some_iff.mp h).1
  have hB := R.own i _ p h rfl hσ
  have xF : Ext F (upd F p (.lst vs)) := Ext.upd e1
  refine ⟨by simp [R.len], R.bF.trans xF, R.bH, fun q u z => ?_, fun q ps z => ?_, R.tb, fun q u z => ?_, fun j s o z1 z2 => ?_, fun j s q z1 m z2 => ?_, fun j k s t q z1 z2 m1 m2 z3 z4 => ?_⟩
  · by_cases hq : q = p
    · subst hq; rw [upd_same] at z; rw [e2]; exact z
    · rw [upd_ne hq] at z; exact R.sub q u z
  · by_cases hq : q = p
    · subst hq; rw [upd_same] at z; cases z
    · rw [upd_ne hq] at z; exact R.nt q ps z
  · by_cases hq : q = p
    · subst hq; exact .inr (.inl hB)
    · rw [upd_ne hq] at z; exact R.new q u z
  · rcases set_get z1 with ⟨q, rfl⟩ | ⟨q, z1⟩
    · subst q
      rw [hσ] at z2
      cases z2
      exact ⟨.ref p, rfl, p, vs, rfl, upd_same, IsL.mono xF _ hx⟩
    · have w := R.slots j s o z1 z2
      have ne : ∀ {p' : Addr}, s.mine = true → o = some (.ref p') → p' ≠ p := fun {p'} m e' z => q (R.dis i j _ s p h z1 rfl m hσ (by rw [z2, e', z]))
      cases s with
      | no => exact True.intro
      | d x => obtain ⟨v, w1, w2⟩ := w; exact ⟨v, w1, Is.mono xF x w2⟩
      | own ys => obtain ⟨p', us, w1, w2, w3, w4⟩ := w; exact ⟨p', us, w1, by rw [upd_ne (ne rfl w1)]; exact w2, w3, IsL.mono xF _ w4⟩
      | obj p' C ns ys => obtain ⟨dx, fs, w1, w2, w3, w4, w5⟩ := w; exact ⟨dx, fs, w1, by rw [upd_ne (ne rfl w1)]; exact w2, w3, w4, IsL.mono xF _ w5⟩
      | dic ks ys => obtain ⟨p', kvs, w1, w2, w3, w4, w5⟩ := w; exact ⟨p', kvs, w1, by rw [upd_ne (ne rfl w1)]; exact w2, w3, w4, IsL.mono xF _ w5⟩
      | dicT ks ys => obtain ⟨p', kvs, w1, w2, w3, w4, w5⟩ := w; exact ⟨p', kvs, w1, by rw [upd_ne (ne rfl w1)]; exact w2, w3, w4, IsL.mono xF _ w5⟩
  · rcases set_get z1 with ⟨_, rfl⟩ | ⟨_, z1⟩
    · cases m
    · exact R.own j s q z1 m z2
  · rcases set_get z1 with ⟨_, rfl⟩ | ⟨_, z1⟩
    · cases m1
    · rcases set_get z2 with ⟨_, rfl⟩ | ⟨_, z2⟩
      · cases m2
      · exact R.dis j k s t q z1 z2 m1 m2 z3 z4
/-- a test reads a list of one's own as data -/
theorem tv_lend (i : Nat) {c : Expr} {b : Bool} (hx : ss[i]? = some (.own xs)) (h : TV T X c (ss.set i (.d (.lst xs))) b) : TV T X c ss b := by
  refine PT.imp h fun σ H Q ⟨B, F, ss', b', ⟨e1, e2⟩, R, q⟩ => ?_
  subst e1; subst e2
  have hi : i < ss'.length := (List.getElem?_eq_some_iff.mp hx).1
  have hs : i < σ.length := by rw [R.len]; exact hi
  obtain ⟨p, vs, e, f0, h0, hd⟩ := R.slots i _ _ hx (List.getElem?_eq_getElem hs)
  have hσ : σ[i]? = some (some (.ref p)) := by rw [List.getElem?_eq_getElem hs, e]
  exact ⟨B, upd F p (.lst vs), _, _, ⟨rfl, rfl⟩, R.freezeAt hx hσ f0 h0 hd, fun F1 H1 n1 R1 => q _ H1 (Nx.back f0 n1) (R.grow (Nx.back f0 n1))⟩
end
section
variable {T : List (Addr × Str)} {P : Program} {w : World} {K : PySem.W.Frag} {mg : Str → Option Value} {base : Heap}
theorem fnd_ok {x qual : Str} {st : Stmt} {f : Addr} {fd : FuncData} {N ps : List Str} {k n : Nat} {pre : List D → List D → Prop} (F : Fun K x qual st f fd) (S : FnScope N ps (defScope st)) (hn : ps.length = n)
    (h : ∀ (cdv : Value) (A : Around) (outer : List Env) (s : Shared) (H : Hp) (E : XK) (ds xs : List D), Room k (A.deeper (envOfC qual (defScope st) s.heap.objs.size f cdv)) → ds.length = n → pre ds xs →
      RFd T (bodyX CX0 P w K mg base N qual st f cdv A outer s H E) (defBody st) (startS N ds) xs) : FnOk P w K mg base CX0 (k + 1) f fd ps (spN1 T K n pre) := by
  refine F.ok S (fun vs H Q E ⟨F, ds, us, _, _, _, i, l, _⟩ => by rw [i.length, l, hn]) (fun cdv A outer s H vs Q E hr hsp => ?_)
  obtain ⟨F0, ds, xs, x, nt, tb, i, l, p, q⟩ := hsp
  obtain ⟨t, hp, hk⟩ := h cdv A outer s H E ds xs hr l p
  exact ⟨t, hp, hk (F0, H) F0 H _ _ (start_str x nt tb i) fun p us F1 H1 n1 nd => q p us F1 H1 n1 nd⟩
end
end Fd

set_option Elab.async false
set_option linter.all false
set_option maxRecDepth 100000
set_option maxHeartbeats 4000000
/-! K05j: grid, the dict walked while it is looked up. -/
namespace K05
open PySem PySem.Spec PyProof.Rows L2 Fd Tx
theorem itk_yl {T : List (Addr × Str)} {K : PySem.W.Frag} {F1 : Hp} {d : Addr} {od : Obj} {kvs : List (Key × V)} {ks : List Kd} (h1 : F1 d = some (.frz od (.dK kvs))) (h2 : kvs.map (·.1) = tabKs ks) : Yl T K (Itk d od kvs) F1 (ks.map fun k => D.str k.1) := by
  have hl : kvs.length = ks.length := by
    have := congrArg List.length h2
    unfold tabKs at this
    rwa [List.length_map, List.length_map] at this
  refine ⟨fun i F H x1 x2 hi => ?_, fun F H x1 x2 => ⟨x2 _ _ (x1 _ _ h1), by rw [List.length_map, hl]; exact Nat.le_refl _⟩⟩
  rw [List.length_map] at hi
  refine ⟨⟨x2 _ _ (x1 _ _ h1), by omega⟩, fun x H' y => ?_⟩
  obtain ⟨rfl, k, v, hk, rfl⟩ := y
  have e : (kvs.map (·.1))[i]? = some k := by rw [List.getElem?_map, hk]; rfl
  rw [h2] at e
  unfold tabKs at e
  rw [List.getElem?_map, List.getElem?_eq_getElem hi] at e
  cases e
  exact ⟨F, .str ks[i].1, Nx.refl x2, by rw [List.getElem?_map, List.getElem?_eq_getElem hi]; rfl, rfl⟩
theorem itl_yl {T : List (Addr × Str)} {K : PySem.W.Frag} {F1 : Hp} {a : Addr} {vs : List V} {xs : List D} (e2 : F1 a = some (.lst vs)) (e3 : IsL K F1 xs vs) : Yl T K (Itl K a) F1 xs := by
  refine ⟨fun i F H x1 x2 hi => ?_, fun F H x1 x2 => ⟨vs, SqL.of (x2 _ _ (x1 _ _ e2)), by rw [e3.length]; exact Nat.le_refl _⟩⟩
  obtain ⟨v, hv, iv⟩ := IsL.get' e3 (List.getElem?_eq_getElem hi)
  refine ⟨⟨vs, v, SqL.of (x2 _ _ (x1 _ _ e2)), hv⟩, fun x H' y => ?_⟩
  obtain ⟨rfl, y⟩ := y
  have := y vs (SqL.of (x2 _ _ (x1 _ _ e2)))
  rw [hv] at this
  cases this
  exact ⟨F, _, Nx.refl x2, List.getElem?_eq_getElem hi, Is.mono x1 _ iv⟩
theorem one_fld {fs : List (Str × V)} {K : PySem.W.Frag} {F : Hp} {x : D} (h1 : fs.map (·.1) = rowsN) (h2 : IsL K F [x] (fs.map (·.2))) : ∃ v, fs = [(("_table" : Str), v)] ∧ Is K F x v := by
  match fs, h1, h2 with
  | [], h1, _ => exact absurd (congrArg List.length h1) (by simp [rowsN])
  | [(n, v)], h1, h2 =>
    obtain ⟨v', r, e, i, _⟩ := h2
    obtain ⟨e1, _⟩ := List.cons.inj e
    obtain ⟨e2, _⟩ := List.cons.inj h1
    subst e1
    exact ⟨v, by rw [show n = ("_table" : Str) from e2], i⟩
  | _ :: _ :: _, h1, _ => exact absurd (congrArg List.length h1) (by simp [rowsN])
section
variable {T : List (Addr × Str)} {P : Program} {w : World} {K : PySem.W.Frag} {mg : Str → Option Value} {base : Heap} {C f : Addr} {fd : FuncData}
def pGridL (C : Addr) (ds xs : List D) : Prop := ∃ ks pks pxs tp, ds = [rowsD C ks, .dct pks pxs] ∧ Pw ks pks pxs tp ∧ ks.length ≤ 10 ∧ xs = gridF ks tp
theorem ok_gridN (Fn : Fun K "grid" "Rows.grid" sGrid f fd) (R : Rt K mg C) (G : FD T P w K mg base "_small_numbers" 1 1 pSmall) : FnOk P w K mg base CX0 2 f fd ["self", "powers"] (spN1 T K 2 (pGridL C)) := by
  refine fnd_ok Fn scGrid rfl fun cdv A outer s H E ds xs hr _ ⟨ks, pks, pxs, tp, e1, hP, hk10, e2⟩ => ?_
  subst e1; subst e2
  obtain ⟨f2, fd2, ps2, q1, q2, q3, q4, q5⟩ := G
  refine ⟨_, pss_one (ps_ret (pe_lock (pe_lc2 (own := [("kind", 2), ("numbers", 3)]) (vs1 := [3]) (wi := iKeys (tFld K (tVar 0) "_table")) (wi1 := iList K (tCall (spD T K 1 pSmall) [] E0 (tCons (tDGet (tVar 1) (tVar 2)) tNil))) (g := gOf K (.one 2)) (g1 := gOf K (.one 3)) (tt := tYes) (tt1 := tYes)
    (te := tEv T K fun ss' d => ∃ x ∈ ks.map (fun k => D.str k.1), ∃ y ∈ numsOf tp x, ss' = (Tg.one 3).put y (wipeS ((Tg.one 2).put x (wipeS bare [2, 3])) [3]) ∧ d = consT x y) ?c1 ?c2 ?o ?b ?c3 ?g1 (fun s H C cl fp => pts_nil) ?i1 ?g2 (fun s H C cl fp => pts_nil) ?el ?c4 ?c5))), fun B F H σ Dn R0 g => ?main⟩
  case c1 => rfl
  case c2 => exact scGrid.nd
  case o => exact pi_keys (pe_fld (pv 0) rfl)
  case b => exact (id (α := BlkOk ["self", "powers", "kind", "numbers"] (defScope sGrid) _ [("kind", 2), ("numbers", 3)]) ⟨rfl, by decide +kernel, by decide +kernel, by decide +kernel, by decide +kernel⟩)
  case c3 => decide
  case g1 => exact fun s H C cl fp => pg_name (i := 2) scGrid.nd rfl (Or.inl rfl)
  case g2 => exact fun s H C cl fp => pg_name (i := 3) scGrid.nd rfl (Or.inl rfl)
  case i1 =>
    intro s H C' cl fp
    exact pi_list (pe_call q5 (hr.mono (by decide)) rfl q1 q2 q3 .nil pass0 (pa_cons (pe_dget (by have h := hr.units; show (A.deeper _).units + 1 < cLine; omega) (pv 1) (pv 2) (fun _ _ => rfl)) pa_nil))
  case c4 => exact fun _ => rfl
  case c5 => exact fun _ _ => rfl
  case el =>
    intro s H C' cl fp
    refine pe_fam (T := T) (Rl := fun ss' d => ∃ x ∈ ks.map (fun k => D.str k.1), ∃ y ∈ numsOf tp x, ss' = (Tg.one 3).put y (wipeS ((Tg.one 2).put x (wipeS bare [2, 3])) [3]) ∧ d = consT x y) fun ss' d ⟨x, hx, y, hy, e1, e2⟩ => ?_
    obtain ⟨k, hk, rfl⟩ := List.mem_map.mp hx
    obtain ⟨s, hs, rfl⟩ := List.mem_map.mp hy
    rw [e1, e2]
    have h1 := small_each _ s hs
    have h2 := (hP.le k hk).1
    refine EV.cast (ev_tup (ds := .str k.1 :: (s.map D.int ++ [])) (evs_cons (ev_var 2 rfl) (evs_star (.inr (.inl rfl)) (ev_var 3 rfl) evs_nil)) (by rw [List.length_cons, List.length_append, List.length_map, List.length_nil]; omega)) ?_
    rw [List.append_nil]; rfl
  have ln : σ.length = 4 := R0.len
  obtain ⟨v0, s0, i0⟩ := R0.get (i := 0) (x := rowsD C ks) rfl
  obtain ⟨a, dx, fs, rfl, a1, a2, a3⟩ := i0
  obtain ⟨vt, rfl, i3⟩ := one_fld a2 a3
  obtain ⟨d, kvs, rfl, d1, d2, d3⟩ := i3
  obtain ⟨v1, s1, i1⟩ := R0.get (i := 1) (x := .dct pks pxs) rfl
  obtain ⟨p2, kvs2, rfl, p1, p3, p4⟩ := i1
  have had : a ≠ d := fun z => by rw [z, d1] at a1; cases a1
  refine ⟨d, .dK kvs, R0.sub _ _ d1, True.intro, fun od => ?_⟩
  have fl : (upd F d (.frz od (.dK kvs))) d = some (.frz od (.dK kvs)) := upd_same
  have hl : (upd H d (.frz od (.dK kvs))) d = some (.frz od (.dK kvs)) := upd_same
  have xl : Ext (upd F d (.frz od (.dK kvs))) (upd H d (.frz od (.dK kvs))) := fun b o e => by
    by_cases z : b = d
    · subst z; rw [upd_same] at e ⊢; exact e
    · rw [upd_ne z] at e ⊢; exact R0.sub _ _ e
  have ntl : ∀ p ps, (upd F d (.frz od (.dK kvs))) p ≠ some (.tbl ps) := fun p ps e => by
    by_cases z : p = d
    · subst z; rw [upd_same] at e; cases e
    · rw [upd_ne z] at e; exact R0.nt p ps e
  have tbl : LamX.Tabs T (upd H d (.frz od (.dK kvs))) := tabs_upd R0.tb fun o' e z => by
    rw [R0.sub _ _ d1] at e; cases e
    rcases z with ⟨_, z⟩ | ⟨_, _, z⟩ <;> cases z
  have Rl := str_bare (K := K) ln xl ntl tbl
  refine lc2_go (vs := [2, 3]) (vs1 := [3]) (t := .one 2) (t1 := .one 3) (g := numsOf tp) (f := consT) (Pv := fun _ => True) (by decide) (by decide) (by decide) (by decide) (fun _ _ => rfl) (fun _ _ _ _ => rfl) ?_ (fun x hx => ?_) Rl (fun R1 k => ?_) (fun x hx F' H' σ2 R1 n R3 hw k => ?_) (fun x hx y hy F' H' σ3 Q1 R3 k => ⟨(_, _), F', _, consT x y, ⟨x, hx, y, hy, rfl, rfl⟩, R3, fun v F1 H1 n R i => k v F1 H1 n R i trivial⟩) fun D vs' F1 H1 n1 R1 f1 b1 h1 d1' i1 _ => ?_
  · rw [grid_outs]
    have := grid_len (ks := ks) (tp := tp) hP.le
    omega
  · obtain ⟨k, _, rfl⟩ := List.mem_map.mp hx
    rfl
  · refine ⟨.ref a, s0, a, C, dx, [(("_table" : Str), .ref d)], .ref d, rfl, ?_, R.ik.cl, R.nt, rfl, d, od, rfl, .inl ⟨kvs, hl, k (Itk d od kvs) _ _ (Nx.refl xl) Rl (itk_yl fl d2)⟩⟩
    rw [upd_ne had]; exact R0.sub _ _ a1
  · obtain ⟨kd, hkd, rfl⟩ := List.mem_map.mp hx
    obtain ⟨dv, hl1, hq⟩ := hP.at_ kd hkd
    obtain ⟨le1, le2⟩ := hP.le kd hkd
    have t1 : σ2[1]? = some (some (.ref p2)) := by
      have h : (L2.wipe σ2 [2, 3])[1]? = (L2.wipe σ [2, 3])[1]? := by rw [hw]
      rw [show (L2.wipe σ2 [2, 3])[1]? = σ2[1]? by show ((σ2.set 3 none).set 2 none)[1]? = _; rw [List.getElem?_set_ne (by decide), List.getElem?_set_ne (by decide)], show (L2.wipe σ [2, 3])[1]? = σ[1]? by show ((σ.set 3 none).set 2 none)[1]? = _; rw [List.getElem?_set_ne (by decide), List.getElem?_set_ne (by decide)]] at h
      rw [h]; exact s1
    obtain ⟨v2, t2, i2⟩ := R3.get (i := 2) (x := .str kd.1) rfl
    obtain rfl := i2
    rcases look_ok (Sum.inr kd.1 : Key) p3 p4 with ⟨w1, _⟩ | ⟨d', v, w1, w2, w3, _⟩
    · rw [w1] at hl1; cases hl1
    · rw [hl1] at w1; cases w1
      have hd' : H' d = some (.frz od (.dK kvs)) := n.h.k _ _ hl fun _ z => (nomatch z)
      refine ⟨.ref p2, t1, .str kd.1, t2, p2, v, rfl, .inl ⟨kvs2, Sum.inr kd.1, ?_, rfl, w2.symm⟩, ?_⟩
      · by_cases z : p2 = d
        · subst z
          rw [d1] at p1; cases p1
          exact .inr ⟨od, hd'⟩
        · exact .inl (n.h.k _ _ (by rw [upd_ne z]; exact R0.sub _ _ p1) fun _ z => (nomatch z))
      · have kp : ∀ b o, F b = some o → NoDk o → F' b = some o := fun b o e nd => n.f _ _ (by
          have z : b ≠ d := fun z => by rw [z, d1] at e; cases e; exact nd.1 _ rfl
          rw [upd_ne z]; exact e)
        have hq' : seq? dv = some (((tp kd.1).map Int.ofNat).map D.int) := by rw [hq, List.map_map]; rfl
        refine ⟨F', [dv], .lst ((smallF (tp kd.1)).map tupI), R3.sub, R3.nt, R3.tb, .cons (seqI_keep kp hq' w3) .nil, rfl, ⟨dv, tp kd.1, rfl, hq, le1, le2, rfl⟩, fun v3 F3 H3 n3 i3 => ?_⟩
        obtain ⟨a3, us, rfl, l1, l2⟩ := i3
        exact ⟨a3, rfl, ⟨us, SqL.of (n3.s _ _ l1)⟩, k (Itl K a3) F3 H3 n3 (R3.grow n3) (itl_yl l1 l2)⟩
  · have f1d : F1 d = some (.frz od (.dK kvs)) := n1.f _ _ fl
    have h1d : H1 d = some (.frz od (.dK kvs)) := n1.s _ _ f1d
    have hDd : D ≠ d := fun z => by rw [z, f1d] at f1; cases f1
    refine ⟨h1d, ?_⟩
    have Fd : Fr H D := fun o e => h1 o (by rw [upd_ne hDd]; exact e)
    have nx : Nx T F H (upd F1 d (.dK kvs)) (upd H1 d (.dK kvs)) := ⟨fun b o e => ?_, ⟨fun p o e nn => ?_, fun t => ?_⟩, fun b o e => ?_, fun p ps e => ?_, fun p o e => ?_⟩
    · have R5 := R0.grow nx
      refine g D vs' _ _ R5.back ⟨?_, R0.base_fr Fd, by rw [upd_ne hDd]; exact f1, by rw [upd_ne hDd]; exact d1', ?_⟩
      · cases e : B.1 D with
        | none => rfl
        | some u =>
          have := n1.f D u (by rw [upd_ne hDd]; exact R0.bF _ _ e)
          rw [f1] at this; cases this
      · rw [grid_outs] at i1
        refine rows_keep (fun b o e nd => ?_) grid_rows i1
        have z : b ≠ d := fun z => by rw [z, f1d] at e; cases e; exact nd.2 _ _ rfl
        rw [upd_ne z]; exact e
    · by_cases z : b = d
      · subst z; rw [d1] at e; cases e; exact upd_same
      · have e2 := n1.f b o (by rw [upd_ne z]; exact e)
        rw [upd_ne z]; exact e2
    · by_cases z : p = d
      · subst z; rw [R0.sub _ _ d1] at e; cases e; exact upd_same
      · rw [upd_ne z]; exact n1.h.k p o (by rw [upd_ne z]; exact e) nn
    · exact tabs_upd (n1.h.t tbl) fun o' e z => by
        rw [h1d] at e; cases e
        rcases z with ⟨_, z⟩ | ⟨_, _, z⟩ <;> cases z
    · by_cases z : b = d
      · subst z; rw [upd_same] at e ⊢; exact e
      · rw [upd_ne z] at e ⊢
        exact n1.s b o e
    · by_cases z : p = d
      · subst z; rw [upd_same] at e; cases e
      · rw [upd_ne z] at e
        have := n1.nt p ps e
        rw [upd_ne z] at this; exact this
    · by_cases z : p = d
      · subst z; exact .inl (by rw [d1]; exact fun z => nomatch z)
      · rw [upd_ne z] at e
        rcases n1.n p o e with q | q
        · rw [upd_ne z] at q; exact .inl q
        · rcases q with q | ⟨xs, q⟩
          · exact .inr (.inl fun o e => q o (by rw [upd_ne z]; exact e))
          · rw [upd_ne z] at q; exact .inr (.inr ⟨xs, q⟩)
theorem ok_grid (Fn : Fun K "grid" "Rows.grid" sGrid f fd) (R : Rt K mg C) (G : FD T P w K mg base "_small_numbers" 1 1 pSmall) : FnOk P w K mg base CX0 2 f fd ["self", "powers"] (spD T K 2 (pGrid C)) :=
  FnOk.imp (ok_gridN Fn R G) fun vs H Q E ⟨F, ds, d, x, nt, tb, i, l, ⟨ks, pks, pxs, tp, e1, hP, hk, e2⟩, q⟩ => spN1_data ⟨F, ds, d, x, nt, tb, i, l, ⟨_, ⟨ks, pks, pxs, tp, e1, hP, hk, rfl⟩, e2⟩, q⟩
end
end K05

set_option Elab.async false
set_option linter.all false
set_option maxRecDepth 100000
set_option maxHeartbeats 4000000
/-! K05k: lists of rows: what is told is new, and the lists in it are new. -/
namespace K05
open PySem PySem.Spec PyProof.Rows L2 Fd Tx
def stepL (rows : List D) (found : List (List D)) : List (List D) := found.flatMap fun s => rows.map fun r => s ++ [r]
def listsF (rows : List D) : Nat → List (List D)
  | 0 => [[]]
  | n + 1 => stepL rows (listsF rows n)
def addL (x y : D) : D := match x with
  | .lst xs => .lst (xs ++ [y])
  | d => d
theorem stepL_len (rows : List D) (found : List (List D)) : (stepL rows found).length = found.length * rows.length := by
  unfold stepL
  induction found with
  | nil => simp
  | cons s l ih => rw [List.flatMap_cons, List.length_append, ih, List.length_map, List.length_cons, Nat.add_mul, Nat.one_mul, Nat.add_comm]
theorem lists_len (rows : List D) : ∀ n, (listsF rows n).length = rows.length ^ n
  | 0 => rfl
  | n + 1 => by show (stepL rows (listsF rows n)).length = _; rw [stepL_len, lists_len rows n, Nat.pow_succ]
theorem stepL_outs (rows : List D) (found : List (List D)) : outs2 (fun _ => rows) addL (found.map D.lst) = (stepL rows found).map D.lst := by
  unfold outs2 stepL
  rw [List.flatMap_map, List.map_flatMap]
  refine congrArg (List.flatMap · found) (funext fun s => ?_)
  rw [List.map_map]; rfl
theorem lists_each (rows : List D) : ∀ n, ∀ s ∈ listsF rows n, s.length = n
  | 0, s, h => by
    have e : s = [] := by simpa [listsF] using h
    rw [e]; rfl
  | n + 1, s, h => by
    obtain ⟨r, hr, h2⟩ := List.mem_flatMap.mp (show s ∈ stepL rows (listsF rows n) from h)
    obtain ⟨m, _, rfl⟩ := List.mem_map.mp h2
    rw [List.length_append, lists_each rows n r hr]; rfl
def pLists (C : Addr) (ds : List D) (yss : List (List D)) : Prop := ∃ ks pks pxs tp, ∃ n : Nat, ds = [rowsD C ks, .dct pks pxs, .int (n : Nat)] ∧ Pw ks pks pxs tp ∧ ks.length ≤ 10 ∧ n ≤ 3 ∧ (∀ i, i ≤ n → (gridF ks tp).length ^ i ≤ 100000) ∧ yss = listsF (gridF ks tp) n
/-- a list of lists is told, all of them new -/
def spNL (T : List (Addr × Str)) (K : PySem.W.Frag) (n : Nat) (pre : List D → List (List D) → Prop) : Sp := fun vs H Q _ => ∃ F ds yss, Ext F H ∧ (∀ p ps, F p ≠ some (.tbl ps)) ∧ LamX.Tabs T H ∧ IsL K F ds vs ∧ ds.length = n ∧ pre ds yss ∧ ∀ p qs F1 H1, Nx T F H F1 H1 → F p = none → Fr H p → (∀ w ∈ qs, ∃ q, w = V.ref q ∧ F q = none ∧ Fr H q) → F1 p = some (.lst qs) → IsL K F1 (yss.map D.lst) qs → Q (.ref p) H1
theorem pa_fam {T : List (Addr × Str)} {X : Cx} {es : List Expr} {Rl : SS → List D → Prop} (h : ∀ ss ds, Rl ss ds → EVs T X es ss ds) : PA X es (tEvs T X.K Rl) :=
  ⟨fun pos pins s σ H Q I ⟨B, F, ss, ds, r, R, q⟩ => (h ss ds r).run pos pins s σ H Q I ⟨B, F, ss, ds, ⟨rfl, rfl⟩, R, q⟩⟩
theorem scLists : FnScope ["self", "powers", "many", "rows", "found", "_", "shorter", "row"] ["self", "powers", "many"] (defScope sLists) := ⟨rfl, rfl, rfl, by decide +kernel, rfl, by decide +kernel, by decide +kernel⟩
def ssL (C : Addr) (ks : List Kd) (pks : List Key) (pxs : List D) (n : Nat) (rows : List D) : SS := [.d (rowsD C ks), .d (.dct pks pxs), .d (.int (n : Nat)), .d (.lst rows), .no, .no, .no, .no]
def inL (rows : List D) (ss0 : SS) : SS → List D → Prop := fun ss' ys => ∃ x : List D, x.length ≤ 3 ∧ ss' = (Tg.one 6).put (.lst x) (wipeS ss0 [6, 7]) ∧ ys = rows
def inE (ss0 : SS) : SS → List D → Prop := fun ss' ds => ∃ (x : List D) (y : D), x.length ≤ 3 ∧ ss' = (Tg.one 7).put y (wipeS ((Tg.one 6).put (.lst x) (wipeS ss0 [6, 7])) [7]) ∧ ds = x ++ [y]
def NewV (B : Hp × Hp) (w : V) : Prop := ∃ q, w = V.ref q ∧ B.1 q = none ∧ Fr B.2 q
def AtL (T : List (Addr × Str)) (K : PySem.W.Frag) (F0 H F3 : Hp) (ss0 : SS) (rows : List D) (i : Nat) (σ : L2.St) (H2 : Hp) : Prop := ∃ F' p qs, StR T K (F0, H) F' H2 σ ss0 ∧ Ext F3 F' ∧ σ[4]? = some (some (.ref p)) ∧ F' p = some (.lst qs) ∧ IsL K F' ((listsF rows i).map D.lst) qs ∧ F0 p = none ∧ Fr H p ∧ ∀ w ∈ qs, NewV (F0, H) w
theorem new_of {T : List (Addr × Str)} {K : PySem.W.Frag} {B : Hp × Hp} {F H : Hp} {σ : L2.St} {ss : SS} (R : StR T K B F H σ ss) {p : Addr} (h : H p = none) : B.1 p = none ∧ Fr B.2 p := by
  refine ⟨?_, R.base_fr (Fr.of h)⟩
  cases e : B.1 p with
  | none => rfl
  | some u => rw [R.sub _ _ (R.bF _ _ e)] at h; cases h
section
variable {T : List (Addr × Str)} {P : Program} {w : World} {K : PySem.W.Frag} {mg : Str → Option Value} {base : Heap} {C f gg : Addr} {fd : FuncData}
theorem ok_lists (Fn : Fun K "lists" "Rows.lists" sLists f fd) (R : Rt K mg C) (M : OwnM T P w K mg base C "grid" 2 2 (pGrid C) gg) : FnOk P w K mg base CX0 3 f fd ["self", "powers", "many"] (spNL T K 3 (pLists C)) := by
  refine Fn.ok scLists (fun vs H Q E ⟨F, ds, yss, _, _, _, i, l, _⟩ => by rw [i.length, l]; rfl) (fun cdv A outer s H vs Q E hr hsp => ?_)
  obtain ⟨F0, ds, yss, x, nt, tb, i, l, ⟨ks, pks, pxs, tp, n, e1, hP, hk10, hn, hlen, e2⟩, q⟩ := hsp
  subst e1; subst e2
  have hrows : EV T (bodyX CX0 P w K mg base ["self", "powers", "many", "rows", "found", "_", "shorter", "row"] "Rows.lists" sLists f cdv A outer s H E) (match (defBody sLists).getD 0 (.Pass pT) with | .Assign _ e _ => e | _ => .Name "a" pT) [.d (rowsD C ks), .d (.dct pks pxs), .d (.int (n : Nat)), .no, .no, .no, .no, .no] (.lst (gridF ks tp)) := by
    exact ev_meth (ev_var 0 rfl) R.ik.cl M hr (evs_cons (ev_var 1 rfl) evs_nil) ⟨ks, pks, pxs, tp, rfl, hP, hk10, rfl⟩ (by decide)
  refine ⟨_, pss_cons (ps_set (i := 3) scLists.nd rfl (Or.inr rfl) hrows) (pss_cons (ps_set (i := 4) scLists.nd rfl (Or.inl rfl) (pe_lst (pa_cons (pe_lst pa_nil) pa_nil))) (pss_cons (ps_for PassesOwn.never rfl (iv_range1 (T := T) (ss := ssL C ks pks pxs n (gridF ks tp)) (ev_var 2 rfl) (by omega) R.B.range) (pg_name (i := 5) scLists.nd rfl (Or.inl rfl))
    (pss_one (ps_setLc2 (i := 4) (own := [("shorter", 6), ("row", 7)]) (vs1 := [7]) (wi := iList K (tVar 4)) (wi1 := tIvF T K (inL (gridF ks tp) (ssL C ks pks pxs n (gridF ks tp)))) (g := gOf K (.one 6)) (g1 := gOf K (.one 7)) (tt := tYes) (tt1 := tYes) (te := tLst (tEvs T K (inE (ssL C ks pks pxs n (gridF ks tp))))) ?c1 ?c2 ?c6 ?c7 ?c8 ?o ?b ?c3 ?g1 (fun s H C cl fp => pts_nil) ?i1 ?g2 (fun s H C cl fp => pts_nil) ?el ?c4 ?c5))) (pss_one (ps_ret (pv 4))))), ?main⟩
  case c1 => rfl
  case c2 => exact scLists.nd
  case c6 => rfl
  case c7 => rfl
  case c8 => rfl
  case o => exact pi_list (pv 4)
  case b => exact (id (α := BlkOk ["self", "powers", "many", "rows", "found", "_", "shorter", "row"] (defScope sLists) _ [("shorter", 6), ("row", 7)]) ⟨rfl, by decide +kernel, by decide +kernel, by decide +kernel, by decide +kernel⟩)
  case c3 => decide
  case g1 => exact fun s H C cl fp => pg_name (i := 6) scLists.nd rfl (Or.inl rfl)
  case g2 => exact fun s H C cl fp => pg_name (i := 7) scLists.nd rfl (Or.inl rfl)
  case i1 =>
    intro s H C' cl fp
    refine pi_fam (T := T) (Rl := inL (gridF ks tp) (ssL C ks pks pxs n (gridF ks tp))) fun ss' ys ⟨x, hx, e1, e2⟩ => ?_
    rw [e1, e2]
    exact iv_list (ev_var 3 rfl)
  case c4 => exact fun _ => rfl
  case c5 => exact fun _ _ => rfl
  case el =>
    intro s H C' cl fp
    refine pe_lst (pa_fam (T := T) (Rl := inE (ssL C ks pks pxs n (gridF ks tp))) fun ss' ds ⟨x, y, hx, e1, e2⟩ => ?_)
    rw [e1, e2]
    exact evs_star (.inl rfl) (ev_var 6 rfl) (evs_cons (ev_var 7 rfl) evs_nil)
  case main =>
    have R0 := start_str (K := K) (N := ["self", "powers", "many", "rows", "found", "_", "shorter", "row"]) x nt tb i
    refine ev_go (T := T) R0 fun v F1 H1 n1 R1 i1 => ?_
    have R1' := R1.put (i := 3) i1
    refine ⟨by show 0 ≤ sizeLine; exact Nat.zero_le _, fun e0 he0 => ⟨by show 1 ≤ sizeLine; decide, fun Dd hD => ?_⟩⟩
    have Ra := R1'.alloc (o := .lst []) he0
    have Rb := Ra.alloc (o := .lst [.ref e0]) hD
    have hDe : Dd ≠ e0 := fun z => by rw [z, upd_same] at hD; cases hD
    have hD1 : H1 Dd = none := by rw [upd_ne hDe] at hD; exact hD
    have new0 := new_of R1' he0
    have newD := new_of R1' hD1
    have R2 : StR T K (F0, H) _ _ _ (ssL C ks pks pxs n (gridF ks tp)) := Rb.forget (i := 4) (o := some (.ref Dd))
    refine ⟨(F0, H), _, R2, fun J F3 H3 n3 R3 Y => ?_⟩
    have ln : ∀ {σ : L2.St} {F' H' : Hp}, StR T K (F0, H) F' H' σ (ssL C ks pks pxs n (gridF ks tp)) → 4 < σ.length := fun R => by
      have := R.len
      rw [show (ssL C ks pks pxs n (gridF ks tp)).length = 8 from rfl] at this; omega
    refine ⟨fun i m σ' H' => m = n - i ∧ i ≤ n ∧ ∃ F' p qs, StR T K (F0, H) F' H' σ' (ssL C ks pks pxs n (gridF ks tp)) ∧ Ext F3 F' ∧ σ'[4]? = some (some (.ref p)) ∧ F' p = some (.lst qs) ∧ IsL K F' ((listsF (gridF ks tp) i).map D.lst) qs ∧ F0 p = none ∧ Fr H p ∧ ∀ w ∈ qs, NewV (F0, H) w, ⟨n, by simp, Nat.zero_le _, F3, Dd, [.ref e0], R3, fun _ _ h => h, ?_, n3.f _ _ upd_same, ?_, newD.1, newD.2, ?_⟩, ?_⟩
    · refine List.getElem?_set_self ?_
      have := R1'.len
      rw [this]; exact (by decide : 4 < 8)
    · exact .cons ⟨e0, [], rfl, n3.f _ _ (by rw [upd_ne (Ne.symm hDe), upd_same]), rfl⟩ .nil
    · intro w hw
      obtain rfl : w = .ref e0 := by simpa using hw
      exact ⟨e0, rfl, new0⟩
    rintro i m σ' H' ⟨rfl, hi, F', p, qs, R4, x3, s4, p4, i4, f0, fr, nw⟩
    have rl : (rng 0 (n : Int).toNat).length = n := by unfold rng; rw [List.length_map, List.length_range]; omega
    by_cases hlt : i < n
    · obtain ⟨go, yl⟩ := Y.item i F' H' x3 R4.sub (by rw [rl]; exact hlt)
      refine .inr ⟨go, AtL T K F0 H F3 (ssL C ks pks pxs n (gridF ks tp)) (gridF ks tp) (i + 1), fun σ'' H2 h => ⟨n - (i + 1), by omega, rfl, hlt, h⟩, fun v H2 y => ?_⟩
      obtain ⟨F5, xv, n5, hx, ix⟩ := yl v H2 y
      have R5 : StR T K (F0, H) F5 H2 (σ'.set 5 (some v)) (ssL C ks pks pxs n (gridF ks tp)) := (R4.grow n5).forget (i := 5) (o := some v)
      show tLc2 (iList K (tVar 4)) (gOf K (.one 6)) tYes (tIvF T K (inL (gridF ks tp) (ssL C ks pks pxs n (gridF ks tp)))) (gOf K (.one 7)) tYes (tLst (tEvs T K (inE (ssL C ks pks pxs n (gridF ks tp))))) [6, 7] [7] (σ'.set 5 (some v)) H2 (fun x H1 => gName 4 x (σ'.set 5 (some v)) H1 (AtL T K F0 H F3 (ssL C ks pks pxs n (gridF ks tp)) (gridF ks tp) (i + 1)))
      refine lc2_go (xs := (listsF (gridF ks tp) i).map D.lst) (vs := [6, 7]) (vs1 := [7]) (t := .one 6) (t1 := .one 7) (g := fun _ => gridF ks tp) (f := addL) (Pv := NewV (F0, H)) (by decide) (by decide) (by decide) (by decide) (fun _ _ => rfl) (fun _ _ _ _ => rfl) ?_ (fun x hx => rfl) R5 (fun R0 k => ?_) (fun x hx F' H' σ2 R1 n R3 hw k => ?_) (fun x hx y hy F' H' σ3 Q1 R3 k => ?_) fun Dd vs' F6 H6 n6 R6 f6 b6 h6 d6 i6 hpv => ?_
      · rw [stepL_outs, List.length_map]
        show (listsF (gridF ks tp) (i + 1)).length ≤ _
        rw [lists_len]
        exact hlen (i + 1) hlt
      · exact ⟨.ref p, by rw [List.getElem?_set_ne (by decide)]; exact s4, p, rfl, ⟨qs, SqL.of (R5.sub _ _ (n5.f _ _ p4))⟩, k (Itl K p) F5 H2 (Nx.refl R5.sub) R5 (itl_yl (n5.f _ _ p4) (IsL.mono n5.f _ i4))⟩
      · obtain ⟨s, hs, rfl⟩ := List.mem_map.mp hx
        have := lists_each _ _ s hs
        exact ⟨(F0, H), F', _, _, ⟨s, by omega, rfl, rfl⟩, R3, k⟩
      · obtain ⟨s, hs, rfl⟩ := List.mem_map.mp hx
        have hsl := lists_each _ _ s hs
        refine ⟨(F0, H), F', _, _, ⟨s, y, by omega, rfl, rfl⟩, R3, fun vs F7 H7 n7 R7 i7 => ⟨?_, fun p hp => ?_⟩⟩
        · rw [i7.length, List.length_append, List.length_singleton, sizeLine_eq]; omega
        · exact k _ _ _ (n7.trans (Nx.alloc R7.sub hp)) (R7.alloc hp) ⟨p, vs, rfl, upd_same, IsL.mono (Ext.upd (R7.free hp)) _ i7⟩ ⟨p, rfl, new_of R7 hp⟩
      · have n8 := n6.told f6 h6 d6
        refine ⟨upd F6 Dd (.lst vs'), Dd, vs', (R5.grow n8).forget (i := 4) (o := some (.ref Dd)), fun b o e => n8.f _ _ (n5.f _ _ (x3 _ _ e)), ?_, upd_same, ?_, ?_, b6, hpv⟩
        · refine List.getElem?_set_self ?_
          have := ln R5
          exact this
        · rw [stepL_outs] at i6
          exact IsL.mono (Ext.upd f6) _ i6
        · cases e : F0 Dd with
          | none => rfl
          | some u => rw [R6.bF Dd u e] at f6; cases f6
    · obtain rfl : i = n := by omega
      refine .inl ⟨by have := Y.stop F' H' x3 R4.sub; rwa [rl] at this, .ref p, s4, q p qs F' H' R4.back f0 fr nw p4 i4⟩
end
end K05

set_option Elab.async false
set_option linter.all false
set_option maxRecDepth 100000
set_option maxHeartbeats 4000000
/-! K05l: Ratio made, is_int, is_number. -/
namespace K05
open PySem PySem.Spec PyProof.Rows L2 Fd Tx
/-- the divisor that __init__ divides by -/
def dv (t b : Int) : Int := if b < 0 then -((Nat.gcd t.natAbs b.natAbs : Nat) : Int) else ((Nat.gcd t.natAbs b.natAbs : Nat) : Int)
def rF (t b : Int) : List D := [.int (t.fdiv (dv t b)), .int (b.fdiv (dv t b))]
def rN : List Str := ["top", "bottom"]
def pInitR (ds : List D) (ns : List Str) (xs : List D) : Prop := ∃ t b : Int, ds = [.int t, .int b] ∧ b ≠ 0 ∧ b.natAbs.log2 < 9000 ∧ ns = rN ∧ xs = rF t b
theorem scInitR : FnScope ["self", "top", "bottom", "divisor"] ["self", "top", "bottom"] (defScope sRInit) := ⟨rfl, rfl, rfl, by decide +kernel, rfl, by decide +kernel, by decide +kernel⟩
theorem dv_ok {t b : Int} (hb : b ≠ 0) (hl : b.natAbs.log2 < 9000) : dv t b ≠ 0 ∧ (dv t b).natAbs.log2 < 9000 := by
  have g0 : Nat.gcd t.natAbs b.natAbs ≠ 0 := fun z => hb (by have := Nat.eq_zero_of_gcd_eq_zero_right z; omega)
  have gl : Nat.gcd t.natAbs b.natAbs ≤ b.natAbs := Nat.le_of_dvd (by omega) (Nat.gcd_dvd_right _ _)
  have e : (dv t b).natAbs = Nat.gcd t.natAbs b.natAbs := by unfold dv; split <;> omega
  refine ⟨fun z => g0 (by rw [← e, z]; rfl), ?_⟩
  rw [e]
  refine Nat.lt_of_le_of_lt ?_ hl
  rw [Nat.le_log2 (by omega)]
  exact Nat.le_trans ((Nat.le_log2 g0).mp (Nat.le_refl _)) gl
section
variable {T : List (Addr × Str)} {P : Program} {w : World} {K : PySem.W.Frag} {mg : Str → Option Value} {base : Heap} {C f : Addr} {fd : FuncData}
theorem ok_initR {cdv : Value} (F : FunZ K "__init__" "Ratio.__init__" sRInit f fd cdv) (cl : Cls K C) (nt : NoAttr K C "top") (nb : NoAttr K C "bottom") (hg : mg "gcd" = some (.builtin "math.gcd")) : FnOk P w K mg base CX0 1 f fd ["self", "top", "bottom"] (spM T K C 2 pInitR) := by
  refine init_ok F scInitR rfl fun A outer s H E p ds ns xs hr _ ⟨t, b, e1, hb, hl, e2, e3⟩ => ?_
  subst e1; subst e2; subst e3
  obtain ⟨h1, h2⟩ := dv_ok (t := t) hb hl
  refine svs_cons (sv_if (TV.cast (tv_eqI (ev_var 2 rfl) ev_int) (decide_eq_false hb)) (fun z => nomatch z) (fun _ => svs_nil ?_))
  refine svs_cons (sv_set 3 (ev_gcd (ev_var 1 rfl) (ev_var 2 rfl) hg) ?_ scInitR.nd)
  refine svs_cons (sv_if (tv_lt (ev_var 2 rfl) ev_int) (fun z => ?_) (fun z => ?_))
  · have hneg : b < 0 := by simpa using z
    have ed : dv t b = -((Nat.gcd t.natAbs b.natAbs : Nat) : Int) := if_pos hneg
    refine svs_one (sv_set 3 (d := .int (dv t b)) (EV.cast (ev_neg (ev_var 3 rfl)) (by rw [ed])) ?_ scInitR.nd)
    refine svs_cons (sv_fldO 0 rfl (ev_fdivX ⟨h1, h2⟩ (ev_var 1 rfl) (ev_var 3 rfl)) ?_ cl nt (by decide) (by decide))
    exact svs_one (sv_fldO 0 rfl (ev_fdivX ⟨h1, h2⟩ (ev_var 2 rfl) (ev_var 3 rfl)) rfl cl nb (by decide) (by decide))
  · have hpos : ¬ b < 0 := by simpa using z
    have ed : dv t b = ((Nat.gcd t.natAbs b.natAbs : Nat) : Int) := if_neg hpos
    refine svs_nil ?_
    rw [← ed]
    refine svs_cons (sv_fldO 0 rfl (ev_fdivX ⟨h1, h2⟩ (ev_var 1 rfl) (ev_var 3 rfl)) ?_ cl nt (by decide) (by decide))
    exact svs_one (sv_fldO 0 rfl (ev_fdivX ⟨h1, h2⟩ (ev_var 2 rfl) (ev_var 3 rfl)) rfl cl nb (by decide) (by decide))
end
def tys : List String := ["int", "bool", "str", "NoneType", "list", "tuple", "dict"]
/-- what the top has made of Ratio -/
structure RtR (K : PySem.W.Frag) (mg : Str → Option Value) (C : Addr) : Prop where
  mgR : mg "Ratio" = some (.ref C)
  ik : InK K C
  nt : NoAttr K C "top"
  nb : NoAttr K C "bottom"
  kI : PySem.W.kitOne K (.ref C) (.type "int") = some false
  kB : PySem.W.kitOne K (.ref C) (.type "bool") = some false
  kO : ∀ T, T ∈ tys → PySem.W.kitOne K (.type T) (.ref C) = some false
  kR : PySem.W.kitOne K (.ref C) (.ref C) = some true
  bIs : mg "isinstance" = none
  bInt : mg "int" = none
  bBool : mg "bool" = none
/-- a Ratio as it stands -/
def rat (C : Addr) (t b : Int) : D := .ins C rN [.int t, .int b]
/-- a thing that the numbers' helpers are asked of -/
def Th (C : Addr) (x : D) : Prop := (∃ t b, x = rat C t b) ∨ (∃ T, T ∈ tys ∧ x.ty? = some (.type T) ∧ (match x with | .rdl _ => False | .ins _ _ _ => False | _ => True))
def isI : D → Bool
  | .int _ => true
  | _ => false
def isN (C : Addr) : D → Bool
  | .int _ => true
  | .ins D' _ _ => D' == C
  | _ => false
theorem Th.cls {K : PySem.W.Frag} {mg : Str → Option Value} {C : Addr} {x : D} (h : Th C x) (R : RtR K mg C) : x.cls K := by
  rcases h with ⟨t, b, rfl⟩ | ⟨T, _, h1, h2⟩
  · exact R.ik
  · cases x <;> first | trivial | exact h2.elim
theorem kit_int : ∀ T, T ∈ tys → kitB T "int" = some (T == "int" || T == "bool") ∧ kitB T "bool" = some (T == "bool") := by decide +kernel
theorem Th.ty {K : PySem.W.Frag} {mg : Str → Option Value} {C : Addr} {x : D} (h : Th C x) (R : RtR K mg C) : ∃ t b1 b2 b3, x.ty? = some t ∧ PySem.W.kitOne K t (.type "int") = some b1 ∧ PySem.W.kitOne K t (.type "bool") = some b2 ∧ PySem.W.kitOne K t (.ref C) = some b3 ∧ (b1 && !b2) = isI x ∧ (isI x || b3) = isN C x ∧ (b3 = true ↔ ∃ t b, x = rat C t b) := by
  rcases h with ⟨t, b, rfl⟩ | ⟨T, hT, h1, h2⟩
  · exact ⟨_, _, _, _, rfl, R.kI, R.kB, R.kR, rfl, by simp [isN, isI, rat], ⟨fun _ => ⟨t, b, rfl⟩, fun _ => rfl⟩⟩
  · obtain ⟨k1, k2⟩ := kit_int T hT
    refine ⟨_, _, _, _, h1, kit_ty k1, kit_ty k2, R.kO T hT, ?_⟩
    cases x <;> simp [D.ty?] at h1 <;> first | exact h2.elim | (subst h1; simp [isI, isN, rat])
def pIsInt (C : Addr) (ds : List D) (d : D) : Prop := ∃ x, ds = [x] ∧ Th C x ∧ d = .bl (isI x)
def pIsNum (C : Addr) (ds : List D) (d : D) : Prop := ∃ x, ds = [x] ∧ Th C x ∧ d = .bl (isN C x)
theorem scIsInt : FnScope ["thing"] ["thing"] (defScope sIsInt) := ⟨rfl, rfl, rfl, by decide +kernel, rfl, by decide +kernel, by decide +kernel⟩
theorem scIsNum : FnScope ["thing"] ["thing"] (defScope sIsNum) := ⟨rfl, rfl, rfl, by decide +kernel, rfl, by decide +kernel, by decide +kernel⟩
section
variable {T : List (Addr × Str)} {P : Program} {w : World} {K : PySem.W.Frag} {mg : Str → Option Value} {base : Heap} {C f : Addr} {fd : FuncData}
theorem ok_isInt (F : Fun K "is_int" "is_int" sIsInt f fd) (R : RtR K mg C) : FnOk P w K mg base CX0 1 f fd ["thing"] (spD T K 1 (pIsInt C)) := by
  refine fd_ok F scIsInt rfl fun cdv A outer s H E ds d hr _ ⟨x, e1, hx, e2⟩ => ?_
  subst e1; subst e2
  obtain ⟨t, b1, b2, b3, k1, k2, k3, k4, k5, k6, k7⟩ := hx.ty R
  exact svs_one (sv_ret (EV.cast (ev_andB (ev_isT (ev_var 0 rfl) k1 (hx.cls R) k2 R.bInt (by decide +kernel) R.bIs) fun _ => ev_one (ev_not (ev_isT (ev_var 0 rfl) k1 (hx.cls R) k3 R.bBool (by decide +kernel) R.bIs))) (by rw [k5])) rfl)
theorem ok_isNum (F : Fun K "is_number" "is_number" sIsNum f fd) (R : RtR K mg C) (G : FD T P w K mg base "is_int" 1 1 (pIsInt C)) : FnOk P w K mg base CX0 2 f fd ["thing"] (spD T K 1 (pIsNum C)) := by
  refine fd_ok F scIsNum rfl fun cdv A outer s H E ds d hr _ ⟨x, e1, hx, e2⟩ => ?_
  subst e1; subst e2
  obtain ⟨t, b1, b2, b3, k1, k2, k3, k4, k5, k6, k7⟩ := hx.ty R
  exact svs_one (sv_ret (EV.cast (ev_orB (ev_call G hr (evs_cons (ev_var 0 rfl) evs_nil) ⟨x, rfl, hx, rfl⟩) fun _ => ev_one (ev_isO (ev_var 0 rfl) k1 (hx.cls R) k4 R.mgR R.bIs)) (by rw [k6])) rfl)
end
end K05

set_option Elab.async false
set_option linter.all false
set_option maxRecDepth 100000
set_option maxHeartbeats 4000000
/-! K05m: is_row. -/
namespace K05
open PySem PySem.Spec PyProof.Rows L2 Fd Tx
def tailD : D → D
  | .lst (_ :: r) => .lst r
  | .tup (_ :: r) => .tup r
  | d => d
theorem tail_seq {d : D} {x0 : D} {r : List D} (h : seq? d = some (x0 :: r)) : seq? (tailD d) = some r := by
  cases d <;> first | (cases h; rfl) | cases h
theorem seq_len {d : D} {xs : List D} (h : seq? d = some xs) : d.len = some xs.length := by
  cases d <;> first | (cases h; rfl) | cases h
section
variable {T : List (Addr × Str)} {X : Cx} {ss : SS} {o : Expr} {d x0 : D} {r : List D} {p2 p3 pos : Pos} {j : Nat}
theorem cut_tail (x0 : D) (r : List D) : Fd.cutD (x0 :: r) (some 1) none = r := by
  unfold Fd.cutD
  show ((x0 :: r).drop (min 1 (r.length + 1))).take ((r.length + 1) - min 1 (r.length + 1)) = r
  rw [Nat.min_eq_left (by omega)]
  show r.take (r.length + 1 - 1) = r
  rw [Nat.add_sub_cancel, List.take_length]
/-- d[1:] -/
theorem ev_tail (h : seq? d = some (x0 :: r)) (ha : EV T X o ss d) : EV T X (.Subscript o (.Slice (some (.Constant (.int 1) j p3)) none none p2) pos) ss (tailD d) := by
  cases d with
  | lst ys => cases h; exact EV.cast (ev_cutL (.inl rfl) ha (pv_some ev_int) pv_none) (by rw [cut_tail]; rfl)
  | tup ys =>
    cases h
    have h1 : PV T X (some (.Constant (.int 1) j p3)) ss (some 1) := pv_some ev_int
    have h2 : PV T X none ss none := pv_none
    refine EV.of (pe_slice sl_tup ha (po_pv h1) (po_pv h2)) fun B F H σ Q R q => ev_go R fun v F1 H1 n1 R1 i1 => ?_
    obtain ⟨a, vs, rfl, e1, e2⟩ := i1
    refine ⟨B, F1, R1, fun F2 H2 n2 R2 => ⟨B, F2, R2, fun F3 H3 n3 R3 => ⟨a, vs, rfl, ext_seqT ((n2.trans n3).f.trans R3.sub) e1, ?_, fun q' hq => ?_⟩⟩⟩
    · rintro ⟨z, _⟩
      rw [e2.length] at z
      have : min 1 (r.length + 1) = 0 := z
      omega
    · refine q _ _ _ (((n1.trans n2).trans n3).trans (Nx.alloc R3.sub hq)) (R3.alloc hq) ⟨q', _, rfl, SqT.of upd_same, ?_⟩
      have e3 := cut_is (K := X.K) (some 1) none (IsL.mono (n2.trans n3).f _ e2)
      rw [cut_tail] at e3
      exact IsL.mono (Ext.upd (R3.free hq)) _ e3
  | _ => cases h
end
def fieldsN (ks : List Kd) : D → Option Nat
  | .str x => (lookN ks x).map List.length
  | _ => none
def isRowB (ks : List Kd) (CR : Addr) (t : D) : Bool := match seq? t with
  | some (x0 :: r) => hasN ks x0 && (decide (fieldsN ks x0 = some r.length) && r.all (isN CR))
  | _ => false
def RowTh (CR : Addr) (t : D) : Prop := Tyd t ∧ ∀ xs, seq? t = some xs → xs.length ≤ 100 ∧ ∀ x0 r, xs = x0 :: r → Tyd x0 ∧ ∀ y ∈ r, Th CR y
def pIsRow (C CR : Addr) (ds : List D) (d : D) : Prop := ∃ ks t, ds = [rowsD C ks, t] ∧ RowTh CR t ∧ d = .bl (isRowB ks CR t)
theorem scIsRow : FnScope ["self", "thing", "numbers", "number"] ["self", "thing"] (defScope sIsRow) := ⟨rfl, rfl, rfl, by decide +kernel, rfl, by decide +kernel, by decide +kernel⟩
theorem lookN_some {ks : List Kd} {x : Str} (h : x ∈ ks.map (·.1)) : ∃ fs, lookN ks x = some fs := by
  induction ks with
  | nil => cases h
  | cons k ks ih =>
    unfold lookN
    by_cases e : k.1 = x
    · rw [if_pos e]; exact ⟨_, rfl⟩
    · rw [if_neg e]
      rcases List.mem_cons.mp h with h | h
      · exact absurd h.symm e
      · exact ih h
section
variable {T : List (Addr × Str)} {P : Program} {w : World} {K : PySem.W.Frag} {mg : Str → Option Value} {base : Heap} {C CR f g : Addr} {fd : FuncData}
theorem ok_isRow (F : Fun K "is_row" "Rows.is_row" sIsRow f fd) (R : Rt K mg C) (M : OwnM T P w K mg base C "_is_kind" 2 1 (pIsKind C) g) (GL : FD T P w K mg base "is_list" 1 1 pIsList) (GN : FD T P w K mg base "is_number" 1 2 (pIsNum CR)) : FnOk P w K mg base CX0 3 f fd ["self", "thing"] (spD T K 2 (pIsRow C CR)) := by
  refine fd_ok F scIsRow rfl fun cdv A outer s H E ds d hr _ ⟨ks, t, e1, ⟨ht, hth⟩, e2⟩ => ?_
  subst e1; subst e2
  have h1 := hr.mono (show 1 ≤ 2 by decide)
  cases hq : seq? t with
  | none =>
    have eB : isRowB ks CR t = false := by unfold isRowB; rw [hq]
    have eL : isL t = false := by unfold isL; rw [hq]; rfl
    exact svs_cons (sv_if (t := true) (TW.tv (tw_orB (t := true) (u := false) (TV.cast (tv_not (tv_of (ev_call GL h1 (evs_cons (ev_var 1 rfl) evs_nil) ⟨t, rfl, ht, rfl⟩))) (by rw [eL]; rfl)) fun z => nomatch z)) (fun _ => svs_one (sv_ret ev_bl (by rw [eB]))) (fun z => nomatch z))
  | some xs =>
    have eL : isL t = true := by unfold isL; rw [hq]; rfl
    obtain ⟨hl, hx⟩ := hth xs hq
    cases xs with
    | nil =>
      have eB : isRowB ks CR t = false := by unfold isRowB; rw [hq]
      exact svs_cons (sv_if (t := true) (TV.cast (TW.tv (tw_orB (u := true) (tv_not (tv_of (ev_call GL h1 (evs_cons (ev_var 1 rfl) evs_nil) ⟨t, rfl, ht, rfl⟩))) fun _ => tw_orB (t := true) (u := false) (TV.cast (tv_eqI (ev_len (seq_len hq) (ev_var 1 rfl) R.B.len) ev_int) rfl) fun z => nomatch z)) (by rw [eL]; rfl)) (fun _ => svs_one (sv_ret ev_bl (by rw [eB]))) (fun z => nomatch z))
    | cons x0 r =>
      obtain ⟨tx, hr'⟩ := hx x0 r rfl
      have eB : isRowB ks CR t = (hasN ks x0 && (decide (fieldsN ks x0 = some r.length) && r.all (isN CR))) := by unfold isRowB; rw [hq]
      have x0e : ∀ {X : Cx} {ss : SS} {p : Pos} {e2 : Expr} {pos : Pos}, EV T X (.Name "thing" p) ss t → EV T X e2 ss (.int (0 : Nat)) → PlainIx e2 → EV T X (.Subscript (.Name "thing" p) e2 pos) ss x0 := fun a b c => ev_ixQ (n := 0) hq rfl a b c
      refine svs_cons (sv_if (t := !hasN ks x0) (TV.cast (TW.tv (tw_orB (tv_not (tv_of (ev_call GL h1 (evs_cons (ev_var 1 rfl) evs_nil) ⟨t, rfl, ht, rfl⟩))) fun _ => tw_orB (tv_eqI (ev_len (seq_len hq) (ev_var 1 rfl) R.B.len) ev_int) fun _ => tw_or1 (tv_not (tv_of (ev_meth (ev_var 0 rfl) R.ik.cl M h1 (evs_cons (x0e (ev_var 1 rfl) ev_int (fun _ _ => rfl)) evs_nil) ⟨ks, x0, rfl, tx, rfl⟩ (by decide)))))) ?_) (fun z => svs_one (sv_ret ev_bl (by rw [eB, nb_t z]; rfl))) fun z => svs_nil ?_)
      · rw [eL]
        have : decide (((x0 :: r).length : Int) = 0) = false := decide_eq_false (by rw [List.length_cons]; omega)
        rw [this]; rfl
      · have hN := nb_f z
        obtain ⟨nm, rfl⟩ : ∃ nm, x0 = .str nm := by cases x0 <;> first | exact ⟨_, rfl⟩ | cases hN
        obtain ⟨fs, hfs⟩ := lookN_some (of_decide_eq_true hN)
        refine svs_cons (sv_set 2 (d := tailD t) (ev_tail hq (ev_var 1 rfl)) ?_ scIsRow.nd)
        refine svs_one (sv_ret (EV.cast (ev_andB (t := decide (fieldsN ks (.str nm) = some r.length)) (u := r.all (isN CR)) (EV.cast (ev_eqI (ev_len (seq_len (tail_seq hq)) (ev_var 2 rfl) R.B.len) (ev_len (y := .tup (fs.map D.str)) (n := fs.length) (by show some _ = some _; rw [List.length_map]) (ev_getD (kk := Sum.inr nm) hr (ev_fld (ev_var 0 rfl) R.ik.cl R.nt 0 rfl rfl nd1) (x0e (ev_var 1 rfl) ev_int (fun _ _ => rfl)) (by rw [look_tab, hfs]; rfl)) R.B.len)) ?_) fun _ => ev_one (EV.cast (ev_all (bs := r.map (isN CR)) (EV.cast (ev_lc [("number", 3)] (.one 3) (fun _ => true) (fun y => .bl (isN CR y)) (iv_seq (tail_seq hq) (ev_var 2 rfl)) (id (α := BlkOk ["self", "thing", "numbers", "number"] (defScope sIsRow) _ [("number", 3)]) ⟨rfl, by decide +kernel, by decide +kernel, by decide +kernel, by decide +kernel⟩)
          (fun s H C cl fp => pg_name (i := 3) scIsRow.nd rfl (Or.inl rfl)) (fun s H C' cl fp y hy => ts_nil) (fun s H C' cl fp y hy hk => ev_call GN hr (evs_cons (ev_var 3 rfl) evs_nil) ⟨y, rfl, hr' y hy, rfl⟩) scIsRow.nd (fun _ _ => rfl) (by rw [List.length_cons] at hl; omega)) (congrArg D.lst (outs_all _ _))) R.B.all) ?_)) (by rw [eB, hN, Bool.true_and])) rfl)
        · refine congrArg D.bl (decide_eq_decide.mpr ?_)
          show (r.length : Int) = (fs.length : Int) ↔ ((lookN ks nm).map List.length) = some r.length
          rw [hfs]
          constructor
          · intro h; exact congrArg some (by omega)
          · intro h; have := Option.some.inj h; omega
        · rw [List.all_map]; rfl
end
end K05

set_option Elab.async false
set_option linter.all false
set_option maxRecDepth 100000
set_option maxHeartbeats 4000000
/-! K05n: the law's own grid and lists. -/
namespace K05
open PySem PySem.Spec PyProof.Rows L2 Fd Tx
section
variable {T : List (Addr × Str)} {X : Cx} {ss : SS} {a b : Expr} {xs ys : List D} {pos : Pos}
theorem ev_catT (hne : xs ≠ []) (hl : xs.length + ys.length ≤ 100000) (ha : EV T X a ss (.tup xs)) (hb : EV T X b ss (.tup ys)) : EV T X (.BinOp a .Add b pos) ss (.tup (xs ++ ys)) :=
  EV.of (pe_op op_catT ha hb) fun B F H σ Q R q => ev_go R fun v F1 H1 n1 R1 i1 => ev_go R1 fun u F2 H2 n2 R2 i2 => by
    obtain ⟨p1, vs, rfl, a1, a2⟩ := i1
    obtain ⟨p2, us, rfl, b1, b2⟩ := i2
    have a2' := IsL.mono n2.f _ a2
    refine ⟨p1, p2, vs, us, rfl, rfl, ext_seqT (n2.f.trans R2.sub) a1, ext_seqT R2.sub b1, fun z => hne ?_, ?_, fun z => ?_, fun z p hp => ?_⟩
    · have := a2.length
      rw [z] at this
      exact List.length_eq_zero_iff.mp this.symm
    · rw [a2.length, b2.length, sizeLine_eq]; omega
    · have e : ys = [] := by
        have := b2.length
        rw [z] at this
        exact List.length_eq_zero_iff.mp this.symm
      subst e
      rw [List.append_nil] at q
      exact q _ _ _ (n1.trans n2) R2 ⟨p1, vs, rfl, ext_seqT n2.f a1, a2'⟩
    · exact q _ _ _ ((n1.trans n2).trans (Nx.alloc R2.sub hp)) (R2.alloc hp) ⟨p, _, rfl, SqT.of upd_same, IsL.mono (Ext.upd (R2.free hp)) _ (a2'.append b2)⟩
end
def mkB : Bool → List D → D
  | true, xs => .tup xs
  | false, xs => .lst xs
def catB : List D → D → D
  | s, .tup t => .tup (s ++ t)
  | s, .lst t => .lst (s ++ t)
  | _, d => d
def longF (xss yss : List (List D)) : List (List D) := xss.flatMap fun s => yss.map fun t => s ++ t
theorem longF_len (xss yss : List (List D)) : (longF xss yss).length = xss.length * yss.length := by
  unfold longF
  induction xss with
  | nil => simp
  | cons s l ih => rw [List.flatMap_cons, List.length_append, ih, List.length_map, List.length_cons, Nat.add_mul, Nat.one_mul, Nat.add_comm]
def pLonger (ds : List D) (d : D) : Prop := ∃ (b : Bool) (xss yss : List (List D)), ds = [.lst (xss.map (mkB b)), .lst (yss.map (mkB b))] ∧ xss.length * yss.length ≤ 90000 ∧ yss.length ≤ 100000 ∧ (∀ s ∈ xss, s.length ≤ 100 ∧ s ≠ [] ∨ b = false ∧ s.length ≤ 100) ∧ (∀ t ∈ yss, t.length ≤ 100) ∧ d = .lst ((longF xss yss).map (mkB b))
theorem scLonger : FnScope ["_law_parts", "_law_more", "_law_out", "_law_part", "_law_one"] ["_law_parts", "_law_more"] (defScope sLonger) := ⟨rfl, rfl, rfl, by decide +kernel, rfl, by decide +kernel, by decide +kernel⟩
section
variable {T : List (Addr × Str)} {P : Program} {w : World} {K : PySem.W.Frag} {mg : Str → Option Value} {base : Heap} {f : Addr} {fd : FuncData}
theorem ok_longer (F : Fun K "_law_longer" "_law_longer" sLonger f fd) : FnOk P w K mg base CX0 1 f fd ["_law_parts", "_law_more"] (spD T K 2 pLonger) := by
  refine fd_ok F scLonger rfl fun cdv A outer s H E ds d hr _ ⟨b, xss, yss, e1, hl, hy1, hx, hy, e2⟩ => ?_
  subst e1; subst e2
  refine svs_cons (sv_setOwn 2 evs_nil ?_ scLonger.nd)
  refine svs_cons (sv_for (.one 3) (fun i ss => i ≤ xss.length ∧ ∃ s3, (s3 = .no ∨ ∃ d, s3 = .d d) ∧ ss = [.d (.lst (xss.map (mkB b))), .d (.lst (yss.map (mkB b))), .own ((longF (xss.take i) yss).map (mkB b)), s3, .no]) (iv_list (ev_var 0 rfl)) (pg_name (i := 3) scLonger.nd rfl (Or.inr rfl)) ⟨Nat.zero_le _, .no, .inl rfl, rfl⟩ ?_ ?_)
  · rintro i y ss' hi ⟨hle, s3, _, rfl⟩
    obtain ⟨s, hs, rfl⟩ : ∃ s, xss[i]? = some s ∧ mkB b s = y := by
      rw [List.getElem?_map] at hi
      exact Option.map_eq_some_iff.mp hi
    have hlt : i < xss.length := (List.getElem?_eq_some_iff.mp hs).1
    have hsm := hx s (List.mem_of_getElem? hs)
    have hn : (longF (xss.take i) yss).length + yss.length ≤ 90000 := by
      rw [longF_len, List.length_take, Nat.min_eq_left hle]
      have : (i + 1) * yss.length ≤ xss.length * yss.length := Nat.mul_le_mul_right _ hlt
      rw [Nat.add_mul, Nat.one_mul] at this; omega
    refine ⟨rfl, svs_one (sv_extend 2 (ys := (yss.map fun t => s ++ t).map (mkB b)) rfl (EV.cast (ev_lc [("_law_one", 4)] (.one 4) (fun _ => true) (catB s) (iv_list (ev_var 1 rfl)) (id (α := BlkOk ["_law_parts", "_law_more", "_law_out", "_law_part", "_law_one"] (defScope sLonger) _ [("_law_one", 4)]) ⟨rfl, by decide +kernel, by decide +kernel, by decide +kernel, by decide +kernel⟩)
      (fun s H C cl fp => pg_name (i := 4) scLonger.nd rfl (Or.inl rfl)) (fun s H C' cl fp y hy => ts_nil) (fun s' H C' cl fp y hy' hk => ?_) scLonger.nd (fun _ _ => rfl) (by rw [List.length_map]; exact hy1)) (congrArg D.lst ?_)) ⟨hlt, .d (mkB b s), .inr ⟨_, rfl⟩, ?_⟩ (by rw [List.length_map, List.length_map, List.length_map]; omega))⟩
    · obtain ⟨t, ht, rfl⟩ := List.mem_map.mp hy'
      have htl := hy t ht
      cases b with
      | true =>
        rcases hsm with ⟨h1, h2⟩ | ⟨z, _⟩
        · exact ev_catT h2 (by omega) (ev_var 3 rfl) (ev_var 4 rfl)
        · cases z
      | false =>
        have h1 : s.length ≤ 100 := by
          rcases hsm with h | h
          · exact h.1
          · exact h.2
        exact ev_cat (by omega) (ev_var 3 rfl) (ev_var 4 rfl)
    · unfold outs
      rw [List.filter_eq_self.mpr fun _ _ => rfl, List.map_map, List.map_map]
      refine List.map_congr_left fun t _ => ?_
      cases b <;> rfl
    · have : longF (xss.take (i + 1)) yss = longF (xss.take i) yss ++ yss.map fun t => s ++ t := by
        unfold longF
        rw [List.take_succ, hs, List.flatMap_append]
        simp
      rw [this, List.map_append]; rfl
  · rintro ss' ⟨_, s3, _, rfl⟩
    rw [List.length_map, List.take_length]
    exact svs_freeze 2 rfl (svs_one (sv_ret (ev_var 2 rfl) rfl))
end
end K05

set_option Elab.async false
set_option linter.all false
set_option maxRecDepth 100000
set_option maxHeartbeats 4000000
/-! K05o: the law's own grid and lists, as defs. -/
namespace K05
open PySem PySem.Spec PyProof.Rows L2 Fd Tx
def pairD (k : Kd) : D := .tup [.str k.1, .lst (k.2.map D.str)]
def rowX (x : Str) (s : List Int) : List D := .str x :: s.map D.int
def oneI (t : Nat) : List (List D) := (List.range (t + 1)).map fun n => [D.int (Int.ofNat n)]
theorem long_step (x : Str) (found : List (List Int)) (t : Nat) : longF (found.map (rowX x)) (oneI t) = (stepN found t).map (rowX x) := by
  unfold longF stepN oneI
  rw [List.flatMap_map, List.map_flatMap]
  refine congrArg (List.flatMap · found) (funext fun s => ?_)
  rw [List.map_map, List.map_map]
  refine List.map_congr_left fun n _ => ?_
  show D.str x :: s.map D.int ++ [D.int (Int.ofNat n)] = D.str x :: (s ++ [Int.ofNat n]).map D.int
  rw [List.map_append]; rfl
theorem long_lists (rows : List D) (found : List (List D)) : longF found (rows.map fun r => [r]) = stepL rows found := by
  unfold longF stepL
  refine congrArg (List.flatMap · found) (funext fun s => ?_)
  rw [List.map_map]; rfl
def pGridOf (ds : List D) (d : D) : Prop := ∃ ks pks pxs tp, ds = [.lst (ks.map pairD), .dct pks pxs] ∧ Pw ks pks pxs tp ∧ ks.length ≤ 10 ∧ d = .lst (gridF ks tp)
def pListsOf (ds : List D) (d : D) : Prop := ∃ (rows : List D) (n : Nat), ds = [.lst rows, .int (n : Nat)] ∧ n ≤ 3 ∧ rows.length ≤ 90000 ∧ (∀ i, i ≤ n → rows.length ^ i ≤ 90000) ∧ d = .lst ((listsF rows n).map D.lst)
theorem scGridOf : FnScope ["_law_kinds", "_law_powers", "_law_out", "_law_kind", "_law_fields", "_law_part", "_law_power", "_law_number"] ["_law_kinds", "_law_powers"] (defScope sGridOf) := ⟨rfl, rfl, rfl, by decide +kernel, rfl, by decide +kernel, by decide +kernel⟩
theorem scListsOf : FnScope ["_law_grid", "_law_many", "_law_out", "_law_k", "_law_row_here"] ["_law_grid", "_law_many"] (defScope sListsOf) := ⟨rfl, rfl, rfl, by decide +kernel, rfl, by decide +kernel, by decide +kernel⟩
def slot (s : Fd.S) : Prop := s = .no ∨ ∃ d, s = .d d
section
variable {T : List (Addr × Str)} {P : Program} {w : World} {K : PySem.W.Frag} {mg : Str → Option Value} {base : Heap} {f : Addr} {fd : FuncData}
theorem ok_gridOf (F : Fun K "_law_grid_of" "_law_grid_of" sGridOf f fd) (B : Fre mg) (G : FD T P w K mg base "_law_longer" 2 1 pLonger) : FnOk P w K mg base CX0 2 f fd ["_law_kinds", "_law_powers"] (spD T K 2 pGridOf) := by
  refine fd_ok F scGridOf rfl fun cdv A outer s H E ds d hr _ ⟨ks, pks, pxs, tp, e1, hP, hk, e2⟩ => ?_
  subst e1; subst e2
  refine svs_cons (sv_set 2 (d := .lst []) (ev_lst evs_nil) ?_ scGridOf.nd)
  refine svs_cons (sv_for (.many [3, 4]) (fun i ss => i ≤ ks.length ∧ ∃ s3 s4 s5 s6, ss = [.d (.lst (ks.map pairD)), .d (.dct pks pxs), .d (.lst (gridF (ks.take i) tp)), s3, s4, s5, s6, .no]) (iv_list (ev_var 0 rfl)) (pg_tup rfl (pgs_cons (pg_name (i := 3) scGridOf.nd rfl (Or.inl rfl)) (pgs_cons (pg_name (i := 4) scGridOf.nd rfl (Or.inl rfl)) pgs_nil))) ⟨Nat.zero_le _, .no, .no, .no, .no, rfl⟩ ?_ ?_)
  · rintro i y ss' hy ⟨hi, s3, s4, s5, s6, rfl⟩
    obtain ⟨k, hkk, rfl⟩ : ∃ k, ks[i]? = some k ∧ pairD k = y := by
      rw [List.getElem?_map] at hy
      exact Option.map_eq_some_iff.mp hy
    have hlt : i < ks.length := (List.getElem?_eq_some_iff.mp hkk).1
    have hmem := List.mem_of_getElem? hkk
    obtain ⟨dv, hl1, hq⟩ := hP.at_ k hmem
    obtain ⟨le1, le2⟩ := hP.le k hmem
    refine ⟨rfl, svs_cons (sv_set 5 (d := .lst ([[.str k.1]].map D.tup)) (ev_lst (evs_cons (ev_tup (evs_cons (ev_var 3 rfl) evs_nil)) evs_nil)) ?_ scGridOf.nd)⟩
    refine svs_cons (sv_for (.one 6) (fun j ss => j ≤ (tp k.1).length ∧ ∃ s6, ss = [.d (.lst (ks.map pairD)), .d (.dct pks pxs), .d (.lst (gridF (ks.take i) tp)), .d (.str k.1), .d (.lst (k.2.map D.str)), .d (.lst (((smallF ((tp k.1).take j)).map (rowX k.1)).map D.tup)), s6, .no]) (iv_seq hq (ev_getD (kk := Sum.inr k.1) hr (ev_var 1 rfl) (ev_var 3 rfl) hl1)) (pg_name (i := 6) scGridOf.nd rfl (Or.inl rfl)) ⟨Nat.zero_le _, s6, rfl⟩ ?_ ?_)
    · rintro j y ss' hy ⟨hj, s6', rfl⟩
      obtain ⟨t, hn, rfl⟩ : ∃ t, (tp k.1)[j]? = some t ∧ D.int (t : Nat) = y := by
        rw [List.getElem?_map] at hy
        exact Option.map_eq_some_iff.mp hy
      have hjl : j < (tp k.1).length := (List.getElem?_eq_some_iff.mp hn).1
      have ht3 := le2 t (List.mem_of_getElem? hn)
      have hb := small_len ((tp k.1).take j) fun x hx => le2 x (List.mem_of_mem_take hx)
      have hb2 : (smallF ((tp k.1).take j)).length ≤ 64 := Nat.le_trans hb (by rw [List.length_take]; exact Nat.le_trans (Nat.pow_le_pow_right (by decide) (show min j (tp k.1).length ≤ 3 by omega)) (by decide))
      have one_len : (oneI t).length = t + 1 := by unfold oneI; rw [List.length_map, List.length_range]
      refine ⟨rfl, svs_one (sv_set 5 (d := .lst (((smallF ((tp k.1).take (j + 1))).map (rowX k.1)).map D.tup)) (ev_call G (hr.mono (by decide)) (evs_cons (ev_var 5 rfl) (evs_cons (EV.cast (d' := .lst ((oneI t).map (mkB true))) (ev_lc [("_law_number", 7)] (.one 7) (fun _ => true) (fun y => .tup [y]) (iv_range1 (ev_add (ev_var 6 rfl) ev_int) (by omega) B.range) (id (α := BlkOk ["_law_kinds", "_law_powers", "_law_out", "_law_kind", "_law_fields", "_law_part", "_law_power", "_law_number"] (defScope sGridOf) _ [("_law_number", 7)]) ⟨rfl, by decide +kernel, by decide +kernel, by decide +kernel, by decide +kernel⟩)
        (fun s H C cl fp => pg_name (i := 7) scGridOf.nd rfl (Or.inl rfl)) (fun s H C' cl fp y hy => ts_nil) (fun s H C' cl fp y hy hk => ev_tup (evs_cons (ev_var 7 rfl) evs_nil)) scGridOf.nd (fun _ _ => rfl) ?_) ?_) evs_nil)) ⟨true, (smallF ((tp k.1).take j)).map (rowX k.1), oneI t, rfl, ?_, by omega, fun s hs => .inl ?_, fun s hs => ?_, ?_⟩) ⟨hjl, .d (.int (t : Nat)), rfl⟩ scGridOf.nd)⟩
      · unfold rng; rw [List.length_map, List.length_range]; omega
      · refine congrArg D.lst ?_
        unfold outs oneI rng
        rw [List.filter_eq_self.mpr fun _ _ => rfl, List.map_map, List.map_map, show ((t : Int) + 1).toNat = t + 1 by omega]
        refine List.map_congr_left fun n _ => ?_
        show D.tup [D.int (0 + (n : Int))] = D.tup [D.int (Int.ofNat n)]
        rw [Int.zero_add]; rfl
      · rw [List.length_map, one_len]
        have := Nat.mul_le_mul hb2 (show t + 1 ≤ 4 by omega)
        omega
      · obtain ⟨r, hr2, rfl⟩ := List.mem_map.mp hs
        have := small_each _ r hr2
        rw [List.length_take] at this
        refine ⟨?_, by unfold rowX; exact List.cons_ne_nil _ _⟩
        show (D.str k.1 :: r.map D.int).length ≤ 100
        rw [List.length_cons, List.length_map]; omega
      · obtain ⟨r, _, rfl⟩ := List.mem_map.mp hs
        show 1 ≤ 100
        decide
      · rw [List.take_succ, hn]
        show D.lst (((smallF ((tp k.1).take j ++ [t])).map (rowX k.1)).map D.tup) = _
        rw [small_snoc, long_step]; rfl
    · rintro ss' ⟨_, s6', rfl⟩
      rw [List.length_map, List.take_length]
      have hgl := grid_len (ks := ks.take i) (tp := tp) fun k hk => hP.le k (List.mem_of_mem_take hk)
      rw [List.length_take] at hgl
      have hb := small_len (tp k.1) le2
      have hb2 : (smallF (tp k.1)).length ≤ 64 := Nat.le_trans hb (Nat.le_trans (Nat.pow_le_pow_right (by decide) le1) (by decide))
      refine svs_one (sv_set 2 (ev_cat (by rw [List.length_map, List.length_map]; omega) (ev_var 2 rfl) (ev_var 5 rfl)) ⟨hlt, .d (.str k.1), .d (.lst (k.2.map D.str)), .d (.lst (((smallF (tp k.1)).map (rowX k.1)).map D.tup)), s6', ?_⟩ scGridOf.nd)
      have : gridF (ks.take (i + 1)) tp = gridF (ks.take i) tp ++ (smallF (tp k.1)).map (rowT k.1) := by
        unfold gridF
        rw [List.take_succ, hkk, List.flatMap_append]
        simp
      rw [this, List.map_map]; rfl
  · rintro ss' ⟨_, s3, s4, s5, s6, rfl⟩
    rw [List.length_map, List.take_length]
    exact svs_one (sv_ret (ev_var 2 rfl) rfl)
theorem ok_listsOf (F : Fun K "_law_lists_of" "_law_lists_of" sListsOf f fd) (B : Fre mg) (G : FD T P w K mg base "_law_longer" 2 1 pLonger) : FnOk P w K mg base CX0 2 f fd ["_law_grid", "_law_many"] (spD T K 2 pListsOf) := by
  refine fd_ok F scListsOf rfl fun cdv A outer s H E ds d hr _ ⟨rows, n, e1, hn, hrl, hl, e2⟩ => ?_
  subst e1; subst e2
  refine svs_cons (sv_set 2 (d := .lst ([[]].map D.lst)) (ev_lst (evs_cons (ev_lst evs_nil) evs_nil)) ?_ scListsOf.nd)
  refine svs_cons (sv_for (.one 3) (fun i ss => i ≤ n ∧ ∃ s3, ss = [.d (.lst rows), .d (.int (n : Nat)), .d (.lst ((listsF rows i).map D.lst)), s3, .no]) (iv_range1 (ev_var 1 rfl) (by omega) B.range) (pg_name (i := 3) scListsOf.nd rfl (Or.inl rfl)) ⟨Nat.zero_le _, .no, rfl⟩ ?_ ?_)
  · rintro i y ss' hy ⟨hi, s3, rfl⟩
    have hlt : i < n := by
      have := (List.getElem?_eq_some_iff.mp hy).1
      unfold rng at this
      rw [List.length_map, List.length_range] at this; omega
    refine ⟨rfl, svs_one (sv_set 2 (d := .lst ((listsF rows (i + 1)).map D.lst)) (ev_call G hr (evs_cons (ev_var 2 rfl) (evs_cons (EV.cast (d' := .lst ((rows.map fun r => [r]).map (mkB false))) (ev_lc [("_law_row_here", 4)] (.one 4) (fun _ => true) (fun y => .lst [y]) (iv_list (ev_var 0 rfl)) (id (α := BlkOk ["_law_grid", "_law_many", "_law_out", "_law_k", "_law_row_here"] (defScope sListsOf) _ [("_law_row_here", 4)]) ⟨rfl, by decide +kernel, by decide +kernel, by decide +kernel, by decide +kernel⟩)
      (fun s H C cl fp => pg_name (i := 4) scListsOf.nd rfl (Or.inl rfl)) (fun s H C' cl fp y hy => ts_nil) (fun s H C' cl fp y hy hk => ev_lst (evs_cons (ev_var 4 rfl) evs_nil)) scListsOf.nd (fun _ _ => rfl) (by omega)) ?_) evs_nil)) ⟨false, listsF rows i, rows.map fun r => [r], rfl, ?_, by rw [List.length_map]; omega, fun s hs => .inr ⟨rfl, by rw [lists_each _ _ s hs]; omega⟩, fun s hs => ?_, ?_⟩) ⟨hlt, _, rfl⟩ scListsOf.nd)⟩
    · refine congrArg D.lst ?_
      unfold outs
      rw [List.filter_eq_self.mpr fun _ _ => rfl, List.map_map]
      rfl
    · rw [List.length_map, lists_len, ← Nat.pow_succ]
      exact hl (i + 1) hlt
    · obtain ⟨r, _, rfl⟩ := List.mem_map.mp hs
      show 1 ≤ 100
      decide
    · rw [long_lists]; rfl
  · rintro ss' ⟨_, s3, rfl⟩
    have rl : (rng 0 (n : Int).toNat).length = n := by unfold rng; rw [List.length_map, List.length_range]; omega
    rw [rl]
    exact svs_one (sv_ret (ev_var 2 rfl) rfl)
end
end K05

set_option Elab.async false
set_option linter.all false
set_option maxRecDepth 100000
set_option maxHeartbeats 4000000
/-! K05p: the kinds of a shape, and five wide ones. -/
namespace K05
open PySem PySem.Spec PyProof.Rows L2 Fd Tx
def Z2 : List Int := [8, 8] ++ List.replicate 8 (8 * 26 ^ 8)
def Z8 : List Int := List.replicate 8 (8 * 26 ^ 8)
def rowF (c : Int) (zs : List Int) : List Nat := (rowL c zs).map Int.toNat
def rowD (R : List Nat) : List D := R.map fun n => D.int (n : Nat)
theorem rowF_eq {c : Int} {zs : List Int} (hp : ∀ z ∈ zs, 0 < z) : (rowL c zs).map D.int = rowD (rowF c zs) := by
  unfold rowD rowF
  rw [List.map_map]
  refine List.ext_getElem? fun i => ?_
  rw [List.getElem?_map, List.getElem?_map]
  by_cases hi : i < zs.length
  · obtain ⟨v, e, _⟩ := rowL_at c (List.getElem?_eq_getElem hi) (hp _ (List.getElem_mem hi))
    rw [e]; rfl
  · rw [List.getElem?_eq_none (by rw [rowL_len]; omega)]; rfl
theorem rowF_at {c : Int} {zs : List Int} {i : Nat} {z : Int} (h : zs[i]? = some z) (hz : 0 < z) : ∃ v : Nat, (rowF c zs)[i]? = some v ∧ (v : Int) < z := by
  obtain ⟨v, e, l⟩ := rowL_at c h hz
  exact ⟨v, by unfold rowF; rw [List.getElem?_map, e]; rfl, l⟩
theorem rowF_len (c : Int) (zs : List Int) : (rowF c zs).length = zs.length := by unfold rowF; rw [List.length_map, rowL_len]
theorem rowD_get {R : List Nat} {i v : Nat} (h : R[i]? = some v) : (rowD R)[i]? = some (.int (v : Nat)) := by unfold rowD; rw [List.getElem?_map, h]; rfl
theorem getD_some {α : Type} {l : List α} {i : Nat} {v d : α} (h : l[i]? = some v) : l.getD i d = v := by rw [List.getD_eq_getElem?_getD, h]; rfl
theorem cut_nat {xs : List D} {a b : Nat} (ha : a ≤ xs.length) (hb : b ≤ xs.length) : Fd.cutD xs (some (a : Int)) (some (b : Int)) = (xs.drop a).take (b - a) := by
  unfold Fd.cutD
  rw [HT.sIx_nat, HT.sIx_nat, Nat.min_eq_left ha, Nat.min_eq_left hb]
theorem cut_from {xs : List D} {a : Nat} (ha : a ≤ xs.length) : Fd.cutD xs (some (a : Int)) none = xs.drop a := by
  unfold Fd.cutD
  rw [HT.sIx_nat, Nat.min_eq_left ha]
  show (xs.drop a).take (xs.length - a) = _
  rw [List.take_of_length_le (by rw [List.length_drop]; exact Nat.le_refl _)]
theorem eight : ∀ {l : List Str}, l.length = 8 → ∃ a b c d e f g h, l = [a, b, c, d, e, f, g, h]
  | [a, b, c, d, e, f, g, h], _ => ⟨a, b, c, d, e, f, g, h, rfl⟩
def RA : Str := Str.ofString "ra"
def RB : Str := Str.ofString "rb"
def wsOf (R : List Nat) : List Str := wordsF [] R
def freeAB (r1 : Nat) (ws : List Str) : Bool := decide ((r1 : Int) = 0) && (!decide (RA ∈ ws) && !decide (RB ∈ ws))
def oneOf (r1 : Nat) (ws : List Str) : Str := if r1 = 2 then ws.getD 0 Str.empty else if freeAB r1 ws = true then RA else ws.getD 2 Str.empty
def twoOf (r1 : Nat) (ws : List Str) : Str := if freeAB r1 ws = true then RB else ws.getD 3 Str.empty
def menuK (ws : List Str) (one two : Str) : List (List Kd) :=
  let w := fun i => ws.getD i Str.empty
  [[(w 0, [one])], [(w 0, [one]), (w 1, [])], [(w 0, [one, two])], [(w 0, []), (w 1, [])], [(w 0, [one]), (w 1, [two])], [(w 0, [one]), (w 1, [one])], [(w 1, [])], [(w 0, [one]), (w 7, []), (w 1, [])]]
def shapeK (c : Int) : List Kd :=
  let R := rowF c Z2
  let ws := wsOf (R.drop 2)
  let r1 := R.getD 1 0
  (menuK ws (oneOf r1 ws) (twoOf r1 ws)).getD (R.getD 0 0) []
def shapeN (c : Int) : List Str :=
  let R := rowF c Z2
  let ws := wsOf (R.drop 2)
  if R.getD 1 0 = 1 then ws.getD 0 Str.empty :: (ws.drop 5).take 2 else (ws.drop 4).take 3
def shapeOut (r0 r1 : Nat) (ws : List Str) : D := .tup [.lst (((menuK ws (oneOf r1 ws) (twoOf r1 ws)).getD r0 []).map pairD), .lst ((if r1 = 1 then ws.getD 0 Str.empty :: (ws.drop 5).take 2 else (ws.drop 4).take 3).map D.str)]
def wideK (c : Int) : List Kd :=
  let ws := wsOf (rowF c Z8)
  let w := fun i => ws.getD i Str.empty
  [(w 0, [w 1, w 2, w 3]), (w 4, []), (w 5, [w 1]), (w 6, [w 3, w 2]), (w 7, [])]
def pShape (ds : List D) (d : D) : Prop := ∃ c : Int, ds = [.int c] ∧ d = .tup [.lst ((shapeK c).map pairD), .lst ((shapeN c).map D.str)]
def pWide (ds : List D) (d : D) : Prop := ∃ c : Int, ds = [.int c] ∧ d = .lst ((wideK c).map pairD)
theorem scShape : FnScope ["_law_cell_here", "_law_row_here", "_law_words_here", "_law_one", "_law_two", "_law_kinds", "_law_names"] ["_law_cell_here"] (defScope sShape) := ⟨rfl, rfl, rfl, by decide +kernel, rfl, by decide +kernel, by decide +kernel⟩
theorem scWide : FnScope ["_law_cell_here", "_law_words_here", "_law_one", "_law_two", "_law_three", "_law_out"] ["_law_cell_here"] (defScope sWide) := ⟨rfl, rfl, rfl, by decide +kernel, rfl, by decide +kernel, by decide +kernel⟩
section
variable {T : List (Addr × Str)} {X : Cx} {ss : SS} {e tg : Expr} {xs : List D} {P : Post} {pos : Pos}
/-- a, b, .. = e, e a list -/
theorem sv_unl (js : List Nat) (he : EV T X e ss (.lst xs)) (hg : PG X tg (gOf X.K (.manyL js))) (hf : (Tg.manyL js).fits (.lst xs) = true) (k : P.nx ((Tg.manyL js).put (.lst xs) ss)) (h1 : swapsWithSole [tg] e pos.line X.env = pure false := by rfl) (h2 : swappedStores [tg] e X.env = pure none := by rfl) (h3 : (assignEach [tg] X.env).map (·.2) = [assign tg X.env] := by rfl) : SV T X (.Assign [tg] e pos) ss P :=
  SV.of (ps_asg he hg h1 h2 h3) fun B F H σ Dn R g => ev_go R fun v F1 H1 n1 R1 i1 => tg_go (ws := []) R1 i1 hf (fun _ _ => .inr rfl) fun σ' R2 _ => g.nx _ _ _ _ k R2
end
section
variable {T : List (Addr × Str)} {X : Cx} {ss : SS} {e tg : Expr} {d : D} {P : Post} {pos : Pos}
/-- a, b, .. = e -/
theorem sv_tg (t : Tg) (he : EV T X e ss d) (hg : PG X tg (gOf X.K t)) (hf : t.fits d = true) (k : P.nx (t.put d ss)) (h1 : swapsWithSole [tg] e pos.line X.env = pure false := by rfl) (h2 : swappedStores [tg] e X.env = pure none := by rfl) (h3 : (assignEach [tg] X.env).map (·.2) = [assign tg X.env] := by rfl) : SV T X (.Assign [tg] e pos) ss P :=
  SV.of (ps_asg he hg h1 h2 h3) fun B F H σ Dn R g => ev_go R fun v F1 H1 n1 R1 i1 => tg_go (ws := []) R1 i1 hf (fun _ _ => .inr rfl) fun σ' R2 _ => g.nx _ _ _ _ k R2
end
theorem z2_pos : ∀ z ∈ Z2, 0 < z ∧ z ≤ 10 ^ 30 := by decide +kernel
theorem z8_pos : ∀ z ∈ Z8, 0 < z ∧ z ≤ 10 ^ 30 := by decide +kernel
section
variable {T : List (Addr × Str)} {P : Program} {w : World} {K : PySem.W.Frag} {mg : Str → Option Value} {base : Heap} {f : Addr} {fd : FuncData}
theorem ok_wide (F : Fun K "_law_wide" "_law_wide" sWide f fd) (GR : FD T P w K mg base "_law_row" 2 1 pRow) (GW : FD T P w K mg base "_law_words" 1 2 pWords) : FnOk P w K mg base CX0 3 f fd ["_law_cell_here"] (spD T K 1 pWide) := by
  refine fd_ok F scWide rfl fun cdv A outer s H E ds d hr _ ⟨c, e1, e2⟩ => ?_
  subst e1; subst e2
  have h8 : (rowF c Z8).length = 8 := rowF_len c Z8
  obtain ⟨fine, lw⟩ := words_fine (rowF c Z8) (acc := []) ⟨by simp, by simp⟩ (by rw [h8]; decide)
  have lw : (wsOf (rowF c Z8)).length = 8 := by have : (wsOf (rowF c Z8)).length = 0 + (rowF c Z8).length := lw; omega
  refine svs_cons (sv_set 1 (d := .lst ((wsOf (rowF c Z8)).map D.str)) (ev_call GW hr (evs_cons (EV.cast (d' := .lst (rowD (rowF c Z8))) (ev_call GR (hr.mono (by decide)) (evs_cons (ev_var 0 rfl) (evs_cons (EV.cast (ev_rep (k := 8) (xs := [D.int (8 * 26 ^ 8)]) ⟨by decide, by decide⟩ (by decide) (ev_lst (evs_cons (EV.cast (ev_mul (i := 8) (j := 26 ^ 8) (.inl ⟨by decide, by decide⟩) ev_int (EV.cast (ev_pow (i := 26) (j := 8) ⟨by decide, by decide, by decide⟩ ev_int ev_int) rfl)) rfl) evs_nil)) ev_int) (show _ = D.lst (Z8.map D.int) from rfl)) evs_nil)) ⟨c, Z8, rfl, by decide, z8_pos, rfl⟩) (by rw [rowF_eq fun z hz => (z8_pos z hz).1])) evs_nil) ⟨_, rfl, by rw [h8]; decide, rfl⟩) ?_ scWide.nd)
  unfold wideK
  show SVs T _ _ _ _
  generalize wsOf (rowF c Z8) = ws at lw ⊢
  obtain ⟨w0, w1, w2, w3, w4, w5, w6, w7, rfl⟩ := eight lw
  refine svs_cons (sv_unl [2, 3, 4] (xs := [.str w1, .str w2, .str w3]) (EV.cast (ev_cutL (l := some ((1 : Nat) : Int)) (u := some ((4 : Nat) : Int)) (.inl rfl) (ev_var 1 rfl) (pv_some ev_int) (pv_some ev_int)) rfl) (pg_unl rfl (pgs_cons (pg_name (i := 2) scWide.nd rfl (Or.inl rfl)) (pgs_cons (pg_name (i := 3) scWide.nd rfl (Or.inl rfl)) (pgs_cons (pg_name (i := 4) scWide.nd rfl (Or.inl rfl)) pgs_nil)))) rfl ?_)
  refine svs_cons (sv_set 5 (d := .lst ([(w0, [w1, w2, w3]), (w4, []), (w5, [w1])].map pairD)) (ev_lst (evs_cons (ev_tup (evs_cons (ev_ixL (xs := [w0, w1, w2, w3, w4, w5, w6, w7].map D.str) ⟨0, rfl, rfl⟩ (ev_var 1 rfl) ev_int) (evs_cons (ev_lst (evs_cons (ev_var 2 rfl) (evs_cons (ev_var 3 rfl) (evs_cons (ev_var 4 rfl) evs_nil)))) evs_nil))) (evs_cons (ev_tup (evs_cons (ev_ixL (xs := [w0, w1, w2, w3, w4, w5, w6, w7].map D.str) ⟨4, rfl, rfl⟩ (ev_var 1 rfl) ev_int) (evs_cons (ev_lst evs_nil) evs_nil))) (evs_cons (ev_tup (evs_cons (ev_ixL (xs := [w0, w1, w2, w3, w4, w5, w6, w7].map D.str) ⟨5, rfl, rfl⟩ (ev_var 1 rfl) ev_int) (evs_cons (ev_lst (evs_cons (ev_var 2 rfl) evs_nil)) evs_nil))) evs_nil)))) ?_ scWide.nd)
  exact svs_one (sv_ret (EV.cast (ev_cat (xs := [(w0, [w1, w2, w3]), (w4, []), (w5, [w1])].map pairD) (ys := [(w6, [w3, w2]), (w7, [])].map pairD) (by simp) (ev_var 5 rfl) (ev_lst (evs_cons (ev_tup (evs_cons (ev_ixL (xs := [w0, w1, w2, w3, w4, w5, w6, w7].map D.str) ⟨6, rfl, rfl⟩ (ev_var 1 rfl) ev_int) (evs_cons (ev_lst (evs_cons (ev_var 4 rfl) (evs_cons (ev_var 3 rfl) evs_nil))) evs_nil))) (evs_cons (ev_tup (evs_cons (ev_ixL (xs := [w0, w1, w2, w3, w4, w5, w6, w7].map D.str) ⟨7, rfl, rfl⟩ (ev_var 1 rfl) ev_int) (evs_cons (ev_lst evs_nil) evs_nil))) evs_nil)))) rfl) rfl)
theorem ok_shape (F : Fun K "_law_shape" "_law_shape" sShape f fd) (GR : FD T P w K mg base "_law_row" 2 1 pRow) (GW : FD T P w K mg base "_law_words" 1 2 pWords) : FnOk P w K mg base CX0 3 f fd ["_law_cell_here"] (spD T K 1 pShape) := by
  refine fd_ok F scShape rfl fun cdv A outer s H E ds d hr _ ⟨c, e1, e2⟩ => ?_
  subst e1; subst e2
  have h10 : (rowF c Z2).length = 10 := rowF_len c Z2
  have h8 : ((rowF c Z2).drop 2).length = 8 := by rw [List.length_drop, h10]
  obtain ⟨r0, g0, l0⟩ := rowF_at (c := c) (zs := Z2) (i := 0) (z := 8) rfl (by decide)
  obtain ⟨r1, g1, l1⟩ := rowF_at (c := c) (zs := Z2) (i := 1) (z := 8) rfl (by decide)
  obtain ⟨fine, lw⟩ := words_fine ((rowF c Z2).drop 2) (acc := []) ⟨by simp, by simp⟩ (by rw [h8]; decide)
  have lw : (wsOf ((rowF c Z2).drop 2)).length = 8 := by have : (wsOf ((rowF c Z2).drop 2)).length = 0 + ((rowF c Z2).drop 2).length := lw; omega
  have hR : (rowD (rowF c Z2)).length = 10 := by unfold rowD; rw [List.length_map, h10]
  have fine' : Fine (wsOf ((rowF c Z2).drop 2)) := fine
  have eo : D.tup [.lst ((shapeK c).map pairD), .lst ((shapeN c).map D.str)] = shapeOut r0 r1 (wsOf ((rowF c Z2).drop 2)) := by
    unfold shapeK shapeN shapeOut
    dsimp only
    rw [show (rowF c Z2).getD 0 0 = r0 from getD_some g0, show (rowF c Z2).getD 1 0 = r1 from getD_some g1]
  rw [eo]
  refine svs_cons (sv_set 1 (d := .lst (rowD (rowF c Z2))) (EV.cast (ev_call GR (hr.mono (by decide)) (evs_cons (ev_var 0 rfl) (evs_cons (EV.cast (ev_cat (xs := [8, 8].map D.int) (ys := (List.replicate 8 [D.int (8 * 26 ^ 8)]).flatten) (by decide) (ev_lst (evs_cons ev_int (evs_cons ev_int evs_nil))) (EV.cast (ev_rep (k := 8) (xs := [D.int (8 * 26 ^ 8)]) ⟨by decide, by decide⟩ (by decide) (ev_lst (evs_cons (EV.cast (ev_mul (i := 8) (j := 26 ^ 8) (.inl ⟨by decide, by decide⟩) ev_int (EV.cast (ev_pow (i := 26) (j := 8) ⟨by decide, by decide, by decide⟩ ev_int ev_int) rfl)) rfl) evs_nil)) ev_int) rfl)) (show _ = D.lst (Z2.map D.int) from rfl)) evs_nil)) ⟨c, Z2, rfl, by decide, z2_pos, rfl⟩) (by rw [rowF_eq fun z hz => (z2_pos z hz).1])) ?_ scShape.nd)
  refine svs_cons (sv_set 2 (d := .lst ((wsOf ((rowF c Z2).drop 2)).map D.str)) (ev_call GW hr (evs_cons (EV.cast (d' := .lst (rowD ((rowF c Z2).drop 2))) (ev_cutL (l := some ((2 : Nat) : Int)) (.inl rfl) (ev_var 1 rfl) (pv_some ev_int) pv_none) (by rw [cut_from (by rw [hR]; decide)]; unfold rowD; rw [List.map_drop])) evs_nil) ⟨_, rfl, by rw [h8]; decide, rfl⟩) ?_ scShape.nd)
  have q0 := rowD_get g0
  have q1 := rowD_get g1
  generalize rowD (rowF c Z2) = row at q0 q1 ⊢
  generalize wsOf ((rowF c Z2).drop 2) = ws at lw fine' ⊢
  obtain ⟨w0, w1, w2, w3, w4, w5, w6, w7, rfl⟩ := eight lw
  have pd : ∀ z ∈ [w0, w1, w2, w3, w4, w5, w6, w7], PyData.strOk z = true := fun z hz => (nm_ok (fine'.nm z hz)).2
  have wx : ∀ {e1 e2 : Expr} {pos : Pos} {X : Cx} {ss : SS} {k : Nat} {x : Str}, [w0, w1, w2, w3, w4, w5, w6, w7][k]? = some x → EV T X e1 ss (.lst ([w0, w1, w2, w3, w4, w5, w6, w7].map D.str)) → EV T X e2 ss (.int (k : Nat)) → PlainIx e2 → EV T X (.Subscript e1 e2 pos) ss (.str x) := fun hx h1 h2 h3 => ev_ixL ⟨_, rfl, by rw [List.getElem?_map, hx]; rfl⟩ h1 h2 h3
  have rest2 : SVs T (bodyX CX0 P w K mg base ["_law_cell_here", "_law_row_here", "_law_words_here", "_law_one", "_law_two", "_law_kinds", "_law_names"] "_law_shape" sShape f cdv A outer s H E) ((defBody sShape).drop 5) [.d (.int c), .d (.lst row), .d (.lst ([w0, w1, w2, w3, w4, w5, w6, w7].map D.str)), .d (.str (oneOf r1 [w0, w1, w2, w3, w4, w5, w6, w7])), .d (.str (twoOf r1 [w0, w1, w2, w3, w4, w5, w6, w7])), .no, .no] { nx := fun _ => shapeOut r0 r1 [w0, w1, w2, w3, w4, w5, w6, w7] = .non, rt := fun d' => d' = shapeOut r0 r1 [w0, w1, w2, w3, w4, w5, w6, w7] } := by
    unfold shapeOut
    generalize oneOf r1 [w0, w1, w2, w3, w4, w5, w6, w7] = one
    generalize twoOf r1 [w0, w1, w2, w3, w4, w5, w6, w7] = two
    have a0 : EV T (bodyX CX0 P w K mg base ["_law_cell_here", "_law_row_here", "_law_words_here", "_law_one", "_law_two", "_law_kinds", "_law_names"] "_law_shape" sShape f cdv A outer s H E) (.List [] pT) [.d (.int c), .d (.lst row), .d (.lst ([w0, w1, w2, w3, w4, w5, w6, w7].map D.str)), .d (.str one), .d (.str two), .no, .no] (.lst []) := ev_lst evs_nil
    have hm : ((menuK [w0, w1, w2, w3, w4, w5, w6, w7] one two).map fun l => D.lst (l.map pairD))[r0]? = some (.lst (((menuK [w0, w1, w2, w3, w4, w5, w6, w7] one two).getD r0 []).map pairD)) := by
      have hl : r0 < (menuK [w0, w1, w2, w3, w4, w5, w6, w7] one two).length := by show r0 < 8; omega
      rw [List.getElem?_map, List.getElem?_eq_getElem hl, getD_some (List.getElem?_eq_getElem hl)]; rfl
    refine svs_cons (sv_set 5 (ev_ixL (xs := (menuK [w0, w1, w2, w3, w4, w5, w6, w7] one two).map fun l => D.lst (l.map pairD)) ⟨r0, rfl, hm⟩ (ev_lst
      (evs_cons (ev_lst (evs_cons (ev_tup (evs_cons (wx (k := 0) rfl (ev_var 2 rfl) ev_int (fun _ _ => rfl)) (evs_cons (ev_lst (evs_cons (ev_var 3 rfl) evs_nil)) evs_nil))) evs_nil))
      (evs_cons (ev_lst (evs_cons (ev_tup (evs_cons (wx (k := 0) rfl (ev_var 2 rfl) ev_int (fun _ _ => rfl)) (evs_cons (ev_lst (evs_cons (ev_var 3 rfl) evs_nil)) evs_nil))) (evs_cons (ev_tup (evs_cons (wx (k := 1) rfl (ev_var 2 rfl) ev_int (fun _ _ => rfl)) (evs_cons (ev_lst evs_nil) evs_nil))) evs_nil)))
      (evs_cons (ev_lst (evs_cons (ev_tup (evs_cons (wx (k := 0) rfl (ev_var 2 rfl) ev_int (fun _ _ => rfl)) (evs_cons (ev_lst (evs_cons (ev_var 3 rfl) (evs_cons (ev_var 4 rfl) evs_nil))) evs_nil))) evs_nil))
      (evs_cons (ev_lst (evs_cons (ev_tup (evs_cons (wx (k := 0) rfl (ev_var 2 rfl) ev_int (fun _ _ => rfl)) (evs_cons (ev_lst evs_nil) evs_nil))) (evs_cons (ev_tup (evs_cons (wx (k := 1) rfl (ev_var 2 rfl) ev_int (fun _ _ => rfl)) (evs_cons (ev_lst evs_nil) evs_nil))) evs_nil)))
      (evs_cons (ev_lst (evs_cons (ev_tup (evs_cons (wx (k := 0) rfl (ev_var 2 rfl) ev_int (fun _ _ => rfl)) (evs_cons (ev_lst (evs_cons (ev_var 3 rfl) evs_nil)) evs_nil))) (evs_cons (ev_tup (evs_cons (wx (k := 1) rfl (ev_var 2 rfl) ev_int (fun _ _ => rfl)) (evs_cons (ev_lst (evs_cons (ev_var 4 rfl) evs_nil)) evs_nil))) evs_nil)))
      (evs_cons (ev_lst (evs_cons (ev_tup (evs_cons (wx (k := 0) rfl (ev_var 2 rfl) ev_int (fun _ _ => rfl)) (evs_cons (ev_lst (evs_cons (ev_var 3 rfl) evs_nil)) evs_nil))) (evs_cons (ev_tup (evs_cons (wx (k := 1) rfl (ev_var 2 rfl) ev_int (fun _ _ => rfl)) (evs_cons (ev_lst (evs_cons (ev_var 3 rfl) evs_nil)) evs_nil))) evs_nil)))
      (evs_cons (ev_lst (evs_cons (ev_tup (evs_cons (wx (k := 1) rfl (ev_var 2 rfl) ev_int (fun _ _ => rfl)) (evs_cons (ev_lst evs_nil) evs_nil))) evs_nil))
      (evs_cons (ev_lst (evs_cons (ev_tup (evs_cons (wx (k := 0) rfl (ev_var 2 rfl) ev_int (fun _ _ => rfl)) (evs_cons (ev_lst (evs_cons (ev_var 3 rfl) evs_nil)) evs_nil))) (evs_cons (ev_tup (evs_cons (wx (k := 7) rfl (ev_var 2 rfl) ev_int (fun _ _ => rfl)) (evs_cons (ev_lst evs_nil) evs_nil))) (evs_cons (ev_tup (evs_cons (wx (k := 1) rfl (ev_var 2 rfl) ev_int (fun _ _ => rfl)) (evs_cons (ev_lst evs_nil) evs_nil))) evs_nil)))) evs_nil))))))))) (ev_ixL ⟨0, rfl, q0⟩ (ev_var 1 rfl) ev_int)) ?_ scShape.nd)
    refine svs_cons (sv_set 6 (d := .lst ([w4, w5, w6].map D.str)) (EV.cast (ev_cutL (l := some ((4 : Nat) : Int)) (u := some ((7 : Nat) : Int)) (.inl rfl) (ev_var 2 rfl) (pv_some ev_int) (pv_some ev_int)) rfl) ?_ scShape.nd)
    refine svs_cons (sv_if (t := decide ((r1 : Int) = 1)) (tv_eqI (ev_ixL ⟨1, rfl, q1⟩ (ev_var 1 rfl) ev_int) ev_int) (fun z => ?_) fun z => svs_nil ?_)
    · have z1 : r1 = 1 := by have := of_decide_eq_true z; omega
      refine svs_one (sv_set 6 (d := .lst ([w0, w5, w6].map D.str)) (EV.cast (ev_cat (xs := [.str w0]) (ys := [.str w5, .str w6]) (by simp) (ev_lst (evs_cons (wx (k := 0) rfl (ev_var 2 rfl) ev_int (fun _ _ => rfl)) evs_nil)) (EV.cast (ev_cutL (l := some ((5 : Nat) : Int)) (u := some ((7 : Nat) : Int)) (.inl rfl) (ev_var 2 rfl) (pv_some ev_int) (pv_some ev_int)) rfl)) rfl) ?_ scShape.nd)
      rw [if_pos z1]
      exact svs_one (sv_ret (ev_tup (evs_cons (ev_var 5 rfl) (evs_cons (ev_var 6 rfl) evs_nil))) rfl)
    · have z1 : ¬ r1 = 1 := by have := of_decide_eq_false z; omega
      rw [if_neg z1]
      exact svs_one (sv_ret (ev_tup (evs_cons (ev_var 5 rfl) (evs_cons (ev_var 6 rfl) evs_nil))) rfl)
  have rest : SVs T (bodyX CX0 P w K mg base ["_law_cell_here", "_law_row_here", "_law_words_here", "_law_one", "_law_two", "_law_kinds", "_law_names"] "_law_shape" sShape f cdv A outer s H E) ((defBody sShape).drop 4) [.d (.int c), .d (.lst row), .d (.lst ([w0, w1, w2, w3, w4, w5, w6, w7].map D.str)), .d (.str (if freeAB r1 [w0, w1, w2, w3, w4, w5, w6, w7] = true then RA else w2)), .d (.str (twoOf r1 [w0, w1, w2, w3, w4, w5, w6, w7])), .no, .no] { nx := fun _ => shapeOut r0 r1 [w0, w1, w2, w3, w4, w5, w6, w7] = .non, rt := fun d' => d' = shapeOut r0 r1 [w0, w1, w2, w3, w4, w5, w6, w7] } := by
    refine svs_cons (sv_if (t := decide ((r1 : Int) = 2)) (tv_eqI (ev_ixL ⟨1, rfl, q1⟩ (ev_var 1 rfl) ev_int) ev_int) (fun z => ?_) fun z => svs_nil ?_)
    · have z1 : r1 = 2 := by have := of_decide_eq_true z; omega
      refine svs_one (sv_set 3 (d := .str (oneOf r1 [w0, w1, w2, w3, w4, w5, w6, w7])) (EV.cast (wx (k := 0) rfl (ev_var 2 rfl) ev_int (fun _ _ => rfl)) (by unfold oneOf; rw [if_pos z1]; rfl)) rest2 scShape.nd)
    · have z1 : ¬ r1 = 2 := by have := of_decide_eq_false z; omega
      have : oneOf r1 [w0, w1, w2, w3, w4, w5, w6, w7] = if freeAB r1 [w0, w1, w2, w3, w4, w5, w6, w7] = true then RA else w2 := by unfold oneOf; rw [if_neg z1]; rfl
      rw [← this]
      exact rest2
  refine svs_cons (sv_par 3 4 (d1 := .str w2) (d2 := .str w3) (evs_cons (wx (k := 2) rfl (ev_var 2 rfl) ev_int (fun _ _ => rfl)) (evs_cons (wx (k := 3) rfl (ev_var 2 rfl) ev_int (fun _ _ => rfl)) evs_nil)) ?_ scShape.nd)
  refine svs_cons (sv_if (t := freeAB r1 [w0, w1, w2, w3, w4, w5, w6, w7]) (TW.tv (tw_andB (tv_eqI (ev_ixL ⟨1, rfl, q1⟩ (ev_var 1 rfl) ev_int) ev_int) fun _ => tw_andB (TV.cast (tv_notInL hr ev_str (ev_var 2 rfl) (.str (by decide +kernel)) (.strs pd)) (congrArg not (any_strs _ _))) fun _ => tw_and1 (TV.cast (tv_notInL hr ev_str (ev_var 2 rfl) (.str (by decide +kernel)) (.strs pd)) (congrArg not (any_strs _ _))))) (fun z => svs_one (sv_tg (.many [3, 4]) (d := .tup [.str RA, .str (twoOf r1 [w0, w1, w2, w3, w4, w5, w6, w7])]) (ev_tup (evs_cons (EV.cast ev_str rfl) (evs_cons (EV.cast ev_str (by unfold twoOf; rw [if_pos z]; rfl)) evs_nil))) (pg_tup rfl (pgs_cons (pg_name (i := 3) scShape.nd rfl (Or.inl rfl)) (pgs_cons (pg_name (i := 4) scShape.nd rfl (Or.inl rfl)) pgs_nil))) rfl ?_)) fun z => svs_nil ?_)
  · rw [if_pos z] at rest
    exact rest
  · have e1 : (if freeAB r1 [w0, w1, w2, w3, w4, w5, w6, w7] = true then RA else w2) = w2 := if_neg (by rw [z]; decide)
    have e2 : twoOf r1 [w0, w1, w2, w3, w4, w5, w6, w7] = w3 := by unfold twoOf; rw [if_neg (by rw [z]; decide)]; rfl
    rw [e1, e2] at rest
    exact rest
end
end K05

set_option Elab.async false
set_option linter.all false
set_option maxRecDepth 100000
set_option maxHeartbeats 4000000
/-! K05q: what the kinds of a shape are. -/
namespace K05
open PySem PySem.Spec PyProof.Rows L2 Fd Tx
structure KOk (l : List Kd) : Prop where
  nm : ∀ k ∈ l, nmOk k.1 = true ∧ k.2.length ≤ 3 ∧ (∀ z ∈ k.2, nmOk z = true) ∧ k.2.Nodup
  nd : (l.map (·.1)).Nodup
  ne : l ≠ []
  len : l.length ≤ 5
  sm : (l.map fun k => 4 ^ k.2.length).sum ≤ 300
theorem shape_ok (c : Int) : KOk (shapeK c) := by
  obtain ⟨r0, g0, l0⟩ := rowF_at (c := c) (zs := Z2) (i := 0) (z := 8) rfl (by decide)
  obtain ⟨r1, g1, l1⟩ := rowF_at (c := c) (zs := Z2) (i := 1) (z := 8) rfl (by decide)
  have h8 : ((rowF c Z2).drop 2).length = 8 := by rw [List.length_drop, rowF_len]; rfl
  obtain ⟨fine, lw⟩ := words_fine ((rowF c Z2).drop 2) (acc := []) ⟨by simp, by simp⟩ (by rw [h8]; decide)
  have lw : (wsOf ((rowF c Z2).drop 2)).length = 8 := by have : (wsOf ((rowF c Z2).drop 2)).length = 0 + ((rowF c Z2).drop 2).length := lw; omega
  have fine : Fine (wsOf ((rowF c Z2).drop 2)) := fine
  unfold shapeK
  dsimp only
  rw [show (rowF c Z2).getD 0 0 = r0 from getD_some g0, show (rowF c Z2).getD 1 0 = r1 from getD_some g1]
  generalize wsOf ((rowF c Z2).drop 2) = ws at lw fine ⊢
  obtain ⟨w0, w1, w2, w3, w4, w5, w6, w7, rfl⟩ := eight lw
  have nd := fine.nd
  have nm := fine.nm
  simp only [List.nodup_cons, List.mem_cons, List.not_mem_nil, or_false, not_or] at nd
  have n0 := nm w0 (by simp)
  have n1 := nm w1 (by simp)
  have n2 := nm w2 (by simp)
  have n3 := nm w3 (by simp)
  have n7 := nm w7 (by simp)
  have d01 : w0 ≠ w1 := nd.1.1
  have d07 : w0 ≠ w7 := nd.1.2.2.2.2.2.2
  have d17 : w1 ≠ w7 := nd.2.1.2.2.2.2.2
  have d03 : w0 ≠ w3 := nd.1.2.2.1
  have d23 : w2 ≠ w3 := nd.2.2.1.1
  have o : nmOk (oneOf r1 [w0, w1, w2, w3, w4, w5, w6, w7]) = true := by
    unfold oneOf
    split
    · exact n0
    · split
      · decide +kernel
      · exact n2
  have t : nmOk (twoOf r1 [w0, w1, w2, w3, w4, w5, w6, w7]) = true := by
    unfold twoOf
    split
    · decide +kernel
    · exact n3
  have dt : oneOf r1 [w0, w1, w2, w3, w4, w5, w6, w7] ≠ twoOf r1 [w0, w1, w2, w3, w4, w5, w6, w7] := by
    unfold oneOf twoOf
    by_cases h2 : r1 = 2
    · subst h2
      rw [if_pos rfl, if_neg (by unfold freeAB; simp)]
      exact d03
    · rw [if_neg h2]
      by_cases hf : freeAB r1 [w0, w1, w2, w3, w4, w5, w6, w7] = true
      · rw [if_pos hf, if_pos hf]; decide +kernel
      · rw [if_neg hf, if_neg hf]; exact d23
  generalize oneOf r1 [w0, w1, w2, w3, w4, w5, w6, w7] = one at o dt ⊢
  generalize twoOf r1 [w0, w1, w2, w3, w4, w5, w6, w7] = two at t dt ⊢
  have : r0 = 0 ∨ r0 = 1 ∨ r0 = 2 ∨ r0 = 3 ∨ r0 = 4 ∨ r0 = 5 ∨ r0 = 6 ∨ r0 = 7 := by omega
  rcases this with rfl | rfl | rfl | rfl | rfl | rfl | rfl | rfl
  · show KOk [(w0, [one])]
    exact ⟨by simp [n0, o], by simp, by simp, by simp, by simp⟩
  · show KOk [(w0, [one]), (w1, [])]
    exact ⟨by simp [n0, n1, o], by simp [d01], by simp, by simp, by simp⟩
  · show KOk [(w0, [one, two])]
    exact ⟨by simp [n0, o, t, dt], by simp, by simp, by simp, by simp⟩
  · show KOk [(w0, []), (w1, [])]
    exact ⟨by simp [n0, n1], by simp [d01], by simp, by simp, by simp⟩
  · show KOk [(w0, [one]), (w1, [two])]
    exact ⟨by simp [n0, n1, o, t], by simp [d01], by simp, by simp, by simp⟩
  · show KOk [(w0, [one]), (w1, [one])]
    exact ⟨by simp [n0, n1, o], by simp [d01], by simp, by simp, by simp⟩
  · show KOk [(w1, [])]
    exact ⟨by simp [n1], by simp, by simp, by simp, by simp⟩
  · show KOk [(w0, [one]), (w7, []), (w1, [])]
    exact ⟨by simp [n0, n1, n7, o], by simp [d01, d07, Ne.symm d17], by simp, by simp, by simp⟩
theorem wide_ok (c : Int) : KOk (wideK c) := by
  have h8 : (rowF c Z8).length = 8 := rowF_len c Z8
  obtain ⟨fine, lw⟩ := words_fine (rowF c Z8) (acc := []) ⟨by simp, by simp⟩ (by rw [h8]; decide)
  have lw : (wsOf (rowF c Z8)).length = 8 := by have : (wsOf (rowF c Z8)).length = 0 + (rowF c Z8).length := lw; omega
  have fine : Fine (wsOf (rowF c Z8)) := fine
  unfold wideK
  dsimp only
  generalize wsOf (rowF c Z8) = ws at lw fine ⊢
  obtain ⟨w0, w1, w2, w3, w4, w5, w6, w7, rfl⟩ := eight lw
  have nd := fine.nd
  have nm := fine.nm
  simp only [List.nodup_cons, List.mem_cons, List.not_mem_nil, or_false, not_or] at nd
  show KOk [(w0, [w1, w2, w3]), (w4, []), (w5, [w1]), (w6, [w3, w2]), (w7, [])]
  have n := fun x h => nm x h
  refine ⟨?_, ?_, by simp, by simp, by simp⟩
  · simp [nm w0 (by simp), nm w1 (by simp), nm w2 (by simp), nm w3 (by simp), nm w4 (by simp), nm w5 (by simp), nm w6 (by simp), nm w7 (by simp), nd, Ne.symm nd.2.2.1.1]
  · simp [nd]
theorem grid_sum {ks : List Kd} {tp : Str → List Nat} (h : ∀ k ∈ ks, (tp k.1).length = k.2.length ∧ ∀ t ∈ tp k.1, t ≤ 3) : (gridF ks tp).length ≤ (ks.map fun k => 4 ^ k.2.length).sum := by
  unfold gridF
  induction ks with
  | nil => simp
  | cons k l ih =>
    rw [List.flatMap_cons, List.length_append, List.length_map, List.map_cons, List.sum_cons]
    have h1 := ih fun j hj => h j (List.mem_cons_of_mem _ hj)
    obtain ⟨h2, h3⟩ := h k List.mem_cons_self
    have h4 := small_len (tp k.1) h3
    rw [h2] at h4
    omega
end K05

set_option Elab.async false
set_option linter.all false
set_option maxRecDepth 100000
set_option maxHeartbeats 4000000
/-! K05r: a row, and a row bent. -/
namespace K05
open PySem PySem.Spec PyProof.Rows L2 Fd Tx
def numL (CR : Addr) (c : Int) : List D := [.int c, .ins CR rN (rF c 7), .int (-3), .ins CR rN (rF 4 2)]
def numAt (CR : Addr) (c : Int) (r1 : Nat) (k : D) : D := match k with
  | .int i => (numL CR c).getD ((r1 + i.toNat) % 4) .non
  | d => d
def rowNums (CR : Addr) (c : Int) (r1 n : Nat) : List D := (rng 0 n).map (numAt CR c r1)
def someRow (CR : Addr) (kd : Kd) (c : Int) (r1 : Nat) : List D := .str kd.1 :: rowNums CR c r1 kd.2.length
def pSomeRow (CR : Addr) (ds : List D) (d : D) : Prop := ∃ (l : List Kd) (row : List D) (c : Int) (r0 r1 : Nat) (kd : Kd), ds = [.lst (l.map pairD), .lst row, .int c] ∧ l ≠ [] ∧ row[0]? = some (.int (r0 : Nat)) ∧ row[1]? = some (.int (r1 : Nat)) ∧ l[r0 % l.length]? = some kd ∧ kd.2.length ≤ 3 ∧ d = .lst (someRow CR kd c r1)
theorem scSomeRow : FnScope ["_law_kinds", "_law_row_here", "_law_cell_here", "_law_kind", "_law_fields", "_law_numbers", "_law_k"] ["_law_kinds", "_law_row_here", "_law_cell_here"] (defScope sSomeRow) := ⟨rfl, rfl, rfl, by decide +kernel, rfl, by decide +kernel, by decide +kernel⟩
section
variable {T : List (Addr × Str)} {P : Program} {w : World} {K : PySem.W.Frag} {mg : Str → Option Value} {base : Heap} {f CR : Addr} {fd : FuncData}
theorem ok_someRow (F : Fun K "_law_some_row" "_law_some_row" sSomeRow f fd) (B : Fre mg) (G : MD T P w K mg base "Ratio" CR 2 1 pInitR) : FnOk P w K mg base CX0 3 f fd ["_law_kinds", "_law_row_here", "_law_cell_here"] (spD T K 3 (pSomeRow CR)) := by
  refine fd_ok F scSomeRow rfl fun cdv A outer s H E ds d hr _ ⟨l, row, c, r0, r1, kd, e1, hne, q0, q1, hk, hf, e2⟩ => ?_
  subst e1; subst e2
  have hl : l.length ≠ 0 := fun z => hne (List.length_eq_zero_iff.mp z)
  refine svs_cons (sv_tg (.many [3, 4]) (d := pairD kd) (ev_ixL (i := ((r0 : Nat) : Int) % ((l.length : Nat) : Int)) ⟨r0 % l.length, by simp, by rw [List.getElem?_map, hk]; rfl⟩ (ev_var 0 rfl) (ev_mod (by omega) (ev_ixL ⟨0, rfl, q0⟩ (ev_var 1 rfl) ev_int) (ev_len (y := .lst (l.map pairD)) (n := l.length) (by show some _ = some _; rw [List.length_map]) (ev_var 0 rfl) B.len))) (pg_tup rfl (pgs_cons (pg_name (i := 3) scSomeRow.nd rfl (Or.inl rfl)) (pgs_cons (pg_name (i := 4) scSomeRow.nd rfl (Or.inl rfl)) pgs_nil))) rfl ?_)
  have comp : ∀ k : D, k ∈ rng 0 kd.2.length → ∃ i : Nat, k = .int (0 + (i : Int)) := fun k hk => by
    unfold rng at hk
    obtain ⟨i, _, rfl⟩ := List.mem_map.mp hk
    exact ⟨i, rfl⟩
  refine svs_cons (sv_lcOwn 5 [("_law_k", 6)] (.one 6) (fun _ => true) (numAt CR c r1) (iv_range1 (ev_len (y := .lst (kd.2.map D.str)) (n := kd.2.length) (by show some _ = some _; rw [List.length_map]) (ev_var 4 rfl) B.len) (by omega) B.range) (id (α := BlkOk ["_law_kinds", "_law_row_here", "_law_cell_here", "_law_kind", "_law_fields", "_law_numbers", "_law_k"] (defScope sSomeRow) _ [("_law_k", 6)]) ⟨rfl, by decide +kernel, by decide +kernel, by decide +kernel, by decide +kernel⟩)
    (fun s H C cl fp => pg_name (i := 6) scSomeRow.nd rfl (Or.inl rfl)) (fun s H C' cl fp y hy => ts_nil) (fun s H C' cl fp y hy hk => ?_) ?_ scSomeRow.nd (fun _ _ => rfl) ?_ rfl)
  · rw [show ((kd.2.length : Nat) : Int).toNat = kd.2.length by omega] at hy
    obtain ⟨i, rfl⟩ := comp y hy
    have h4 : (r1 + i) % 4 < (numL CR c).length := Nat.mod_lt _ (by decide)
    refine EV.cast (ev_ixL (xs := numL CR c) (i := (((r1 : Nat) : Int) + (0 + (i : Int))) % 4) ⟨(r1 + i) % 4, by omega, List.getElem?_eq_getElem h4⟩ (ev_lst (evs_cons (ev_var 2 rfl) (evs_cons (ev_make G hr (evs_cons (ev_var 2 rfl) (evs_cons ev_int evs_nil)) ⟨c, 7, rfl, by decide, by decide, rfl, rfl⟩) (evs_cons (EV.cast (ev_neg ev_int) rfl) (evs_cons (ev_make G hr (evs_cons ev_int (evs_cons ev_int evs_nil)) ⟨4, 2, rfl, by decide, by decide, rfl, rfl⟩) evs_nil))))) (ev_mod (by decide) (ev_add (ev_ixL ⟨1, rfl, q1⟩ (ev_var 1 rfl) ev_int) (ev_var 6 rfl)) ev_int)) ?_
    show _ = (numL CR c).getD ((r1 + (0 + (i : Int)).toNat) % 4) .non
    rw [show (0 + (i : Int)).toNat = i by omega, getD_some (List.getElem?_eq_getElem h4)]
  · have ho : outs (fun _ => true) (numAt CR c r1) (rng 0 ((kd.2.length : Nat) : Int).toNat) = rowNums CR c r1 kd.2.length := by
      unfold outs rowNums
      rw [List.filter_eq_self.mpr fun _ _ => rfl, show ((kd.2.length : Nat) : Int).toNat = kd.2.length by omega]
    rw [ho]
    refine svs_freeze 5 rfl (svs_one (sv_ret (ev_cat (xs := [.str kd.1]) (ys := rowNums CR c r1 kd.2.length) ?_ (ev_lst (evs_cons (ev_var 3 rfl) evs_nil)) (ev_var 5 rfl)) rfl))
    unfold rowNums rng
    rw [List.length_map, List.length_map, List.length_range, List.length_singleton]; omega
  · unfold rng
    rw [List.length_map, List.length_range]; omega
end
end K05

set_option Elab.async false
set_option linter.all false
set_option maxRecDepth 100000
set_option maxHeartbeats 4000000
/-! K05s: a row bent. -/
namespace Fd
open PySem PySem.Spec PyProof.Rows L2
section
variable {T : List (Addr × Str)} {X : Cx} {ss : SS} {pos : Pos}
theorem ev_dict0 : EV T X (.Dict [] [] pos) ss (.dct [] []) :=
  EV.of pe_dnewK fun B F H σ Q R q => fun p hp => q _ _ _ (Nx.alloc R.sub hp) (R.alloc hp) ⟨p, [], rfl, upd_same, rfl, rfl⟩
end
end Fd
namespace K05
open PySem PySem.Spec PyProof.Rows L2 Fd Tx
def st (s : String) : D := .str (Str.ofString s)
def oddB : List D := [.bl true, .non, st "5", .lst [.int 5], .bl false, .dct [] [], st "", .tup []]
def badK (odd x0 : D) : List D := [st "NO", odd, st "", .tup [x0], .int 5]
def bentF (xs : List D) (r1 r2 r3 : Nat) : List D × Bool :=
  if r2 = 0 then (xs, true)
  else if r2 = 1 then (xs ++ [.int (r1 : Nat)], false)
  else if r2 = 2 then (xs.take (xs.length - 1), false)
  else if r2 = 3 ∧ 1 < xs.length then (xs.take (1 + r1 % (xs.length - 1)) ++ [oddB.getD r3 .non] ++ xs.drop (1 + r1 % (xs.length - 1) + 1), false)
  else ([(badK (oddB.getD r3 .non) (xs.getD 0 .non)).getD (r1 % 5) .non] ++ xs.drop 1, false)
def bentD (b : List D × Bool) : D := .tup [.lst b.1, .bl b.2]
def pBent (ds : List D) (d : D) : Prop := ∃ (xs row : List D) (r1 r2 r3 : Nat), ds = [.lst xs, .lst row] ∧ xs ≠ [] ∧ xs.length ≤ 10 ∧ row[1]? = some (.int (r1 : Nat)) ∧ row[2]? = some (.int (r2 : Nat)) ∧ row[3]? = some (.int (r3 : Nat)) ∧ r3 < 8 ∧ d = bentD (bentF xs r1 r2 r3)
theorem scBent : FnScope ["_law_one", "_law_row_here", "_law_out", "_law_odd", "_law_at"] ["_law_one", "_law_row_here"] (defScope sBent) := ⟨rfl, rfl, rfl, by decide +kernel, rfl, by decide +kernel, by decide +kernel⟩
theorem cut_to {xs : List D} {b : Nat} (hb : b ≤ xs.length) : Fd.cutD xs none (some (b : Int)) = xs.take b := by
  unfold Fd.cutD
  rw [HT.sIx_nat, Nat.min_eq_left hb]
  rfl
theorem cut_last {xs : List D} (h : xs ≠ []) : Fd.cutD xs none (some (-1)) = xs.take (xs.length - 1) := by
  unfold Fd.cutD
  have hl : xs.length ≠ 0 := fun z => h (List.length_eq_zero_iff.mp z)
  show (xs.drop 0).take ((-1 + (xs.length : Int)).toNat - 0) = _
  rw [show (-1 + (xs.length : Int)).toNat - 0 = xs.length - 1 by omega]
  rfl
section
variable {T : List (Addr × Str)} {P : Program} {w : World} {K : PySem.W.Frag} {mg : Str → Option Value} {base : Heap} {f : Addr} {fd : FuncData}
theorem ok_bent (F : Fun K "_law_bent" "_law_bent" sBent f fd) (B : Fre mg) : FnOk P w K mg base CX0 1 f fd ["_law_one", "_law_row_here"] (spD T K 2 pBent) := by
  refine fd_ok F scBent rfl fun cdv A outer s H E ds d hr _ ⟨xs, row, r1, r2, r3, e1, hne, hlen, q1, q2, q3, l3, e2⟩ => ?_
  subst e1; subst e2
  have hl : xs.length ≠ 0 := fun z => hne (List.length_eq_zero_iff.mp z)
  have ho : oddB[r3]? = some (oddB.getD r3 .non) := by
    have h : r3 < oddB.length := l3
    rw [List.getElem?_eq_getElem h, getD_some (List.getElem?_eq_getElem h)]
  have hx : xs[0]? = some (xs.getD 0 .non) := by
    have h : 0 < xs.length := by omega
    rw [List.getElem?_eq_getElem h, getD_some (List.getElem?_eq_getElem h)]
  refine svs_cons (sv_par 2 3 (d1 := .lst xs) (d2 := oddB.getD r3 .non) (evs_cons (ev_listOf (.inl rfl) (ev_var 0 rfl) B.list) (evs_cons (ev_ixL (xs := oddB) ⟨r3, rfl, ho⟩ (ev_lst (evs_cons ev_bl (evs_cons ev_non (evs_cons ev_str (evs_cons (ev_lst (evs_cons ev_int evs_nil)) (evs_cons ev_bl (evs_cons ev_dict0 (evs_cons ev_str (evs_cons (ev_tup evs_nil) evs_nil))))))))) (ev_ixL ⟨3, rfl, q3⟩ (ev_var 1 rfl) ev_int)) evs_nil)) ?_ scBent.nd)
  generalize hod : oddB.getD r3 .non = odd at ho ⊢
  generalize hx0 : xs.getD 0 .non = x0 at hx ⊢
  refine svs_cons (sv_if (t := decide ((r2 : Int) = 0)) (tv_eqI (ev_ixL ⟨2, rfl, q2⟩ (ev_var 1 rfl) ev_int) ev_int) (fun z => ?_) fun z => svs_nil ?_)
  · have z1 : r2 = 0 := by have := of_decide_eq_true z; omega
    exact svs_one (sv_ret (ev_tup (evs_cons (ev_var 2 rfl) (evs_cons ev_bl evs_nil))) (by unfold bentF; rw [if_pos z1]; rfl))
  have n0 : ¬ r2 = 0 := by have := of_decide_eq_false z; omega
  refine svs_cons (sv_if (t := decide ((r2 : Int) = 1)) (tv_eqI (ev_ixL ⟨2, rfl, q2⟩ (ev_var 1 rfl) ev_int) ev_int) (fun z => ?_) fun z => svs_nil ?_)
  · have z1 : r2 = 1 := by have := of_decide_eq_true z; omega
    exact svs_one (sv_ret (ev_tup (evs_cons (ev_cat (ys := [.int (r1 : Nat)]) (by rw [List.length_singleton]; omega) (ev_var 2 rfl) (ev_lst (evs_cons (ev_ixL ⟨1, rfl, q1⟩ (ev_var 1 rfl) ev_int) evs_nil))) (evs_cons ev_bl evs_nil))) (by unfold bentF; rw [if_neg n0, if_pos z1]; rfl))
  have n1 : ¬ r2 = 1 := by have := of_decide_eq_false z; omega
  refine svs_cons (sv_if (t := decide ((r2 : Int) = 2)) (tv_eqI (ev_ixL ⟨2, rfl, q2⟩ (ev_var 1 rfl) ev_int) ev_int) (fun z => ?_) fun z => svs_nil ?_)
  · have z1 : r2 = 2 := by have := of_decide_eq_true z; omega
    exact svs_one (sv_ret (ev_tup (evs_cons (EV.cast (d' := .lst (xs.take (xs.length - 1))) (ev_cutL (u := some (-1)) (.inl rfl) (ev_var 2 rfl) pv_none (pv_some (EV.cast (ev_neg ev_int) rfl))) (by rw [cut_last hne])) (evs_cons ev_bl evs_nil))) (by unfold bentF; rw [if_neg n0, if_neg n1, if_pos z1]; rfl))
  have n2 : ¬ r2 = 2 := by have := of_decide_eq_false z; omega
  refine svs_cons (sv_if (t := decide ((r2 : Int) = 3) && decide ((1 : Int) < (xs.length : Nat))) (TW.tv (tw_andB (tv_eqI (ev_ixL ⟨2, rfl, q2⟩ (ev_var 1 rfl) ev_int) ev_int) fun _ => tw_and1 (tv_gt (ev_len (y := .lst xs) rfl (ev_var 2 rfl) B.len) ev_int))) (fun z => ?_) fun z => svs_nil ?_)
  · rw [Bool.and_eq_true] at z
    have z1 : r2 = 3 ∧ 1 < xs.length := ⟨by have := of_decide_eq_true z.1; omega, by have := of_decide_eq_true z.2; omega⟩
    have ha : 1 + r1 % (xs.length - 1) + 1 ≤ xs.length := by
      have := Nat.mod_lt r1 (show 0 < xs.length - 1 by omega)
      omega
    refine svs_cons (sv_set 4 (d := .int ((1 + r1 % (xs.length - 1) : Nat) : Int)) (EV.cast (ev_add ev_int (ev_mod (j := ((xs.length : Nat) : Int) - 1) (by omega) (ev_ixL ⟨1, rfl, q1⟩ (ev_var 1 rfl) ev_int) (ev_sub (ev_len (y := .lst xs) rfl (ev_var 2 rfl) B.len) ev_int))) (congrArg D.int (by rw [show ((xs.length : Nat) : Int) - 1 = ((xs.length - 1 : Nat) : Int) by omega]; push_cast; rfl))) ?_ scBent.nd)
    exact svs_one (sv_ret (ev_tup (evs_cons (ev_cat (xs := xs.take (1 + r1 % (xs.length - 1)) ++ [odd]) (ys := xs.drop (1 + r1 % (xs.length - 1) + 1)) (by rw [List.length_append, List.length_take, List.length_drop, List.length_singleton]; omega) (ev_cat (xs := xs.take (1 + r1 % (xs.length - 1))) (ys := [odd]) (by rw [List.length_take, List.length_singleton]; omega) (EV.cast (ev_cutL (u := some ((1 + r1 % (xs.length - 1) : Nat) : Int)) (.inl rfl) (ev_var 2 rfl) pv_none (pv_some (ev_var 4 rfl))) (by rw [cut_to (by omega)])) (ev_lst (evs_cons (ev_var 3 rfl) evs_nil))) (EV.cast (ev_cutL (l := some ((1 + r1 % (xs.length - 1) + 1 : Nat) : Int)) (.inl rfl) (ev_var 2 rfl) (pv_some (EV.cast (ev_add (ev_var 4 rfl) ev_int) (congrArg D.int (by push_cast; rfl)))) pv_none) (by rw [cut_from (by omega)]))) (evs_cons ev_bl evs_nil))) (by unfold bentF; rw [if_neg n0, if_neg n1, if_neg n2, if_pos z1, hod]; rfl))
  · have n3 : ¬ (r2 = 3 ∧ 1 < xs.length) := fun ⟨h1, h2⟩ => by
      have a1 : decide ((r2 : Int) = 3) = true := decide_eq_true (by omega)
      have a2 : decide ((1 : Int) < (xs.length : Nat)) = true := decide_eq_true (by omega)
      rw [a1, a2] at z; cases z
    have h5 : r1 % 5 < (badK odd x0).length := Nat.mod_lt _ (by decide)
    exact svs_one (sv_ret (ev_tup (evs_cons (ev_cat (xs := [(badK odd x0).getD (r1 % 5) .non]) (ys := xs.drop 1) (by rw [List.length_drop, List.length_singleton]; omega) (ev_lst (evs_cons (ev_ixL (xs := badK odd x0) (i := ((r1 : Nat) : Int) % 5) ⟨r1 % 5, by omega, by rw [List.getElem?_eq_getElem h5, getD_some (List.getElem?_eq_getElem h5)]⟩ (ev_lst (evs_cons ev_str (evs_cons (ev_var 3 rfl) (evs_cons ev_str (evs_cons (ev_tup (evs_cons (ev_ixL ⟨0, rfl, hx⟩ (ev_var 2 rfl) ev_int) evs_nil)) (evs_cons ev_int evs_nil)))))) (ev_mod (by decide) (ev_ixL ⟨1, rfl, q1⟩ (ev_var 1 rfl) ev_int) ev_int)) evs_nil)) (EV.cast (ev_cutL (l := some ((1 : Nat) : Int)) (.inl rfl) (ev_var 2 rfl) (pv_some ev_int) pv_none) (by rw [cut_from (by omega)]))) (evs_cons ev_bl evs_nil))) (by unfold bentF; rw [if_neg n0, if_neg n1, if_neg n2, if_neg n3, hod, hx0]; rfl))
end
end K05

set_option Elab.async false
set_option linter.all false
set_option maxRecDepth 100000
set_option maxHeartbeats 4000000
/-! K05t: the powers that a script makes. -/
namespace Fd
open PySem PySem.Spec PyProof.Rows L2
section
variable {T : List (Addr × Str)} {X : Cx} {ss : SS} {P : Post} {a : Expr} {d1 : D} {x y : Str} {pos pl : Pos}
/-- x, y = a, {} -/
theorem sv_parD (i j : Nat) {px py pt : Pos} {kt k2 pt2} (ha : EV T X a ss d1) (k : P.nx ((ss.set i (.d d1)).set j (.dic [] []))) (hN : X.N.Nodup) (hij : i ≠ j := by decide) (hc : X.calm = true := by rfl) (hi : X.N[i]? = some x := by rfl) (hj : X.N[j]? = some y := by rfl)
    (hx : X.env.scope.names.lookup x = some .local := by rfl) (hy : X.env.scope.names.lookup y = some .local := by rfl)
    (hw : swappedStores [.Tuple [.Name x px, .Name y py] kt pt] (.Tuple [a, .Dict [] [] pl] k2 pt2) X.env = pure (some [x, y]) := by rfl)
    (hs : swapsWithSole [.Tuple [.Name x px, .Name y py] kt pt] (.Tuple [a, .Dict [] [] pl] k2 pt2) pos.line X.env = pure false := by rfl) (h1 : starEach [a, .Dict [] [] pl] X.env = (false, eval a X.env) :: starEach [.Dict [] [] pl] X.env := by rfl) : SV T X (.Assign [.Tuple [.Name x px, .Name y py] kt pt] (.Tuple [a, .Dict [] [] pl] k2 pt2) pos) ss P :=
  SV.of (ps_par hc hN hi hj hij hx hy (pa_cons ha (pa_cons pe_dnewK pa_nil) h1) hw hs) fun B F H σ Dn R g => ev_go R fun v F1 H1 n1 R1 i1 => fun p hp => ⟨v, .ref p, rfl, g.nx _ _ _ _ k ((R1.put i1).newOwn hp rfl ⟨p, [], rfl, R1.free hp, upd_same, rfl, rfl⟩)⟩
end
end Fd
namespace K05
open PySem PySem.Spec PyProof.Rows L2 Fd Tx
def powF (r4 r5 r6 n : Nat) : List Nat := ([r4, r5, r5 / 2].take n).map fun x => if r6 = 0 then x % 2 else x
def modD (r6 : Nat) : D → D
  | .int i => .int (if r6 = 0 then i % 2 else i)
  | d => d
def powX (r4 r5 r6 : Nat) (l : List Kd) : List D := l.map fun k => .lst ((powF r4 r5 r6 k.2.length).map fun n => D.int (n : Nat))
def pPowers (ds : List D) (d : D) : Prop := ∃ (l : List Kd) (row : List D) (r4 r5 r6 : Nat), ds = [.lst (l.map pairD), .lst row] ∧ (∀ k ∈ l, k.2.length ≤ 3) ∧ (l.map (·.1)).Nodup ∧ l.length ≤ 5 ∧ row[4]? = some (.int (r4 : Nat)) ∧ row[5]? = some (.int (r5 : Nat)) ∧ row[6]? = some (.int (r6 : Nat)) ∧ r5 < 4 ∧ d = .dct (tabKs l) (powX r4 r5 r6 l)
theorem scPowers : FnScope ["_law_kinds", "_law_row_here", "_law_numbers", "_law_out", "_law_kind", "_law_fields", "_law_number"] ["_law_kinds", "_law_row_here"] (defScope sPowers) := ⟨rfl, rfl, rfl, by decide +kernel, rfl, by decide +kernel, by decide +kernel⟩
theorem put_fresh {ks : List Kd} {k : Kd} {xs : List D} {d : D} (h : k.1 ∉ ks.map (·.1)) : putKs (tabKs ks) (Sum.inr k.1) = tabKs (ks ++ [k]) ∧ putXs (tabKs ks) xs (Sum.inr k.1) d = xs ++ [d] := by
  have e : hasK (tabKs ks) (Sum.inr k.1) = false := by rw [has_tab]; exact decide_eq_false h
  unfold putKs putXs
  rw [e]
  simp [tabKs]
section
variable {T : List (Addr × Str)} {P : Program} {w : World} {K : PySem.W.Frag} {mg : Str → Option Value} {base : Heap} {f : Addr} {fd : FuncData}
theorem ok_powers (F : Fun K "_law_some_powers" "_law_some_powers" sPowers f fd) (B : Fre mg) : FnOk P w K mg base CX0 1 f fd ["_law_kinds", "_law_row_here"] (spD T K 2 pPowers) := by
  refine fd_ok F scPowers rfl fun cdv A outer s H E ds d hr _ ⟨l, row, r4, r5, r6, e1, hf, hnd, hl5, q4, q5, q6, l5, e2⟩ => ?_
  subst e1; subst e2
  refine svs_cons (sv_parD 2 3 (d1 := .lst ([r4, r5, r5 / 2].map fun n => D.int (n : Nat))) (ev_lst (evs_cons (ev_ixL ⟨4, rfl, q4⟩ (ev_var 1 rfl) ev_int) (evs_cons (ev_ixL ⟨5, rfl, q5⟩ (ev_var 1 rfl) ev_int) (evs_cons (EV.cast (d' := .int ((r5 / 2 : Nat) : Int)) (ev_fdivX (i := ((r5 : Nat) : Int)) (j := 2) ⟨by decide, by decide⟩ (ev_ixL ⟨5, rfl, q5⟩ (ev_var 1 rfl) ev_int) ev_int) (congrArg D.int (by rw [Int.fdiv_eq_ediv_of_nonneg _ (by decide)]; push_cast; rfl))) evs_nil)))) ?_ scPowers.nd)
  refine svs_cons (sv_for (.many [4, 5]) (fun i ss => i ≤ l.length ∧ ∃ s4 s5, ss = [.d (.lst (l.map pairD)), .d (.lst row), .d (.lst ([r4, r5, r5 / 2].map fun n => D.int (n : Nat))), .dic (tabKs (l.take i)) (powX r4 r5 r6 (l.take i)), s4, s5, .no]) (iv_list (ev_var 0 rfl)) (pg_tup rfl (pgs_cons (pg_name (i := 4) scPowers.nd rfl (Or.inl rfl)) (pgs_cons (pg_name (i := 5) scPowers.nd rfl (Or.inl rfl)) pgs_nil))) ⟨Nat.zero_le _, .no, .no, rfl⟩ ?_ ?_)
  · rintro i y ss' hy ⟨hi, s4, s5, rfl⟩
    obtain ⟨k, hkk, rfl⟩ : ∃ k, l[i]? = some k ∧ pairD k = y := by
      rw [List.getElem?_map] at hy
      exact Option.map_eq_some_iff.mp hy
    have hlt : i < l.length := (List.getElem?_eq_some_iff.mp hkk).1
    have hf3 := hf k (List.mem_of_getElem? hkk)
    have hnew : k.1 ∉ (l.take i).map (·.1) := fun z => by
      obtain ⟨j, hj, e⟩ := List.mem_map.mp z
      obtain ⟨m, hm⟩ := List.mem_iff_getElem?.mp hj
      have hmi : m < i := by
        have h1 := (List.getElem?_eq_some_iff.mp hm).1
        rw [List.length_take] at h1; omega
      rw [List.getElem?_take_of_lt hmi] at hm
      have e2 : (l.map (·.1))[m]? = (l.map (·.1))[i]? := by rw [List.getElem?_map, List.getElem?_map, hm, hkk]; exact congrArg some e
      have := (List.getElem?_inj (by rw [List.length_map]; omega) hnd).mp e2
      omega
    obtain ⟨w1, w2⟩ := put_fresh (xs := powX r4 r5 r6 (l.take i)) (d := .lst ((powF r4 r5 r6 k.2.length).map fun n => D.int (n : Nat))) hnew
    refine ⟨rfl, svs_one (sv_putD (kk := Sum.inr k.1) 3 rfl hr (d := .lst ((powF r4 r5 r6 k.2.length).map fun n => D.int (n : Nat))) (EV.cast (ev_lc [("_law_number", 6)] (.one 6) (fun _ => true) (modD r6) (iv_list (EV.cast (d' := .lst (([r4, r5, r5 / 2].take k.2.length).map fun n => D.int (n : Nat))) (ev_cutL (u := some ((k.2.length : Nat) : Int)) (.inl rfl) (ev_var 2 rfl) pv_none (pv_some (ev_len (y := .lst (k.2.map D.str)) (n := k.2.length) (by show some _ = some _; rw [List.length_map]) (ev_var 5 rfl) B.len))) (by rw [cut_to (by exact hf3), List.map_take]))) (id (α := BlkOk ["_law_kinds", "_law_row_here", "_law_numbers", "_law_out", "_law_kind", "_law_fields", "_law_number"] (defScope sPowers) _ [("_law_number", 6)]) ⟨rfl, by decide +kernel, by decide +kernel, by decide +kernel, by decide +kernel⟩)
      (fun s H C cl fp => pg_name (i := 6) scPowers.nd rfl (Or.inl rfl)) (fun s H C' cl fp y hy => ts_nil) (fun s H C' cl fp y hy hk => ?_) scPowers.nd (fun _ _ => rfl) ?_) (congrArg D.lst ?_)) (ev_var 4 rfl) ⟨hlt, .d (.str k.1), .d (.lst (k.2.map D.str)), ?_⟩ (by unfold tabKs; rw [List.length_map, List.length_take]; omega))⟩
    · obtain ⟨n, _, rfl⟩ := List.mem_map.mp hy
      refine ev_if (t := decide ((r6 : Int) = 0)) (tv_eqI (ev_ixL ⟨6, rfl, q6⟩ (ev_var 1 rfl) ev_int) ev_int) (fun z => ?_) fun z => ?_
      · have z1 : r6 = 0 := by have := of_decide_eq_true z; omega
        exact EV.cast (ev_mod (i := ((n : Nat) : Int)) (by decide) (ev_var 6 rfl) ev_int) (by show _ = D.int (if r6 = 0 then (n : Int) % 2 else (n : Int)); rw [if_pos z1])
      · have z1 : ¬ r6 = 0 := by have := of_decide_eq_false z; omega
        exact EV.cast (ev_var (d := .int ((n : Nat) : Int)) 6 rfl) (by show _ = D.int (if r6 = 0 then (n : Int) % 2 else (n : Int)); rw [if_neg z1])
    · rw [List.length_map, List.length_take]; omega
    · unfold outs powF
      rw [List.filter_eq_self.mpr fun _ _ => rfl, List.map_map, List.map_map]
      refine List.map_congr_left fun n _ => ?_
      show D.int (if r6 = 0 then (n : Int) % 2 else (n : Int)) = D.int ((if r6 = 0 then n % 2 else n : Nat) : Int)
      by_cases h : r6 = 0
      · rw [if_pos h, if_pos h]; rfl
      · rw [if_neg h, if_neg h]
    · rw [w1, w2]
      have : l.take (i + 1) = l.take i ++ [k] := by rw [List.take_succ, hkk]; rfl
      rw [this]
      unfold powX
      rw [List.map_append]
      rfl
  · rintro ss' ⟨_, s4, s5, rfl⟩
    rw [List.length_map, List.take_length]
    exact svs_freezeD 3 rfl (svs_one (sv_ret (ev_var 3 rfl) rfl))
end
end K05

set_option Elab.async false
set_option linter.all false
set_option maxRecDepth 100000
set_option maxHeartbeats 4000000
/-! Fd37: a new list of new lists is told, read in a test, and then both it and its first list are changed. -/
namespace Fd
open PySem PySem.Spec PyProof.Rows L2
def EVNL (T : List (Addr × Str)) (X : Cx) (e : Expr) (ss : SS) (yss : List (List D)) : Prop := ∃ te, PE X e te ∧ ∀ B F H σ Q, StR T X.K B F H σ ss → (∀ p qs F1 H1, Nx T F H F1 H1 → StR T X.K B F1 H1 σ ss → F p = none → Fr H p → (∀ w ∈ qs, ∃ q, w = V.ref q ∧ F q = none ∧ Fr H q) → F1 p = some (.lst qs) → IsL X.K F1 (yss.map D.lst) qs → Q (.ref p) H1) → te σ H Q
theorem Nx.drop {T : List (Addr × Str)} {F H F1 H1 : Hp} {p : Addr} (h0 : F p = none) (n : Nx T F H F1 H1) : Nx T F H (fun b => if b = p then none else F1 b) H1 :=
  ⟨fun b o e => by
    have z : b ≠ p := fun z => by rw [z, h0] at e; cases e
    show (if b = p then none else F1 b) = some o
    rw [if_neg z]; exact n.f b o e, n.h, fun b o e => by
    have e : (if b = p then none else F1 b) = some o := e
    by_cases z : b = p
    · rw [if_pos z] at e; cases e
    · rw [if_neg z] at e; exact n.s b o e, fun q ps e => by
    have e : (if q = p then none else F1 q) = some _ := e
    by_cases z : q = p
    · rw [if_pos z] at e; cases e
    · rw [if_neg z] at e; exact n.nt q ps e, fun q o e => by
    have e : (if q = p then none else F1 q) = some o := e
    by_cases z : q = p
    · rw [if_pos z] at e; cases e
    · rw [if_neg z] at e; exact n.n q o e⟩
section
variable {T : List (Addr × Str)} {X : Cx} {ss : SS} {e c : Expr} {yss : List (List D)} {P : Post} {x : Str} {px p1 p2 p3 p4 p5 p6 p7 p8 pos pos2 pos3 pos4 : Pos} {body : List Stmt} {z z2 : Str} {j j2 j3 : Nat} {ap cp ap2 cp2 : Pos}
/-- own slots stand nowhere new -/
theorem own_new {B : Hp × Hp} {F H : Hp} {σ : L2.St} {K : PySem.W.Frag} {q : Addr} (R : StR T K B F H σ ss) (fr : Fr H q) {l : Nat} {s : S} (e : ss[l]? = some s) (m : s.mine = true) : σ[l]? ≠ some (some (.ref q)) := fun zz => by
  obtain ⟨p', e1, _, e3⟩ := R.mine_at e m
  rw [zz] at e1; cases e1
  cases ho : H q with
  | none => exact e3 ho
  | some o =>
    obtain ⟨ps, rfl⟩ := fr o ho
    exact R.plain e m zz _ ho (.inl ⟨ps, rfl⟩)
theorem svs_fresh (i : Nat) (he : EVNL T X e ss yss) (hne : yss ≠ []) (hl : yss.length ≤ 90000) (hl2 : ∀ y ∈ yss, y.length ≤ 90000) (hc : TV T X c (ss.set i (.d (.lst (yss.map D.lst)))) false) (k : P.nx (ss.set i .no)) (hil : i < ss.length)
    (hN : X.N.Nodup) (hi : X.N[i]? = some x := by rfl) (hx : Loc X.env.scope x := by first | exact Or.inl rfl | exact Or.inr rfl)
    (hs : swapsWith e (some (.Name x px)) pos.line X.env = pure false := by rfl) (hf : X.fn x = true ∨ X.env.scope.names.lookup x = some .local := by first | exact .inl rfl | exact .inr rfl | assumption)
    (hp : PE X (.Name x p1) (tVar i) := by exact pv _) (hp2 : PE X (.Name x p5) (tVar i) := by exact pv _)
    (a1 : ∀ {to : TE}, PE X (.Subscript (.Name x p1) (.Constant (.int 0) j p2) p3) to → PE X (.Call (.Attribute (.Subscript (.Name x p1) (.Constant (.int 0) j p2) p3) "append" ap) [.Constant (.str z) j2 p4] [] cp) (tBM X.K "list" rAppend to (tCons (tC (.str z)) tNil)) := by intro to g; exact pe_bm PySem.F.plainAttrs_list PySem.F.slot_list_append PySem.F.type_list_append mt_append g (pa_cons pe_str pa_nil))
    (a2 : ∀ {to : TE}, PE X (.Name x p5) to → PE X (.Call (.Attribute (.Name x p5) "append" ap2) [.Constant (.str z2) j3 p6] [] cp2) (tBM X.K "list" rAppend to (tCons (tC (.str z2)) tNil)) := by intro to g; exact pe_bm PySem.F.plainAttrs_list PySem.F.slot_list_append PySem.F.type_list_append mt_append g (pa_cons pe_str pa_nil))
    (h3 : swapsWith (.Call (.Attribute (.Subscript (.Name x p1) (.Constant (.int 0) j p2) p3) "append" ap) [.Constant (.str z) j2 p4] [] cp) none pos3.line X.env = pure false := by rfl)
    (h4 : swapsWith (.Call (.Attribute (.Name x p5) "append" ap2) [.Constant (.str z2) j3 p6] [] cp2) none pos4.line X.env = pure false := by rfl) :
    SVs T X [.Assign [.Name x px] e pos, .If c body [] pos2, .Expr (.Call (.Attribute (.Subscript (.Name x p1) (.Constant (.int 0) j p2) p3) "append" ap) [.Constant (.str z) j2 p4] [] cp) pos3, .Expr (.Call (.Attribute (.Name x p5) "append" ap2) [.Constant (.str z2) j3 p6] [] cp2) pos4] ss P := by
  obtain ⟨te, hpe, hk⟩ := he
  refine SVs.of (pss_cons (ps_set hN hi hx hpe hs hf) (pss_cons (ps_if hc (pss_all (T := T)) pss_nil) (pss_cons (ps_expr (a1 (pe_ix ix_list hp pe_int (fun _ _ => rfl))) h3) (pss_one (ps_expr (a2 hp2) h4))))) fun B F H σ Dn R g => hk B F H σ _ R fun p qs F1 H1 n1 R1 f0 fr nw fp dt => ?_
  obtain ⟨y0, yr, rfl⟩ : ∃ y0 yr, yss = y0 :: yr := by
    cases yss with
    | nil => exact absurd rfl hne
    | cons a b => exact ⟨a, b, rfl⟩
  have dt0 := dt
  obtain ⟨v0, qr, eq, ⟨q0, us0, rfl, fq, dq⟩, dr⟩ := dt0
  subst eq
  obtain ⟨q0', eq0, fq0, frq⟩ := nw (.ref q0) List.mem_cons_self
  cases eq0
  have lσ : i < σ.length := by rw [R.len]; exact hil
  have Rp := R1.put (i := i) (x := .lst ((y0 :: yr).map D.lst)) ⟨p, _, rfl, fp, dt⟩
  have sσ : (σ.set i (some (.ref p)))[i]? = some (some (.ref p)) := List.getElem?_set_self lσ
  refine ⟨B, F1, _, false, ⟨rfl, rfl⟩, Rp, fun F2 H2 n2 R2 => iteF ?_⟩
  have n3 := Nx.drop fq0 (Nx.drop f0 (n1.trans n2))
  have h2p : H2 p = some (.lst (.ref q0 :: qr)) := n2.s _ _ (n2.f _ _ fp)
  have h2q : H2 q0 = some (.lst us0) := n2.s _ _ (n2.f _ _ fq)
  have R3 := (R.grow n3).forget (i := i) (o := some (.ref p))
  have cody : ∀ {Hh : Hp} {q : Addr} {vs : List V}, Hh q = some (.lst vs) → ∀ o', Hh q = some o' → ¬ Codey o' := fun {Hh q vs} h o' e zz => by
    rw [h] at e; cases e
    rcases zz with ⟨_, w⟩ | ⟨_, _, w⟩ <;> cases w
  have nown : ∀ {q : Addr}, Fr H q → ∀ (l : Nat) (s : S), (ss.set i .no)[l]? = some s → s.mine = true → (σ.set i (some (.ref p)))[l]? ≠ some (some (.ref q)) := fun {q} hq l s e1 m zz => by
    by_cases hli : l = i
    · subst hli
      rw [List.getElem?_set_self hil] at e1
      cases e1; cases m
    · rw [List.getElem?_set_ne (Ne.symm hli)] at e1 zz
      exact own_new R hq e1 m zz
  have f3q : (fun b => if b = q0 then none else (fun b => if b = p then none else F2 b) b) q0 = none := if_pos rfl
  have f3p : (fun b => if b = q0 then none else (fun b => if b = p then none else F2 b) b) p = none := by
    by_cases hpq : p = q0
    · exact if_pos hpq
    · show (if p = q0 then none else if p = p then none else F2 p) = none
      rw [if_neg hpq, if_pos rfl]
  have R4 := R3.updH (o := .lst (us0 ++ [.str z])) f3q (R.base_fr frq) (cody h2q) (nown frq)
  obtain ⟨ws, h4p, hws⟩ : ∃ ws, (upd H2 q0 (.lst (us0 ++ [.str z]))) p = some (.lst ws) ∧ ws.length ≤ 90001 := by
    by_cases hpq : p = q0
    · subst hpq
      refine ⟨_, upd_same, ?_⟩
      rw [List.length_append, List.length_singleton, dq.length]
      have := hl2 y0 List.mem_cons_self
      omega
    · refine ⟨_, by rw [upd_ne hpq]; exact h2p, ?_⟩
      rw [dt.length, List.length_map]
      omega
  refine ⟨.ref p, sσ, p, _, 0, .ref q0, rfl, rfl, SqL.of h2p, (atI_nat (j := 0) (show (V.ref q0 :: qr)[0]? = some (V.ref q0) from rfl)), .inl ⟨rfl, _, SqL.of h2q⟩, q0, us0, .str z, rfl, rfl, h2q, ?_, ?_⟩
  · rw [dq.length, sizeLine_eq]
    have := hl2 y0 List.mem_cons_self
    omega
  · refine ⟨.ref p, sσ, .inl ⟨rfl, _, SqL.of h4p⟩, p, ws, .str z2, rfl, rfl, h4p, by rw [sizeLine_eq]; omega, g.nx _ _ _ _ k (R4.updH f3p (R.base_fr fr) (cody h4p) (nown fr))⟩
end
end Fd

set_option Elab.async false
set_option linter.all false
set_option maxRecDepth 100000
set_option maxHeartbeats 4000000
/-! Fd38: dict(list of pairs). -/
namespace Fd
open PySem PySem.Spec PyProof.Rows L2
theorem boot_dict : bootBuiltins "dict" = some (.type "dict") := by decide +kernel
theorem merge_new : ∀ (kvs acc : List (Key × V)), (∀ kv ∈ kvs, kv.1 ∉ acc.map (·.1)) → (kvs.map (·.1)).Nodup → kvs.foldl (fun acc kv => putK acc kv.1 kv.2) acc = acc ++ kvs
  | [], acc, _, _ => by simp
  | kv :: r, acc, h, nd => by
    have h0 := h kv List.mem_cons_self
    have e : putK acc kv.1 kv.2 = acc ++ [kv] := by
      unfold putK
      rw [if_neg]
      intro z
      obtain ⟨x, hx, e⟩ := List.any_eq_true.mp z
      exact h0 (List.mem_map.mpr ⟨x, hx, of_decide_eq_true e⟩)
    rw [List.foldl_cons, e, merge_new r (acc ++ [kv]) (fun y hy z => ?_) (List.nodup_cons.mp nd).2, List.append_assoc]
    · rfl
    · rw [List.map_append] at z
      rcases List.mem_append.mp z with z | z
      · exact h y (List.mem_cons_of_mem _ hy) z
      · have e2 : y.1 = kv.1 := by simpa using z
        exact (List.nodup_cons.mp nd).1 (List.mem_map.mpr ⟨y, hy, e2⟩)
theorem pairs_at {K : PySem.W.Frag} {F H : Hp} (x : Ext F H) : ∀ {l : List (Str × D)} {us : List V}, IsL K F (l.map fun y => D.tup [.str y.1, y.2]) us → ∃ (ps : List Addr) (kvs : List (Key × V)), us = ps.map V.ref ∧ Paired (fun p (kv : Key × V) => SqT K H p [kV kv.1, kv.2]) ps kvs ∧ kvs.map (·.1) = l.map (fun y => Sum.inr y.1) ∧ IsL K F (l.map (·.2)) (kvs.map (·.2))
  | [], _, h => ⟨[], [], h, .nil, rfl, rfl⟩
  | y :: l, _, h => by
    obtain ⟨v, r, rfl, ⟨a, vs, rfl, e1, v1, r1, rfl, k1, v2, r2, rfl, k2, k3⟩, h2⟩ := h
    cases k3
    obtain rfl := k1
    obtain ⟨ps, kvs, rfl, q1, q2, q3⟩ := pairs_at x h2
    exact ⟨a :: ps, (Sum.inr y.1, v2) :: kvs, rfl, .cons (ext_seqT x e1) q1, by rw [List.map_cons, q2]; rfl, ⟨v2, _, rfl, k2, q3⟩⟩
section
variable {T : List (Addr × Str)} {X : Cx} {ss : SS} {e : Expr} {p pos : Pos}
theorem ev_dictP {l : List (Str × D)} (nd : (l.map (·.1)).Nodup) (ha : EV T X e ss (.lst (l.map fun y => .tup [.str y.1, y.2]))) (hm : X.mg "dict" = none) (hc : X.calm = true := by rfl) (hg : Gl X "dict" := by rfl) (he : starEach [e] X.env = [(false, eval e X.env)] := by rfl) : EV T X (.Call (.Name "dict" p) [e] [] pos) ss (.dct (l.map fun y => Sum.inr y.1) (l.map (·.2))) :=
  ev_bty (call_dictP hc) (evs_cons ha evs_nil he) hm boot_dict (fun B F H σ vs Q R i1 q => by
    obtain ⟨v, rfl, i⟩ := isL1 i1
    obtain ⟨a, us, rfl, e1, e2⟩ := i
    obtain ⟨ps, kvs, rfl, q1, q2, q3⟩ := pairs_at R.sub e2
    refine ⟨a, ps, kvs, rfl, SqL.of (R.sub _ _ e1), q1, fun d hd => ?_⟩
    have em : mergeK [] kvs = kvs := by
      have h := merge_new kvs [] (fun _ _ z => nomatch z) (by
        rw [q2]
        have : l.map (fun y => (Sum.inr y.1 : Key)) = (l.map (·.1)).map Sum.inr := by rw [List.map_map]; rfl
        rw [this]
        exact nd.map _ fun a b h z => h (Sum.inr.inj z))
      exact h
    rw [em]
    exact q _ _ _ (Nx.alloc R.sub hd) (R.alloc hd) ⟨d, kvs, rfl, upd_same, q2, IsL.mono (Ext.upd (R.free hd)) _ q3⟩) hg (he := he)
end
end Fd

set_option Elab.async false
set_option linter.all false
set_option maxRecDepth 100000
set_option maxHeartbeats 4000000
/-! K05u: the law's look at grid and lists. -/
namespace K05
open PySem PySem.Spec PyProof.Rows L2 Fd Tx
structure OwnNL (T : List (Addr × Str)) (P : Program) (w : World) (K : PySem.W.Frag) (mg : Str → Option Value) (base : Heap) (C : Addr) (m : Str) (n k : Nat) (pre : List D → List (List D) → Prop) (f : Addr) : Prop where
  at_ : PySem.W.findIn K (.ref C) m = some (some (.ref f))
  fn : PySem.W.isFn K (.ref f) = true
  kp : PySem.W.keepIn K (.ref f) = true
  ok : ∃ fd ps, Binds K fd ps [] ∧ ps.length = n ∧ FnOk P w K mg base CX0 k f fd ps (spNL T K n pre)
section
variable {T : List (Addr × Str)} {X : Cx} {ss : SS} {e o : Expr} {es : List Expr} {ds ys : List D} {yss : List (List D)} {n k : Nat} {m : Str} {pos apos : Pos} {C : Addr} {ns : List Str}
theorem evnl_meth {pl : Sem Bool} {pre : List D → List (List D) → Prop} {f : Addr} (he : EV T X o ss (.ins C ns ys)) (cl : Cls X.K C) (M : OwnNL T X.prog X.w X.K X.mg X.base C m n k pre f) (hr : Room k X.A)
    (ha : EVs T X (e :: es) ss ds) (hp : pre (.ins C ns ys :: ds) yss) (hmn : m ∉ ns) (hn : (D.ins C ns ys :: ds).length = n := by rfl)
    (hst : starEach (e :: es) X.env = (false, eval e X.env) :: starEach es X.env := by rfl) (hpl : (backTo pos (starEach es X.env)).any (·.1) = false := by rfl)
    (ht : eval (.Call (.Attribute o m apos) (e :: es) [] pos) X.env = (do
      let ov ← eval o X.env; standAt apos.atName; let (f, first) ← holding [ov] (getMethod ov m pl); callWith pos f first (backTo pos (starEach (e :: es) X.env)) (backToKw pos (keywordEach [] X.env))) := by rfl) :
    EVNL T X (.Call (.Attribute o m apos) (e :: es) [] pos) ss yss := by
  obtain ⟨fd, ps, hb, hps, G⟩ := M.ok
  refine ⟨_, pe_meth (E := E0) he cl ⟨M.at_, M.fn, M.kp⟩ G hr hb .nil pass0 ha hst hpl ht, fun B F H σ Q R q => ev_go R fun v F1 H1 n1 R1 i1 => ?_⟩
  obtain ⟨y, dx, fs, rfl, e1, e2, e3⟩ := id i1
  refine ⟨y, dx, fs, rfl, R1.sub _ _ e1, no_lookup (by rw [e2]; exact hmn), evs_go R1 fun vs F2 H2 n2 R2 i2 => ?_⟩
  rw [List.append_nil]
  have back : ∀ {p : Addr}, F2 p = none → F p = none := fun {p} h => by
    cases e : F p with
    | none => rfl
    | some u => rw [n2.f _ _ (n1.f _ _ e)] at h; cases h
  exact ⟨F2, _, yss, R2.sub, R2.nt, R2.tb, IsL.cons (Is.mono n2.f _ i1) i2, hn, hp, fun p qs F3 H3 n3 f0 fr nw fp dt => q p qs F3 H3 ((n1.trans n2).trans n3) (R2.grow n3) (back f0) (n1.h.fr (n2.h.fr fr)) (fun w hw => by
    obtain ⟨q', e, h1, h2⟩ := nw w hw
    exact ⟨q', e, back h1, n1.h.fr (n2.h.fr h2)⟩) fp dt⟩
end
def pListsD (C : Addr) (ds : List D) (d : D) : Prop := ∃ yss, pLists C ds yss ∧ d = .lst (yss.map D.lst)
theorem lists_data {T : List (Addr × Str)} {K : PySem.W.Frag} {C : Addr} {vs : List V} {H : Hp} {Q : VK} {E : XK} (h : spD T K 3 (pListsD C) vs H Q E) : spNL T K 3 (pLists C) vs H Q E := by
  obtain ⟨F, ds, d, x, nt, tb, i, l, ⟨yss, hp, rfl⟩, q⟩ := h
  exact ⟨F, ds, yss, x, nt, tb, i, l, hp, fun p qs F1 H1 n1 _ _ _ fp dt => q _ F1 H1 n1 ⟨p, qs, rfl, fp, dt⟩⟩
theorem look_map {l : List Kd} (nd : (l.map (·.1)).Nodup) (g : Kd → D) : ∀ k ∈ l, look (tabKs l) (l.map g) (Sum.inr k.1) = some (g k) := by
  induction l with
  | nil => intro k hk; cases hk
  | cons j l ih =>
    intro k hk
    show (if (Sum.inr j.1 : Key) = Sum.inr k.1 then some (g j) else look (tabKs l) (l.map g) (Sum.inr k.1)) = some (g k)
    rw [List.map_cons, List.nodup_cons] at nd
    rcases List.mem_cons.mp hk with rfl | hk
    · rw [if_pos rfl]
    · have ne : ¬ (Sum.inr j.1 : Key) = Sum.inr k.1 := fun z => nd.1 (List.mem_map.mpr ⟨k, hk, (Sum.inr.inj z).symm⟩)
      rw [if_neg ne]
      exact ih nd.2 k hk
/-- powers of the kinds -/
structure TpOk (l : List Kd) (tp : Str → List Nat) : Prop where
  le : ∀ k ∈ l, (tp k.1).length = k.2.length ∧ ∀ t ∈ tp k.1, t ≤ 3
def tpL (tp : Str → List Nat) (k : Kd) : D := .lst ((tp k.1).map fun n => D.int (n : Nat))
def tpT (tp : Str → List Nat) (k : Kd) : D := .tup ((tp k.1).map fun n => D.int (n : Nat))
theorem pw_of {l l' : List Kd} {tp : Str → List Nat} {g : Kd → D} (ok : KOk l) (t : TpOk l tp) (sub : ∀ k ∈ l, k ∈ l') (nd : (l'.map (·.1)).Nodup) (hg : ∀ k, seq? (g k) = some ((tp k.1).map fun n => D.int (n : Nat))) : Pw l (tabKs l') (l'.map g) tp where
  at_ := fun k hk => ⟨g k, look_map nd g k (sub k hk), hg k⟩
  le := fun k hk => ⟨by rw [(t.le k hk).1]; exact (ok.nm k hk).2.1, (t.le k hk).2⟩
def rowP (d : D) : PyData := (D.py d).getD .none
theorem row_pd {l : List Kd} {tp : Str → List Nat} (ok : KOk l) : ∀ d ∈ gridF l tp, Pd d (rowP d) 1 := fun d hd => by
  obtain ⟨k, hk, h⟩ := List.mem_flatMap.mp hd
  obtain ⟨s, _, rfl⟩ := List.mem_map.mp h
  have q : Pd (rowT k.1 s) (.tuple (.str k.1 :: s.map PyData.int)) 1 := Pd.tup (n := 0) (.cons (.str (nm_ok (ok.nm k hk).1).2) (PdL.map fun z _ => .int z))
  unfold rowP
  rw [q.py]
  exact q
theorem grid_pd {l : List Kd} {tp : Str → List Nat} (ok : KOk l) : Pd (.lst (gridF l tp)) (.list ((gridF l tp).map rowP)) 2 := by
  have := PdL.map (f := fun d => d) (g := rowP) (l := gridF l tp) (n := 1) (row_pd ok)
  rw [List.map_id'] at this
  exact Pd.lst this
theorem lists_in (rows : List D) : ∀ n, ∀ s ∈ listsF rows n, ∀ r ∈ s, r ∈ rows
  | 0, s, h, r, hr => by
    have e : s = [] := by simpa [listsF] using h
    rw [e] at hr; cases hr
  | n + 1, s, h, r, hr => by
    obtain ⟨t, ht, h2⟩ := List.mem_flatMap.mp (show s ∈ stepL rows (listsF rows n) from h)
    obtain ⟨m, hm, rfl⟩ := List.mem_map.mp h2
    rcases List.mem_append.mp hr with hr | hr
    · exact lists_in rows n t ht r hr
    · obtain rfl : r = m := by simpa using hr
      exact hm
theorem lists_pd {l : List Kd} {tp : Str → List Nat} (ok : KOk l) (n : Nat) : Pd (.lst ((listsF (gridF l tp) n).map D.lst)) (.list ((listsF (gridF l tp) n).map fun s => .list (s.map rowP))) 3 :=
  Pd.lst (n := 2) (PdL.map fun s hs => by
    have := PdL.map (f := fun d => d) (g := rowP) (l := s) (n := 1) fun d hd => row_pd ok d (lists_in _ n s hs d hd)
    rw [List.map_id'] at this
    exact Pd.lst this)
def pRight (C : Addr) (ds : List D) (d : D) : Prop := ∃ l tp, ds = [rowsD C l, .lst (l.map pairD), .dct (tabKs l) (l.map (tpL tp))] ∧ KOk l ∧ TpOk l tp ∧ d = .bl true
theorem scRight : FnScope ["_law_rows", "_law_kinds", "_law_powers", "_law_grid", "_law_tuples", "_law_told", "_law_many", "_law_lists", "_law_kind", "_law_row_here", "_law_thing"] ["_law_rows", "_law_kinds", "_law_powers"] (defScope sRight) := ⟨rfl, rfl, rfl, by decide +kernel, rfl, by decide +kernel, by decide +kernel⟩
def tupF (tp : Str → List Nat) : D → D
  | .str x => .tup [.str x, .tup ((tp x).map fun n => D.int (n : Nat))]
  | d => d
structure RiE (T : List (Addr × Str)) (P : Program) (w : World) (K : PySem.W.Frag) (mg : Str → Option Value) (base : Heap) (C : Addr) : Prop where
  R : Rt K mg C
  bD : mg "dict" = none
  kT : PySem.W.kitOne K (.type "tuple") (.type "tuple") = some true
  kL : PySem.W.kitOne K (.type "list") (.type "list") = some true
  go : FD T P w K mg base "_law_grid_of" 2 2 pGridOf
  lo : FD T P w K mg base "_law_lists_of" 2 2 pListsOf
  g1 : ∃ f, OwnN1 T P w K mg base C "grid" 2 2 (pGridL C) f
  g2 : ∃ f, OwnM T P w K mg base C "grid" 2 2 (pGrid C) f
  l1 : ∃ f, OwnNL T P w K mg base C "lists" 3 3 (pLists C) f
  l2 : ∃ f, OwnM T P w K mg base C "lists" 3 3 (pListsD C) f
end K05

set_option Elab.async false
set_option linter.all false
set_option maxRecDepth 100000
set_option maxHeartbeats 4000000
/-! K05v: _law_lists_right. -/
namespace K05
open PySem PySem.Spec PyProof.Rows L2 Fd Tx
theorem lists_one (rows : List D) : (listsF rows 1).map D.lst = rows.map fun r => D.lst [r] := by
  show (stepL rows [[]]).map D.lst = _
  unfold stepL
  simp
theorem small_pos (tops : List Nat) : 0 < (smallF tops).length := by
  have h : ∀ (tops : List Nat) (acc : List (List Int)), 0 < acc.length → 0 < (tops.foldl stepN acc).length := fun tops => by
    induction tops with
    | nil => exact fun _ h => h
    | cons t l ih => exact fun acc h => ih _ (by rw [step_len]; exact Nat.mul_pos h (by omega))
  exact h tops [[]] (by decide)
theorem grid_pos {l : List Kd} {tp : Str → List Nat} (ok : KOk l) : 0 < (gridF l tp).length := by
  obtain ⟨k, r, rfl⟩ : ∃ k r, l = k :: r := by
    cases l with
    | nil => exact absurd rfl ok.ne
    | cons k r => exact ⟨k, r, rfl⟩
  unfold gridF
  rw [List.flatMap_cons, List.length_append, List.length_map]
  have := small_pos (tp k.1)
  omega
section
variable {T : List (Addr × Str)} {P : Program} {w : World} {K : PySem.W.Frag} {mg : Str → Option Value} {base : Heap} {C f : Addr} {fd : FuncData}
theorem ok_right (F : Fun K "_law_lists_right" "_law_lists_right" sRight f fd) (V : RiE T P w K mg base C) : FnOk P w K mg base CX0 4 f fd ["_law_rows", "_law_kinds", "_law_powers"] (spD T K 3 (pRight C)) := by
  refine fd_ok F scRight rfl fun cdv A outer s H E ds d hr _ ⟨l, tp, e1, ok, t, e2⟩ => ?_
  subst e1; subst e2
  have R := V.R
  have B := R.B
  have hr2 := hr.mono (show 2 ≤ 3 by decide)
  have l10 : l.length ≤ 10 := Nat.le_trans ok.len (by decide)
  have gs : (gridF l tp).length ≤ 300 := Nat.le_trans (grid_sum t.le) ok.sm
  have pwL : Pw l (tabKs l) (l.map (tpL tp)) tp := pw_of ok t (fun k hk => hk) ok.nd fun k => rfl
  have ndr : (l.reverse.map (·.1)).Nodup := by rw [List.map_reverse]; exact List.pairwise_reverse.mpr (ok.nd.imp fun h => Ne.symm h)
  have pwT : Pw l (tabKs l.reverse) (l.reverse.map (tpT tp)) tp := pw_of ok t (fun k hk => List.mem_reverse.mpr hk) ndr fun k => rfl
  obtain ⟨_, MG1⟩ := V.g1
  obtain ⟨_, MG2⟩ := V.g2
  obtain ⟨_, ML1⟩ := V.l1
  obtain ⟨_, ML2⟩ := V.l2
  have gp := grid_pd (tp := tp) ok
  have self : PyData.eqv (.list ((gridF l tp).map rowP)) (.list ((gridF l tp).map rowP)) = true := eqv_self gp
  have pow : ∀ n, n ≤ 2 → ∀ i, i ≤ n → (gridF l tp).length ^ i ≤ 90000 := fun n hn i hi => by
    have : i = 0 ∨ i = 1 ∨ i = 2 := by omega
    rcases this with rfl | rfl | rfl
    · rw [Nat.pow_zero]; decide
    · rw [Nat.pow_one]; omega
    · rw [Nat.pow_two]; exact Nat.mul_le_mul gs gs
  refine svs_cons (sv_set 3 (d := .lst (gridF l tp)) (ev_call V.go hr2 (evs_cons (ev_var 1 rfl) (evs_cons (ev_var 2 rfl) evs_nil)) ⟨l, _, _, tp, rfl, pwL, l10, rfl⟩) ?_ scRight.nd)
  refine svs_cons (sv_set 4 (d := .dct (tabKs l.reverse) (l.reverse.map (tpT tp))) (EV.cast (ev_dictP (l := l.reverse.map fun k => (k.1, tpT tp k)) (by rw [List.map_map]; exact ndr) (EV.cast (ev_lc [("_law_kind", 8)] (.one 8) (fun _ => true) (tupF tp) (iv_list (ev_rev (ev_keysD (ev_var 2 rfl) B.list))) (id (α := BlkOk ["_law_rows", "_law_kinds", "_law_powers", "_law_grid", "_law_tuples", "_law_told", "_law_many", "_law_lists", "_law_kind", "_law_row_here", "_law_thing"] (defScope sRight) _ [("_law_kind", 8)]) ⟨rfl, by decide +kernel, by decide +kernel, by decide +kernel, by decide +kernel⟩)
    (fun s H C cl fp => pg_name (i := 8) scRight.nd rfl (Or.inl rfl)) (fun s H C' cl fp y hy => ts_nil) (fun s H C' cl fp y hy hk => ?_) scRight.nd (fun _ _ => rfl) ?_) (congrArg D.lst ?_)) V.bD) ?_) ?_ scRight.nd)
  · have hy := List.mem_reverse.mp hy
    unfold tabKs at hy
    rw [List.map_map] at hy
    obtain ⟨k, hk, rfl⟩ := List.mem_map.mp hy
    obtain ⟨dv, h1, h2⟩ := pwL.at_ k hk
    exact ev_tup (evs_cons (ev_var 8 rfl) (evs_cons (ev_tupQ h2 (ev_getD (kk := Sum.inr k.1) hr (ev_var 2 rfl) (ev_var 8 rfl) h1) B.tuple) evs_nil))
  · unfold tabKs
    rw [List.length_reverse, List.length_map, List.length_map]; omega
  · unfold outs tabKs
    rw [List.filter_eq_self.mpr fun _ _ => rfl, List.map_map, ← List.map_reverse, List.map_map, List.map_map]
    rfl
  · unfold tabKs
    rw [List.map_map, List.map_map]; rfl
  refine svs_cons (sv_setD 5 (xs := gridF l tp) (evd_meth (ev_var 0 rfl) R.ik.cl MG1 hr2 (evs_cons (ev_var 4 rfl) evs_nil) ⟨l, _, _, tp, rfl, pwT, l10, rfl⟩ (by decide)) ?_ scRight.nd)
  refine svs_cons (sv_if (t := false) (tv_lend 5 (xs := gridF l tp) rfl (TV.cast (TW.tv (tw_orB (t := false) (u := false) (TV.cast (tv_neD hr (ev_meth (d := .lst (gridF l tp)) (ev_var 0 rfl) R.ik.cl MG2 hr2 (evs_cons (ev_var 2 rfl) evs_nil) ⟨l, _, _, tp, rfl, pwL, l10, rfl⟩ (by decide)) (ev_var (d := .lst (gridF l tp)) 5 rfl) gp.py gp.py gp.shaped gp.shaped) (congrArg not self)) fun _ => tw_or1 (TV.cast (tv_neD hr (ev_meth (d := .lst ((listsF (gridF l tp) 1).map D.lst)) (ev_var 0 rfl) R.ik.cl ML2 hr (evs_cons (ev_var 4 rfl) (evs_cons ev_int evs_nil)) ⟨_, ⟨l, _, _, tp, 1, rfl, pwT, l10, by decide, fun i hi => Nat.le_trans (pow 2 (by decide) i (by omega)) (by decide), rfl⟩, rfl⟩ (by decide)) (EV.cast (ev_lc [("_law_row_here", 9)] (.one 9) (fun _ => true) (fun y => .lst [y]) (iv_list (ev_var (d := .lst (gridF l tp)) 3 rfl)) (id (α := BlkOk ["_law_rows", "_law_kinds", "_law_powers", "_law_grid", "_law_tuples", "_law_told", "_law_many", "_law_lists", "_law_kind", "_law_row_here", "_law_thing"] (defScope sRight) _ [("_law_row_here", 9)]) ⟨rfl, by decide +kernel, by decide +kernel, by decide +kernel, by decide +kernel⟩)
    (fun s H C cl fp => pg_name (i := 9) scRight.nd rfl (Or.inl rfl)) (fun s H C' cl fp y hy => ts_nil) (fun s H C' cl fp y hy hk => ev_lst (evs_cons (ev_var 9 rfl) evs_nil)) scRight.nd (fun _ _ => rfl) (by omega)) (congrArg D.lst (show _ = (listsF (gridF l tp) 1).map D.lst by rw [lists_one]; unfold outs; rw [List.filter_eq_self.mpr fun _ _ => rfl]))) (lists_pd ok 1).py (lists_pd ok 1).py (lists_pd ok 1).shaped (lists_pd ok 1).shaped) (congrArg not (eqv_self (lists_pd ok 1)))))) rfl)) (fun z => nomatch z) fun _ => svs_nil ?_)
  have allT : ∀ {α : Type} (zs : List α), ((zs.map fun _ => true).all id) = true := fun zs => by rw [List.all_map]; exact List.all_eq_true.mpr fun _ _ => rfl
  refine svs_cons (sv_if (t := false) (tv_lend 5 (xs := gridF l tp) rfl (TV.cast (TW.tv (tw_orB (t := false) (u := false) (TV.cast (tv_neD hr (ev_var (d := .lst (gridF l tp)) 5 rfl) (ev_var (d := .lst (gridF l tp)) 3 rfl) gp.py gp.py gp.shaped gp.shaped) (congrArg not self)) fun _ => tw_or1 (TV.cast (tv_not (tv_of (ev_all (bs := (gridF l tp).map fun _ => true) (EV.cast (ev_lc [("_law_thing", 10)] (.one 10) (fun _ => true) (fun _ => .bl true) (iv_list (ev_var (d := .lst (gridF l tp)) 5 rfl)) (id (α := BlkOk ["_law_rows", "_law_kinds", "_law_powers", "_law_grid", "_law_tuples", "_law_told", "_law_many", "_law_lists", "_law_kind", "_law_row_here", "_law_thing"] (defScope sRight) _ [("_law_thing", 10)]) ⟨rfl, by decide +kernel, by decide +kernel, by decide +kernel, by decide +kernel⟩)
    (fun s H C cl fp => pg_name (i := 10) scRight.nd rfl (Or.inl rfl)) (fun s H C' cl fp y hy => ts_nil) (fun s H C' cl fp y hy hk => ?_) scRight.nd (fun _ _ => rfl) (by omega)) (congrArg D.lst (outs_all (fun _ => true) _))) B.all))) (congrArg not (allT _))))) rfl)) (fun z => nomatch z) fun _ => svs_nil ?_)
  · obtain ⟨x, s, rfl⟩ := grid_rows y hy
    exact ev_isT (ev_var (d := rowT x s) 10 rfl) rfl True.intro V.kT B.tuple (by decide +kernel) B.is
  refine svs_cons (sv_append 5 rfl ev_str ?_ (by omega))
  refine svs_cons (sv_for (.one 6) (fun i ss => i ≤ (if (gridF l tp).length < 5 then 4 else 3) ∧ ∃ s6, ss = [.d (rowsD C l), .d (.lst (l.map pairD)), .d (.dct (tabKs l) (l.map (tpL tp))), .d (.lst (gridF l tp)), .d (.dct (tabKs l.reverse) (l.reverse.map (tpT tp))), .own (gridF l tp ++ [st "more"]), s6, .no, .no, .no, .no]) (iv_range1 (n := ((if (gridF l tp).length < 5 then 4 else 3 : Nat) : Int)) (ev_if (t := decide (((gridF l tp).length : Int) < 5)) (tv_lt (ev_len (y := .lst (gridF l tp)) rfl (ev_var 3 rfl) B.len) ev_int) (fun z => EV.cast ev_int (congrArg D.int ?_)) fun z => EV.cast ev_int (congrArg D.int ?_)) ?_ B.range) (pg_name (i := 6) scRight.nd rfl (Or.inl rfl)) ⟨Nat.zero_le _, .no, rfl⟩ ?_ ?_)
  · have : (gridF l tp).length < 5 := by have := of_decide_eq_true z; omega
    rw [if_pos this]; rfl
  · have : ¬ (gridF l tp).length < 5 := by have := of_decide_eq_false z; omega
    rw [if_neg this]; rfl
  · split <;> decide
  · rintro i y ss' hy ⟨hi, s6, rfl⟩
    have hlt : i < (if (gridF l tp).length < 5 then 4 else 3) := by
      have := (List.getElem?_eq_some_iff.mp hy).1
      unfold rng at this
      rw [List.length_map, List.length_range] at this
      omega
    rw [rng_get (by omega), show (0 + (i : Int)) = ((i : Nat) : Int) by omega] at hy
    cases hy
    have i3 : i ≤ 3 := by split at hlt <;> omega
    have pw : ∀ j, j ≤ i → (gridF l tp).length ^ j ≤ 90000 := fun j hj => by
      by_cases h5 : (gridF l tp).length < 5
      · exact Nat.le_trans (Nat.pow_le_pow_left (show (gridF l tp).length ≤ 4 by omega) j) (Nat.le_trans (Nat.pow_le_pow_right (by decide) (show j ≤ 3 by omega)) (by decide))
      · rw [if_neg h5] at hlt
        exact pow 2 (Nat.le_refl _) j (by omega)
    have hlen : (listsF (gridF l tp) i).length ≤ 90000 := by rw [lists_len]; exact pw i (Nat.le_refl _)
    have lp := lists_pd (tp := tp) ok i
    refine ⟨rfl, svs_fresh 7 (yss := listsF (gridF l tp) i) (evnl_meth (ev_var 0 rfl) R.ik.cl ML1 hr (evs_cons (ev_var 2 rfl) (evs_cons (ev_var 6 rfl) evs_nil)) ⟨l, _, _, tp, i, rfl, pwL, l10, i3, fun j hj => Nat.le_trans (pw j hj) (by decide), rfl⟩ (by decide)) ?_ hlen (fun s hs => by rw [lists_each _ _ s hs]; omega) ?_ ⟨hlt, .d (.int (i : Nat)), rfl⟩ (show 7 < 11 by decide) scRight.nd⟩
    · intro z
      have h := lists_len (gridF l tp) i
      rw [z] at h
      have : 0 < (gridF l tp).length ^ i := Nat.pow_pos (grid_pos ok)
      rw [← h] at this
      exact absurd this (by decide)
    · refine TV.cast (TW.tv (tw_orB (t := false) (u := false) (TV.cast (tv_neD hr (ev_var (d := .lst ((listsF (gridF l tp) i).map D.lst)) 7 rfl) (ev_call V.lo hr2 (evs_cons (ev_var 3 rfl) (evs_cons (ev_var 6 rfl) evs_nil)) ⟨gridF l tp, i, rfl, i3, by omega, pw, rfl⟩) lp.py lp.py lp.shaped lp.shaped) (congrArg not (eqv_self lp))) fun _ => tw_or1 (TV.cast (tv_not (tv_of (ev_all (bs := ((listsF (gridF l tp) i).map D.lst).map fun _ => true) (EV.cast (ev_lc [("_law_thing", 10)] (.one 10) (fun _ => true) (fun _ => .bl true) (iv_list (ev_var (d := .lst ((listsF (gridF l tp) i).map D.lst)) 7 rfl)) (id (α := BlkOk ["_law_rows", "_law_kinds", "_law_powers", "_law_grid", "_law_tuples", "_law_told", "_law_many", "_law_lists", "_law_kind", "_law_row_here", "_law_thing"] (defScope sRight) _ [("_law_thing", 10)]) ⟨rfl, by decide +kernel, by decide +kernel, by decide +kernel, by decide +kernel⟩)
        (fun s H C cl fp => pg_name (i := 10) scRight.nd rfl (Or.inl rfl)) (fun s H C' cl fp y hy => ts_nil) (fun s H C' cl fp y hy hk => ?_) scRight.nd (fun _ _ => rfl) (by rw [List.length_map]; omega)) (congrArg D.lst (outs_all (fun _ => true) _))) B.all))) (congrArg not (allT _))))) rfl
      obtain ⟨ys, _, rfl⟩ := List.mem_map.mp hy
      exact ev_isT (ev_var (d := .lst ys) 10 rfl) rfl True.intro V.kL B.list (by decide +kernel) B.is
  · rintro ss' ⟨_, s6, rfl⟩
    exact svs_one (sv_ret ev_bl rfl)
end
end K05

set_option Elab.async false
set_option linter.all false
set_option maxRecDepth 100000
set_option maxHeartbeats 4000000
/-! Fd39: a != b of lists of the very same things. -/
namespace Fd
open PySem PySem.Spec PyProof.Rows L2
def okV : V → Bool
  | .ref _ => true | .int _ => true | .str _ => true | .bl _ => true | .non => true
  | _ => false
theorem eqAt_same {A : Around} {s : Shared} {x : V} {v u : Value} (h : okV x = true) (rv : RelV x v) (ru : RelV x u) : SeqAt.EqAt A s v u true := by
  cases x with
  | ref a => cases rv; cases ru; exact SeqAt.EqAt.same _
  | int i =>
    obtain ⟨t, rfl⟩ := rv
    obtain ⟨t', rfl⟩ := ru
    have := SeqAt.EqAt.int_int (A := A) (s := s) i t i t'
    rwa [show (i == i) = true from beq_self_eq_true i] at this
  | str x =>
    obtain ⟨t, rfl⟩ := rv
    obtain ⟨t', rfl⟩ := ru
    have := SeqAt.EqAt.str_str (A := A) (s := s) x t x t'
    rwa [show (x == x) = true from beq_self_eq_true x] at this
  | bl b => cases rv; cases ru; exact SeqAt.EqAt.same _
  | non => cases rv; cases ru; exact SeqAt.EqAt.same _
  | _ => cases h
theorem op_neSame {X : Cx} (hu : X.A.units < cLine) : OpR X (compareOp .NotEq) (fun x y H Q => ∃ a b xs, x = V.ref a ∧ y = V.ref b ∧ SqL X.K H a xs ∧ SqL X.K H b xs ∧ (∀ v ∈ xs, okV v = true) ∧ Q (.bl false) H) := by
  rintro pins s σ H x y v u Q I rx ry ⟨a, b, xs, rfl, rfl, ha, hb, hv, q⟩
  cases rx
  cases ry
  obtain ⟨us, r1, p1, _⟩ := Inv.list I ha
  obtain ⟨ws, r2, p2, _⟩ := Inv.list I hb
  have l1 := Vals.length r1
  have l2 := Vals.length r2
  obtain ⟨⟨cls, dd, data, sl⟩, ho, hc, n, hd⟩ := p1.isList
  obtain ⟨⟨cls2, dd2, data2, sl2⟩, ho2, hc2, n2, hd2⟩ := p2.isList
  cases hc; cases hd; cases hc2; cases hd2
  have e : ∀ (j : Nat) (h1 : j < us.toArray.size) (h2 : j < ws.toArray.size), SeqAt.EqAt X.A.in1 s us.toArray[j] ws.toArray[j] true := fun j h1 h2 => by
    have hj : j < us.length := by simpa using h1
    have hx : j < xs.length := by omega
    obtain ⟨v1, e1, w1⟩ := Vals.get r1 (List.getElem?_eq_getElem hx)
    obtain ⟨v2, e2, w2⟩ := Vals.get r2 (List.getElem?_eq_getElem hx)
    have q1 : us.toArray[j] = v1 := by
      rw [List.getElem?_eq_getElem hj] at e1
      simpa using e1
    have q2 : ws.toArray[j] = v2 := by
      rw [List.getElem?_eq_getElem (by omega)] at e2
      simpa using e2
    rw [q1, q2]
    exact eqAt_same (hv _ (List.getElem_mem hx)) w1 w2
  show wpAny _ _ (richCompare .NotEq (.ref a) (.ref b)) _ _ _
  refine wpAny_richCompare_same_room ⟨_, ho, rfl⟩ ⟨_, ho2, rfl⟩ F.slot_list_ne ?_ hu
  refine call_meets F.slot_list_ne ⟨_, ho, rfl⟩ F.entry_list_ne (F.args_list_ne_2 (.ref a) (.ref b)) (SeqAt.list_neAt a b us.toArray ws.toArray n n2 dd dd2 sl sl2 (by simp; omega) fun _ => true) ⟨ho, ho2, e, ?_⟩
  refine ⟨fun z => (nomatch z), ?_⟩
  have : (!(List.range us.toArray.size).all fun _ => true) = false := by
    rw [List.all_eq_true.mpr fun _ _ => rfl]; rfl
  rw [this]
  exact ⟨.bl false, H, I, rfl, q⟩
end Fd

set_option Elab.async false
set_option linter.all false
set_option maxRecDepth 100000
set_option maxHeartbeats 4000000
/-! K05w: what is_row tells of a row, bent or not. -/
namespace K05
open PySem PySem.Spec PyProof.Rows L2 Fd Tx
/-- things whose values are compared by themselves -/
def okD : D → Bool
  | .non => true | .bl _ => true | .int _ => true | .str _ => true | .lst _ => true | .tup _ => true | .ins _ _ _ => true | .dct _ _ => true
  | _ => false
theorem okV_is {K : PySem.W.Frag} {F : Hp} {d : D} {v : V} (h : okD d = true) (i : Is K F d v) : okV v = true := by
  cases d with
  | non => cases (show v = _ from i); rfl
  | bl b => cases (show v = _ from i); rfl
  | int z => cases (show v = _ from i); rfl
  | str x => cases (show v = _ from i); rfl
  | lst xs => obtain ⟨a, _, rfl, _⟩ := i; rfl
  | tup xs => obtain ⟨a, _, rfl, _⟩ := i; rfl
  | ins C ns xs => obtain ⟨a, _, _, rfl, _⟩ := i; rfl
  | dct ks xs => obtain ⟨a, _, rfl, _⟩ := i; rfl
  | _ => cases h
theorem okV_isL {K : PySem.W.Frag} {F : Hp} : ∀ {ds : List D} {vs : List V}, (∀ d ∈ ds, okD d = true) → IsL K F ds vs → ∀ v ∈ vs, okV v = true
  | [], _, _, h => by cases (show _ = _ from h); exact fun v hv => nomatch hv
  | d :: ds, _, hd, h => by
    obtain ⟨v, r, rfl, h1, h2⟩ := h
    intro w hw
    rcases List.mem_cons.mp hw with rfl | hw
    · exact okV_is (hd d List.mem_cons_self) h1
    · exact okV_isL (fun y hy => hd y (List.mem_cons_of_mem _ hy)) h2 w hw
theorem rat_ok (CR : Addr) (t b : Int) : Th CR (.ins CR rN (rF t b)) := .inl ⟨_, _, rfl⟩
theorem num_th {CR : Addr} {c : Int} : ∀ d ∈ numL CR c, Th CR d ∧ isN CR d = true ∧ okD d = true := fun d hd => by
  unfold numL at hd
  simp only [List.mem_cons, List.not_mem_nil, or_false] at hd
  rcases hd with rfl | rfl | rfl | rfl
  · exact ⟨.inr ⟨"int", by decide, rfl, trivial⟩, rfl, rfl⟩
  · exact ⟨rat_ok _ _ _, by simp [isN], rfl⟩
  · exact ⟨.inr ⟨"int", by decide, rfl, trivial⟩, rfl, rfl⟩
  · exact ⟨rat_ok _ _ _, by simp [isN], rfl⟩
theorem nums_th {CR : Addr} {c : Int} {r1 n : Nat} : ∀ d ∈ rowNums CR c r1 n, Th CR d ∧ isN CR d = true ∧ okD d = true := fun d hd => by
  unfold rowNums rng at hd
  rw [List.map_map] at hd
  obtain ⟨i, _, rfl⟩ := List.mem_map.mp hd
  have h4 : (r1 + (0 + (i : Int)).toNat) % 4 < (numL CR c).length := Nat.mod_lt _ (by decide)
  show Th CR ((numL CR c).getD ((r1 + (0 + (i : Int)).toNat) % 4) .non) ∧ _
  rw [getD_some (List.getElem?_eq_getElem h4)]
  have := num_th (CR := CR) (c := c) _ (List.getElem_mem h4)
  refine ⟨this.1, ?_, ?_⟩
  · show isN CR ((numL CR c).getD ((r1 + (0 + (i : Int)).toNat) % 4) .non) = true
    rw [getD_some (List.getElem?_eq_getElem h4)]; exact this.2.1
  · show okD ((numL CR c).getD ((r1 + (0 + (i : Int)).toNat) % 4) .non) = true
    rw [getD_some (List.getElem?_eq_getElem h4)]; exact this.2.2
theorem nums_len {CR : Addr} {c : Int} {r1 n : Nat} : (rowNums CR c r1 n).length = n := by unfold rowNums rng; rw [List.length_map, List.length_map, List.length_range]
/-- the odd things are no numbers -/
theorem odd_th {CR : Addr} : ∀ d ∈ oddB, Th CR d ∧ isN CR d = false ∧ okD d = true ∧ Tyd d ∧ ∀ ks, (∀ k ∈ ks, nmOk k.1 = true) → hasN ks d = false := fun d hd => by
  have nohas : ∀ {x : Str}, nmOk x = false → ∀ ks : List Kd, (∀ k ∈ ks, nmOk k.1 = true) → hasN ks (.str x) = false := fun {x} hx ks hk => decide_eq_false fun z => by
    obtain ⟨k, hm, rfl⟩ := List.mem_map.mp z
    rw [hk k hm] at hx; cases hx
  unfold oddB at hd
  simp only [List.mem_cons, List.not_mem_nil, or_false] at hd
  rcases hd with rfl | rfl | rfl | rfl | rfl | rfl | rfl | rfl
  · exact ⟨.inr ⟨"bool", by decide, rfl, trivial⟩, rfl, rfl, True.intro, fun _ _ => rfl⟩
  · exact ⟨.inr ⟨"NoneType", by decide, rfl, trivial⟩, rfl, rfl, True.intro, fun _ _ => rfl⟩
  · exact ⟨.inr ⟨"str", by decide, rfl, trivial⟩, rfl, rfl, ⟨by decide +kernel, by decide +kernel⟩, nohas (by decide +kernel)⟩
  · exact ⟨.inr ⟨"list", by decide, rfl, trivial⟩, rfl, rfl, by show (1 : Nat) ≤ 100000; decide, fun _ _ => rfl⟩
  · exact ⟨.inr ⟨"bool", by decide, rfl, trivial⟩, rfl, rfl, True.intro, fun _ _ => rfl⟩
  · exact ⟨.inr ⟨"dict", by decide, rfl, trivial⟩, rfl, rfl, True.intro, fun _ _ => rfl⟩
  · exact ⟨.inr ⟨"str", by decide, rfl, trivial⟩, rfl, rfl, ⟨by decide +kernel, by decide +kernel⟩, nohas (by decide +kernel)⟩
  · exact ⟨.inr ⟨"tuple", by decide, rfl, trivial⟩, rfl, rfl, by show (0 : Nat) ≤ 100000; decide, fun _ _ => rfl⟩
end K05

set_option Elab.async false
set_option linter.all false
set_option maxRecDepth 100000
set_option maxHeartbeats 4000000
/-! K05x: a row, bent, is a row just if it is due. -/
namespace K05
open PySem PySem.Spec PyProof.Rows L2 Fd Tx
def rowB (ks : List Kd) (CR : Addr) : List D → Bool
  | x0 :: r => hasN ks x0 && (decide (fieldsN ks x0 = some r.length) && r.all (isN CR))
  | [] => false
theorem isRow_seq {ks : List Kd} {CR : Addr} {t : D} {xs : List D} (h : seq? t = some xs) : isRowB ks CR t = rowB ks CR xs := by
  unfold isRowB
  rw [h]
  cases xs <;> rfl
theorem lookN_at {l : List Kd} (nd : (l.map (·.1)).Nodup) : ∀ k ∈ l, lookN l k.1 = some k.2 := by
  induction l with
  | nil => intro k hk; cases hk
  | cons j l ih =>
    intro k hk
    rw [List.map_cons, List.nodup_cons] at nd
    unfold lookN
    rcases List.mem_cons.mp hk with rfl | hk
    · rw [if_pos rfl]
    · have ne : ¬ j.1 = k.1 := fun z => nd.1 (List.mem_map.mpr ⟨k, hk, z.symm⟩)
      rw [if_neg ne]
      exact ih nd.2 k hk
structure Bent (ks : List Kd) (CR : Addr) (xs : List D) (b : Bool) : Prop where
  row : rowB ks CR xs = b
  len : xs.length ≤ 10
  hd : ∀ x0 r, xs = x0 :: r → Tyd x0 ∧ ∀ y ∈ r, Th CR y
  ok : ∀ d ∈ xs, okD d = true
theorem Bent.th {ks : List Kd} {CR : Addr} {xs : List D} {b : Bool} (h : Bent ks CR xs b) {t : D} (hq : seq? t = some xs) : RowTh CR t := by
  refine ⟨?_, fun ys e => ?_⟩
  · have := h.len
    cases t <;> first | (cases hq; show _ ≤ 100000; omega) | cases hq
  · rw [hq] at e
    cases e
    exact ⟨Nat.le_trans h.len (by decide), h.hd⟩
theorem bent_ok {l : List Kd} {CR : Addr} {kd : Kd} {c : Int} {r1 r2 r3 : Nat} (ok : KOk l) (hk : kd ∈ l) (h3 : r3 < 8) : Bent l CR (bentF (someRow CR kd c r1) r1 r2 r3).1 (bentF (someRow CR kd c r1) r1 r2 r3).2 := by
  have hl3 := (ok.nm kd hk).2.1
  have nl := nums_len (CR := CR) (c := c) (r1 := r1) (n := kd.2.length)
  have nt := nums_th (CR := CR) (c := c) (r1 := r1) (n := kd.2.length)
  have tk := nm_tyd (ok.nm kd hk).1
  have hN : hasN l (.str kd.1) = true := decide_eq_true (List.mem_map_of_mem hk)
  have hF : fieldsN l (.str kd.1) = some kd.2.length := by show (lookN l kd.1).map List.length = _; rw [lookN_at ok.nd kd hk]; rfl
  have nms : ∀ k ∈ l, nmOk k.1 = true := fun k hk => (ok.nm k hk).1
  have ho : oddB.getD r3 .non ∈ oddB := by
    have h : r3 < oddB.length := h3
    rw [getD_some (List.getElem?_eq_getElem h)]
    exact List.getElem_mem h
  obtain ⟨o1, o2, o3, o4, o5⟩ := odd_th (CR := CR) _ ho
  unfold someRow bentF
  generalize oddB.getD r3 .non = odd at ho o1 o2 o3 o4 o5 ⊢
  generalize rowNums CR c r1 kd.2.length = nums at nl nt
  have allN : nums.all (isN CR) = true := List.all_eq_true.mpr fun d hd => (nt d hd).2.1
  have okN : ∀ d ∈ (D.str kd.1 :: nums), okD d = true := fun d hd => by
    rcases List.mem_cons.mp hd with rfl | hd
    · rfl
    · exact (nt d hd).2.2
  by_cases z0 : r2 = 0
  · rw [if_pos z0]
    exact ⟨by show (hasN l (.str kd.1) && (decide (fieldsN l (.str kd.1) = some nums.length) && nums.all (isN CR))) = true; rw [hN, hF, nl, allN, decide_eq_true rfl]; rfl, by show nums.length + 1 ≤ 10; omega, fun x0 r e => by cases e; exact ⟨tk, fun y hy => (nt y hy).1⟩, okN⟩
  rw [if_neg z0]
  by_cases z1 : r2 = 1
  · rw [if_pos z1]
    refine ⟨?_, by show (nums ++ [D.int (r1 : Nat)]).length + 1 ≤ 10; rw [List.length_append, List.length_singleton]; omega, fun x0 r e => ?_, fun d hd => ?_⟩
    · show (hasN l (.str kd.1) && (decide (fieldsN l (.str kd.1) = some (nums ++ [D.int (r1 : Nat)]).length) && _)) = false
      rw [hF, decide_eq_false (by rw [List.length_append, List.length_singleton, nl]; intro z; have := Option.some.inj z; omega)]
      simp
    · obtain ⟨rfl, rfl⟩ := List.cons.inj (show D.str kd.1 :: (nums ++ [D.int (r1 : Nat)]) = x0 :: r from e)
      refine ⟨tk, fun y hy => ?_⟩
      rcases List.mem_append.mp hy with hy | hy
      · exact (nt y hy).1
      · obtain rfl : y = D.int (r1 : Nat) := by simpa using hy
        exact .inr ⟨"int", by decide, rfl, trivial⟩
    · rcases List.mem_append.mp hd with hd | hd
      · exact okN d hd
      · obtain rfl : d = D.int (r1 : Nat) := by simpa using hd
        rfl
  rw [if_neg z1]
  by_cases z2 : r2 = 2
  · rw [if_pos z2]
    show Bent l CR ((D.str kd.1 :: nums).take (nums.length + 1 - 1)) false
    rw [Nat.add_sub_cancel]
    cases hn : nums.length with
    | zero => exact ⟨rfl, by simp, (fun x0 r e => nomatch e), (fun d hd => nomatch hd)⟩
    | succ m =>
      show Bent l CR (D.str kd.1 :: nums.take m) false
      refine ⟨?_, by rw [List.length_cons, List.length_take]; omega, fun x0 r e => ?_, fun d hd => ?_⟩
      · show (hasN l (.str kd.1) && (decide (fieldsN l (.str kd.1) = some (nums.take m).length) && _)) = false
        rw [hF, decide_eq_false (by rw [List.length_take]; intro z; have := Option.some.inj z; omega)]
        simp
      · cases e
        exact ⟨tk, fun y hy => (nt y (List.mem_of_mem_take hy)).1⟩
      · rcases List.mem_cons.mp hd with rfl | hd
        · rfl
        · exact (nt d (List.mem_of_mem_take hd)).2.2
  rw [if_neg z2]
  by_cases z3 : r2 = 3 ∧ 1 < (D.str kd.1 :: nums).length
  · rw [if_pos z3]
    have hpos : 0 < nums.length := by have := z3.2; rw [List.length_cons] at this; omega
    show Bent l CR ((D.str kd.1 :: nums).take (1 + r1 % (nums.length + 1 - 1)) ++ [odd] ++ (D.str kd.1 :: nums).drop (1 + r1 % (nums.length + 1 - 1) + 1)) false
    rw [Nat.add_sub_cancel, Nat.add_comm 1 (r1 % nums.length)]
    generalize ha : r1 % nums.length = a
    have hlt : a < nums.length := by rw [← ha]; exact Nat.mod_lt _ hpos
    show Bent l CR (D.str kd.1 :: (nums.take a ++ [odd] ++ nums.drop (a + 1))) false
    refine ⟨?_, by rw [List.length_cons, List.length_append, List.length_append, List.length_take, List.length_drop, List.length_singleton]; omega, fun x0 r e => ?_, fun d hd => ?_⟩
    · show (_ && (_ && (nums.take a ++ [odd] ++ nums.drop (a + 1)).all (isN CR))) = false
      have : (nums.take a ++ [odd] ++ nums.drop (a + 1)).all (isN CR) = false := by
        rw [List.all_append, List.all_append, List.all_cons, o2]
        simp
      rw [this]
      simp
    · cases e
      refine ⟨tk, fun y hy => ?_⟩
      rcases List.mem_append.mp hy with hy | hy
      · rcases List.mem_append.mp hy with hy | hy
        · exact (nt y (List.mem_of_mem_take hy)).1
        · obtain rfl : y = odd := by simpa using hy
          exact o1
      · exact (nt y (List.mem_of_mem_drop hy)).1
    · rcases List.mem_cons.mp hd with rfl | hd
      · rfl
      · rcases List.mem_append.mp hd with hd | hd
        · rcases List.mem_append.mp hd with hd | hd
          · exact (nt d (List.mem_of_mem_take hd)).2.2
          · obtain rfl : d = odd := by simpa using hd
            exact o3
        · exact (nt d (List.mem_of_mem_drop hd)).2.2
  rw [if_neg z3]
  show Bent l CR ([(badK odd (D.str kd.1)).getD (r1 % 5) .non] ++ nums) false
  have h5 : r1 % 5 < (badK odd (D.str kd.1)).length := Nat.mod_lt _ (by decide)
  have hb : (badK odd (D.str kd.1)).getD (r1 % 5) .non ∈ badK odd (D.str kd.1) := by
    rw [getD_some (List.getElem?_eq_getElem h5)]
    exact List.getElem_mem h5
  generalize (badK odd (D.str kd.1)).getD (r1 % 5) .non = bad at hb
  have nohas : ∀ {x : Str}, nmOk x = false → hasN l (.str x) = false := fun {x} hx => decide_eq_false fun z => by
    obtain ⟨k, hm, rfl⟩ := List.mem_map.mp z
    rw [nms k hm] at hx; cases hx
  have bb : hasN l bad = false ∧ Tyd bad ∧ okD bad = true := by
    unfold badK at hb
    simp only [List.mem_cons, List.not_mem_nil, or_false] at hb
    rcases hb with rfl | rfl | rfl | rfl | rfl
    · exact ⟨nohas (by decide +kernel), ⟨by decide +kernel, by decide +kernel⟩, rfl⟩
    · exact ⟨o5 l nms, o4, o3⟩
    · exact ⟨nohas (by decide +kernel), ⟨by decide +kernel, by decide +kernel⟩, rfl⟩
    · exact ⟨rfl, by show (1 : Nat) ≤ 100000; decide, rfl⟩
    · exact ⟨rfl, True.intro, rfl⟩
  refine ⟨?_, by show nums.length + 1 ≤ 10; omega, fun x0 r e => ?_, fun d hd => ?_⟩
  · show (hasN l bad && _) = false
    rw [bb.1]; rfl
  · cases e
    exact ⟨bb.2.1, fun y hy => (nt y hy).1⟩
  · rcases List.mem_cons.mp hd with rfl | hd
    · exact bb.2.2
    · exact (nt d hd).2.2
end K05

set_option Elab.async false
set_option linter.all false
set_option maxRecDepth 100000
set_option maxHeartbeats 4000000
/-! K05y: the law's loop over a row as a list and as a tuple. -/
namespace K05
open PySem PySem.Spec PyProof.Rows L2 Fd Tx
theorem scLaw : FnScope ["_law_script", "_law_kinds", "_law_row_here", "_law_rows", "_law_powers", "_law_one", "_law_due", "_law_thing", "_law_kind", "_law_fields"] ["_law_script"] (defScope sLaw) := ⟨rfl, rfl, rfl, by decide +kernel, rfl, by decide +kernel, by decide +kernel⟩
abbrev lX (P : Program) (w : World) (K : PySem.W.Frag) (mg : Str → Option Value) (base : Heap) (f : Addr) (cdv : Value) (A : Around) (outer : List Env) (s : Shared) (H : Hp) (E : XK) : Cx := bodyX CX0 P w K mg base ["_law_script", "_law_kinds", "_law_row_here", "_law_rows", "_law_powers", "_law_one", "_law_due", "_law_thing", "_law_kind", "_law_fields"] "law" sLaw f cdv A outer s H E
def ss6 (C : Addr) (d0 d1 d2 d4 : D) (l : List Kd) (xs : List D) (due : Bool) : SS := [.d d0, .d d1, .d d2, .d (rowsD C l), .d d4, .d (.lst xs), .d (.bl due), .no, .no, .no]
def neS (K : PySem.W.Frag) : R2 := fun x y H Q => ∃ a b xs, x = V.ref a ∧ y = V.ref b ∧ SqL K H a xs ∧ SqL K H b xs ∧ (∀ v ∈ xs, okV v = true) ∧ Q (.bl false) H
def rLs (K : PySem.W.Frag) : List V → Hp → VK → Prop := fun xs H Q => ∃ p ys, xs = [.ref p] ∧ (SqL K H p ys ∨ SqT K H p ys) ∧ ∀ l, H l = none → Q (.ref l) (upd H l (.lst ys))
def rl6 (C : Addr) (d0 d1 d2 d4 : D) (l : List Kd) (xs : List D) (due : Bool) (ss' : SS) (b : Bool) : Prop := ∃ t, seq? t = some xs ∧ ss' = (ss6 C d0 d1 d2 d4 l xs due).set 7 (.d t) ∧ b = false
section
variable {T : List (Addr × Str)} {P : Program} {w : World} {K : PySem.W.Frag} {mg : Str → Option Value} {base : Heap} {C CR f : Addr} {A : Around} {outer : List Env} {s : Shared} {H : Hp} {E : XK} {Q : Post} {cdv : Value} {g : Addr}
theorem first6 (hr : Room 4 (lX P w K mg base f cdv A outer s H E).A) (R : Rt K mg C) (bB : mg "bool" = none) (kB : PySem.W.kitOne K (.type "bool") (.type "bool") = some true) (M : OwnM T P w K mg base C "is_row" 2 3 (pIsRow C CR) g) {l : List Kd} {xs : List D} {due : Bool} {d0 d1 d2 d4 : D} (hb : Bent l CR xs due)
    (h : SVs T (lX P w K mg base f cdv A outer s H E) ((defBody sLaw).drop 7) (ss6 C d0 d1 d2 d4 l xs due) Q) : SVs T (lX P w K mg base f cdv A outer s H E) ((defBody sLaw).drop 6) (ss6 C d0 d1 d2 d4 l xs due) Q := by
  have B := R.B
  have hr3 := hr.mono (show 3 ≤ 4 by decide)
  refine SVs.of (pss_cons (ps_for PassesOwn.never rfl (pi_tup (pe_tup (pa_cons (pe_callTy call_list_of rfl B.list Fd.boot_list (pa_cons (pv 5) pa_nil)) (pa_cons (pe_callTy call_tuple_of rfl B.tuple Fd.boot_tuple (pa_cons (pv 5) pa_nil)) pa_nil)))) (pg_name (i := 7) scLaw.nd rfl (Or.inl rfl)) (pss_one (ps_if (PW.pt (pw_or (tA := tTv T K (rl6 C d0 d1 d2 d4 l xs due)) ?A (pw_or (tA := tTv T K (rl6 C d0 d1 d2 d4 l xs due)) ?Bb (pw_or1 (tA := tTest (tOp (neS K) (tCB (rLs K) (tCons (tVar 7) tNil)) (tVar 5))) ?Cc)))) (pss_all (T := T)) pss_nil))) (pss_all (T := T) (sts := (defBody sLaw).drop 7))) fun B0 F H0 σ Dn R0 gg => ?_
  case A =>
    refine pt_fam (T := T) (Rl := rl6 C d0 d1 d2 d4 l xs due) fun ss' b ⟨t, ht, e1, e2⟩ => ?_
    rw [e1, e2]
    exact TV.cast (tv_neB (ev_meth (d := .bl due) (ev_var 3 rfl) R.ik.cl M hr3 (evs_cons (ev_var 7 rfl) evs_nil) ⟨l, t, rfl, hb.th ht, by rw [isRow_seq ht, hb.row]⟩ (by decide)) (ev_var (d := .bl due) 6 rfl)) (by simp)
  case Bb =>
    refine pt_fam (T := T) (Rl := rl6 C d0 d1 d2 d4 l xs due) fun ss' b ⟨t, ht, e1, e2⟩ => ?_
    rw [e1, e2]
    exact TV.cast (tv_not (tv_of (ev_isT (ev_meth (d := .bl due) (ev_var 3 rfl) R.ik.cl M hr3 (evs_cons (ev_var 7 rfl) evs_nil) ⟨l, t, rfl, hb.th ht, by rw [isRow_seq ht, hb.row]⟩ (by decide)) rfl True.intro kB bB (by decide +kernel) B.is))) rfl
  case Cc => exact pt_cmpR (op_neSame (by have h := hr.units; omega)) (pe_callTy call_list_of rfl B.list Fd.boot_list (pa_cons (pv 7) pa_nil)) (pv 5) rfl
  obtain ⟨v5, s5, i5⟩ := R0.get (i := 5) (x := .lst xs) rfl
  obtain ⟨o, us, rfl, o1, o2⟩ := i5
  have hok := okV_isL hb.ok o2
  have ho := R0.sub _ _ o1
  refine ⟨.ref o, s5, o, us, rfl, .inl (SqL.of ho), fun l1 h1 => ?_⟩
  have Ra := R0.alloc (o := .lst us) h1
  have n1 := Nx.alloc (T := T) (o := .lst us) R0.sub h1
  have ho1 := Ra.sub _ _ (n1.f _ _ o1)
  refine ⟨.ref o, s5, o, us, rfl, .inl ⟨SqL.of ho1, fun t2 h2 => ?_⟩⟩
  have Rb := Ra.alloc (o := .tup us) h2
  have n2 := n1.trans (Nx.alloc (T := T) (o := .tup us) Ra.sub h2)
  refine ⟨by show 2 ≤ sizeLine; decide, fun tt h3 => ?_⟩
  have Rc := Rb.alloc (o := .tup [.ref l1, .ref t2]) h3
  have n3 := n2.trans (Nx.alloc (T := T) (o := .tup [.ref l1, .ref t2]) Rb.sub h3)
  have d12 : t2 ≠ l1 := fun z => by rw [z, upd_same] at h2; cases h2
  have d13 : tt ≠ l1 := fun z => by
    rw [z] at h3
    by_cases q : l1 = t2
    · exact d12 q.symm
    · rw [upd_ne q, upd_same] at h3; cases h3
  have d23 : tt ≠ t2 := fun z => by rw [z, upd_same] at h3; cases h3
  generalize hF : upd (upd (upd F l1 (.lst us)) t2 (.tup us)) tt (.tup [.ref l1, .ref t2]) = Fp at Rc n3
  have fl : Fp l1 = some (.lst us) := by rw [← hF, upd_ne (Ne.symm d13), upd_ne (Ne.symm d12), upd_same]
  have ft : Fp t2 = some (.tup us) := by rw [← hF, upd_ne (Ne.symm d23), upd_same]
  have fo := n3.f _ _ o1
  have ftt : Fp tt = some (.tup [.ref l1, .ref t2]) := by rw [← hF, upd_same]
  have dp := IsL.mono n3.f _ o2
  refine ⟨tt, rfl, ⟨_, SqT.of (Rc.sub _ _ ftt)⟩, ?_⟩
  refine ⟨fun i m σ' H' => m = 2 - i ∧ i ≤ 2 ∧ ∃ F', StR T K B0 F' H' σ' (ss6 C d0 d1 d2 d4 l xs due) ∧ Ext Fp F' ∧ σ'[5]? = some (some (.ref o)), ⟨2, rfl, by decide, Fp, Rc, fun _ _ h => h, s5⟩, ?_⟩
  rintro i m σ' H' ⟨rfl, hi, F', R1, x1, s51⟩
  have ht := R1.sub _ _ (x1 _ _ ftt)
  by_cases hlt : i < 2
  · obtain ⟨v, hv, t, hqt, hit⟩ : ∃ v, ([V.ref l1, V.ref t2] : List V)[i]? = some v ∧ ∃ t, seq? t = some xs ∧ Is K F' t v := by
      match i, hlt with
      | 0, _ => exact ⟨_, rfl, .lst xs, rfl, l1, us, rfl, x1 _ _ fl, IsL.mono x1 _ dp⟩
      | 1, _ => exact ⟨_, rfl, .tup xs, rfl, t2, us, rfl, SqT.of (x1 _ _ ft), IsL.mono x1 _ dp⟩
    have hseq : ∃ p, v = .ref p ∧ (F' p = some (.lst us) ∨ F' p = some (.tup us)) := by
      match i, hlt, hv with
      | 0, _, hv => cases hv; exact ⟨l1, rfl, .inl (x1 _ _ fl)⟩
      | 1, _, hv => cases hv; exact ⟨t2, rfl, .inr (x1 _ _ ft)⟩
    obtain ⟨p, rfl, hp⟩ := hseq
    refine .inr ⟨⟨_, _, SqT.of ht, hv⟩, fun σ'' H2 => ∃ F', StR T K B0 F' H2 σ'' (ss6 C d0 d1 d2 d4 l xs due) ∧ Ext Fp F' ∧ σ''[5]? = some (some (.ref o)), fun σ'' H2 h => ⟨2 - (i + 1), by omega, rfl, hlt, h⟩, fun y H2 z => ?_⟩
    obtain ⟨rfl, z⟩ := z
    have ex := z _ (SqT.of ht)
    rw [hv] at ex
    cases ex
    have ln : 7 < σ'.length := by
      have := R1.len
      rw [this]; exact (by decide : 7 < 10)
    have R2 := R1.put (i := 7) hit
    have s7 : (σ'.set 7 (some (.ref p)))[7]? = some (some (.ref p)) := List.getElem?_set_self ln
    have s5' : (σ'.set 7 (some (.ref p)))[5]? = some (some (.ref o)) := by rw [List.getElem?_set_ne (by decide)]; exact s51
    refine ⟨B0, F', _, false, ⟨t, hqt, rfl, rfl⟩, R2, fun F3 H3 m3 R3 => iteF ⟨B0, F3, _, false, ⟨t, hqt, rfl, rfl⟩, R3, fun F4 H4 m4 R4 => iteF ?_⟩⟩
    have x4 : Ext F' F4 := (m3.trans m4).f
    have h4o : H4 o = some (.lst us) := R4.sub _ _ (x4 _ _ (x1 _ _ fo))
    refine ⟨.ref p, s7, p, us, rfl, ?_, fun l4 h5 => ?_⟩
    · rcases hp with hp | hp
      · exact .inl (SqL.of (R4.sub _ _ (x4 _ _ hp)))
      · exact .inr (SqT.of (R4.sub _ _ (x4 _ _ hp)))
    · have dl : o ≠ l4 := fun z => by rw [← z, h4o] at h5; cases h5
      refine ⟨.ref o, s5', l4, o, us, rfl, rfl, SqL.of upd_same, SqL.of (by rw [upd_ne dl]; exact h4o), hok, ?_⟩
      exact ⟨false, rfl, iteF ⟨upd F4 l4 (.lst us), (R4.alloc h5).less (i := 7) rfl (.inr trivial), fun b o' e => Ext.upd (R4.free h5) _ _ (x4 _ _ (x1 _ _ e)), s5'⟩⟩
  · obtain rfl : i = 2 := by omega
    exact .inl ⟨⟨_, SqT.of ht, Nat.le_refl 2⟩, sv_go h R1 gg⟩
end
end K05

set_option Elab.async false
set_option linter.all false
set_option maxRecDepth 100000
set_option maxHeartbeats 4000000
/-! K05z0: two dicts of the same powers are equal. -/
namespace K05
open PySem PySem.Spec PyProof.Rows L2 Fd Tx
theorem is_ints {K : PySem.W.Frag} {F : Hp} : ∀ {ns : List Nat} {vs : List V}, IsL K F (ns.map fun n => D.int (n : Nat)) vs → vs = ns.map fun n => V.int (n : Nat)
  | [], _, h => h
  | n :: ns, _, h => by
    obtain ⟨v, r, rfl, h1, h2⟩ := h
    cases (show v = _ from h1)
    rw [is_ints h2]; rfl
theorem pair_ints {K : PySem.W.Frag} {H : Hp} : ∀ ns : List Nat, Paired (EqV K H 1) (ns.map fun n => V.int (n : Nat)) (ns.map fun n => V.int (n : Nat))
  | [] => .nil
  | n :: ns => .cons (by rw [EqV.eq_2]; exact .inl ⟨rfl, rfl⟩) (pair_ints ns)
theorem tpL_eq {K : PySem.W.Frag} {F H : Hp} (x : Ext F H) {tp : Str → List Nat} {k : Kd} {v u : V} (h1 : Is K F (tpL tp k) v) (h2 : Is K F (tpL tp k) u) : EqV K H 2 v u := by
  obtain ⟨a, vs, rfl, a1, a2⟩ := h1
  obtain ⟨b, us, rfl, b1, b2⟩ := h2
  obtain rfl := is_ints a2
  obtain rfl := is_ints b2
  rw [EqV.eq_2]
  exact .inr (.inr (.inl ⟨a, b, _, _, rfl, rfl, SqL.of (x _ _ a1), SqL.of (x _ _ b1), pair_ints _⟩))
section
variable {T : List (Addr × Str)} {X : Cx} {ss : SS} {a b : Expr} {pos : Pos} {l : List Kd} {tp : Str → List Nat} {n : Nat}
theorem ev_eqPw (hr : Room n X.A) (nd : (l.map (·.1)).Nodup) (ha : EV T X a ss (.dct (tabKs l) (l.map (tpL tp)))) (hb : EV T X b ss (.dct (tabKs l) (l.map (tpL tp)))) (h1 : behindInMarks .Eq b = false := by rfl) : EV T X (.Compare a [.Eq] [b] pos) ss (.bl true) :=
  ev_cmp (op_eqV hr.units) ha hb (fun B F H σ v u Q R i1 i2 q => by
    obtain ⟨p1, ks, rfl, e1, k1, d1⟩ := i1
    obtain ⟨p2, ls, rfl, e2, k2, d2⟩ := i2
    refine ⟨2, by decide, .inr ⟨p1, p2, ks, ls, rfl, rfl, R.sub _ _ e1, R.sub _ _ e2, ?_, fun p hp => ?_⟩, q _ F H R.nx R rfl⟩
    · have h1 := congrArg List.length k1
      have h2 := congrArg List.length k2
      rw [List.length_map] at h1 h2
      omega
    · obtain ⟨i, hi⟩ := List.mem_iff_getElem?.mp hp
      have hk : (tabKs l)[i]? = some p.1 := by rw [← k1, List.getElem?_map, hi]; rfl
      unfold tabKs at hk
      rw [List.getElem?_map] at hk
      obtain ⟨k, hk1, hk2⟩ := Option.map_eq_some_iff.mp hk
      have hm := List.mem_of_getElem? hk1
      obtain ⟨w, hw, iw⟩ := IsL.get' d1 (show (l.map (tpL tp))[i]? = some (tpL tp k) by rw [List.getElem?_map, hk1]; rfl)
      rw [List.getElem?_map, hi] at hw
      cases hw
      rcases look_ok p.1 k2 d2 with ⟨w1, _⟩ | ⟨d', v, w1, w2, w3, _⟩
      · rw [← hk2, look_map nd (tpL tp) k hm] at w1; cases w1
      · rw [← hk2, look_map nd (tpL tp) k hm] at w1
        cases w1
        exact ⟨v, w2, tpL_eq R.sub iw w3⟩) h1
end
end K05

set_option Elab.async false
set_option linter.all false
set_option maxRecDepth 100000
set_option maxHeartbeats 4000000
/-! K05z1: Rows made of pairs. -/
namespace K05
open PySem PySem.Spec PyProof.Rows L2 Fd Tx
theorem txs_map : ∀ zs : List Str, txs (zs.map D.str) = zs
  | [] => rfl
  | z :: zs => by show z :: txs (zs.map D.str) = _; rw [txs_map zs]
def pr (a b : D) : D := .lst [a, b]
def kindD (k : Kd) : D := .lst [.str k.1, .lst (k.2.map D.str)]
def OkK (k : Kd) : Prop := nmOk k.1 = true ∧ k.2.length ≤ 900 ∧ ∀ z ∈ k.2, nmOk z = true
theorem deep_leaf {d : D} (h : Tyd d) (hq : seq? d = none) : Deep d := ⟨h, fun xs e => by rw [hq] at e; cases e⟩
theorem deep_lst {xs : List D} (hl : xs.length ≤ 100000) (h : ∀ x ∈ xs, Tyd x ∧ ∀ ys, seq? x = some ys → x = .lst ys ∧ ys.length ≤ 900 ∧ ∀ y ∈ ys, Tyd y) : Deep (.lst xs) := ⟨hl, fun zs e => by cases e; exact h⟩
/-- what a leaf is asked -/
theorem leaf {d : D} (h : Tyd d) (hq : seq? d = none) : Tyd d ∧ ∀ ys, seq? d = some ys → d = .lst ys ∧ ys.length ≤ 900 ∧ ∀ y ∈ ys, Tyd y := ⟨h, fun ys e => by rw [hq] at e; cases e⟩
theorem leafL {xs : List D} (hl : xs.length ≤ 900) (h : ∀ y ∈ xs, Tyd y) : Tyd (.lst xs) ∧ ∀ ys, seq? (.lst xs) = some ys → D.lst xs = .lst ys ∧ ys.length ≤ 900 ∧ ∀ y ∈ ys, Tyd y := ⟨by show xs.length ≤ 100000; omega, fun ys e => by cases e; exact ⟨rfl, hl, h⟩⟩
theorem deep_pr {a b : D} (ha : Tyd a ∧ ∀ ys, seq? a = some ys → a = .lst ys ∧ ys.length ≤ 900 ∧ ∀ y ∈ ys, Tyd y) (hb : Tyd b ∧ ∀ ys, seq? b = some ys → b = .lst ys ∧ ys.length ≤ 900 ∧ ∀ y ∈ ys, Tyd y) : Deep (pr a b) :=
  deep_lst (by simp) fun x hx => by
    simp only [List.mem_cons, List.not_mem_nil, or_false] at hx
    rcases hx with rfl | rfl
    · exact ha
    · exact hb
theorem leafE : Tyd (.lst []) ∧ ∀ ys, seq? (.lst []) = some ys → D.lst [] = .lst ys ∧ ys.length ≤ 900 ∧ ∀ y ∈ ys, Tyd y := leafL (by simp) (by simp)
theorem leafF {k : Kd} (h : OkK k) : Tyd (.lst (k.2.map D.str)) ∧ ∀ ys, seq? (.lst (k.2.map D.str)) = some ys → D.lst (k.2.map D.str) = .lst ys ∧ ys.length ≤ 900 ∧ ∀ y ∈ ys, Tyd y :=
  leafL (by rw [List.length_map]; exact h.2.1) fun y hy => by obtain ⟨z, hz, rfl⟩ := List.mem_map.mp hy; exact nm_tyd (h.2.2 z hz)
theorem deep_kind {k : Kd} (h : OkK k) : Deep (kindD k) := deep_pr (leaf (nm_tyd h.1) rfl) (leafF h)
/-- kinds as Rows takes them -/
structure Ks (l : List Kd) : Prop where
  ok : ∀ k ∈ l, OkK k
  fd : ∀ k ∈ l, k.2.Nodup
  nd : (l.map (·.1)).Nodup
  len : l.length ≤ 100
def EncK (e : Kd → D) : Prop := ∀ k, (e k = .lst [.str k.1, .lst (k.2.map D.str)] ∨ e k = .tup [.str k.1, .lst (k.2.map D.str)])
theorem EncK.seq {e : Kd → D} (h : EncK e) (k : Kd) : seq? (e k) = some [.str k.1, .lst (k.2.map D.str)] := by
  rcases h k with h | h <;> rw [h] <;> rfl
theorem EncK.parse {e : Kd → D} (h : EncK e) (k : Kd) : parse (e k) = k := by
  unfold K05.parse
  rw [h.seq]
  show (k.1, txs (k.2.map D.str)) = k
  rw [txs_map]
theorem EncK.deep {e : Kd → D} (h : EncK e) {k : Kd} (ok : OkK k) : Deep (e k) := by
  have d := deep_kind ok
  rcases h k with h | h
  · rw [h]; exact d
  · rw [h]; exact ⟨by show (2 : Nat) ≤ 100000; decide, fun xs q => by cases q; exact d.2 _ rfl⟩
theorem all_names {zs : List Str} (h : ∀ z ∈ zs, nmOk z = true) : (zs.map D.str).all isNm = true := by
  rw [List.all_map, List.all_eq_true]
  exact h
theorem EncK.kwf {e : Kd → D} (h : EncK e) {k : Kd} (ok : OkK k) (nd : k.2.Nodup) : kwf (e k) = true := by
  unfold K05.kwf
  rw [h.seq]
  show (nmOk k.1 && ((k.2.map D.str).all isNm && decide ((txs (k.2.map D.str)).Nodup))) = true
  rw [ok.1, all_names ok.2.2, txs_map, decide_eq_true nd]; rfl
theorem enc_map {e : Kd → D} (h : EncK e) (l : List Kd) : (l.map e).map parse = l := by
  rw [List.map_map]
  have : (parse ∘ e) = id := funext h.parse
  rw [this, List.map_id]
theorem enc_good {e : Kd → D} (h : EncK e) {l : List Kd} (K : Ks l) : GoodTo (l.map e) (l.map e).length := fun i hi d hd => by
  rw [List.length_map] at hi
  rw [List.getElem?_map, List.getElem?_eq_getElem hi] at hd
  cases hd
  have hm : l[i] ∈ l := List.getElem_mem hi
  refine ⟨h.kwf (K.ok _ hm) (K.fd _ hm), ?_⟩
  rw [h.parse]
  intro z
  obtain ⟨d, hd, e1⟩ := List.mem_map.mp z
  obtain ⟨j, hj⟩ := List.mem_iff_getElem?.mp hd
  have hlt : j < i := by
    have h1 := (List.getElem?_eq_some_iff.mp hj).1
    rw [List.length_take] at h1; omega
  rw [List.getElem?_take_of_lt hlt, List.getElem?_map, List.getElem?_eq_getElem (by omega)] at hj
  cases hj
  rw [h.parse] at e1
  have nd := K.nd
  have e2 : (l.map (·.1))[j]? = (l.map (·.1))[i]? := by
    rw [List.getElem?_map, List.getElem?_map, List.getElem?_eq_getElem hi, List.getElem?_eq_getElem (by omega)]
    exact congrArg some e1
  have := (List.getElem?_inj (by rw [List.length_map]; omega) nd).mp e2
  omega
theorem enc_things {e : Kd → D} (h : EncK e) {l : List Kd} (K : Ks l) {x : D} (hx : seq? x = some (l.map e)) : Things x (l.map e) :=
  ⟨hx, by rw [List.length_map]; have := K.len; omega, fun d hd => by obtain ⟨k, hk, rfl⟩ := List.mem_map.mp hd; exact h.deep (K.ok k hk)⟩
theorem enc_kind : EncK kindD := fun k => .inl rfl
theorem init_enc {e : Kd → D} (h : EncK e) {l : List Kd} (K : Ks l) {x : D} (hx : seq? x = some (l.map e)) : pInit [x] rowsN [.dct (tabKs l) (tabXs l)] :=
  ⟨x, l.map e, rfl, enc_things h K hx, enc_good h K, rfl, by rw [enc_map h]⟩
theorem pair_enc : EncK pairD := fun k => .inr rfl
theorem ks_of {l : List Kd} (ok : KOk l) : Ks l := ⟨fun k hk => ⟨(ok.nm k hk).1, Nat.le_trans (ok.nm k hk).2.1 (by decide), (ok.nm k hk).2.2.1⟩, fun k hk => (ok.nm k hk).2.2.2, ok.nd, Nat.le_trans ok.len (by decide)⟩
end K05

set_option Elab.async false
set_option linter.all false
set_option maxRecDepth 100000
set_option maxHeartbeats 4000000
/-! K05z2: the law. -/
namespace K05
open PySem PySem.Spec PyProof.Rows L2 Fd Tx
def Z7 : List Int := [24, 24, 5, 8, 4, 4, 3]
theorem z7_pos : ∀ z ∈ Z7, 0 < z ∧ z ≤ 10 ^ 30 := by decide +kernel
def tpOf (l : List Kd) (r4 r5 r6 : Nat) (x : Str) : List Nat := match lookN l x with
  | some fs => powF r4 r5 r6 fs.length
  | none => []
theorem tp_at {l : List Kd} (nd : (l.map (·.1)).Nodup) {r4 r5 r6 : Nat} {k : Kd} (hk : k ∈ l) : tpOf l r4 r5 r6 k.1 = powF r4 r5 r6 k.2.length := by unfold tpOf; rw [lookN_at nd k hk]
theorem tp_ok {l : List Kd} (ok : KOk l) {r4 r5 r6 : Nat} (h4 : r4 < 4) (h5 : r5 < 4) : TpOk l (tpOf l r4 r5 r6) := ⟨fun k hk => by
  rw [tp_at ok.nd hk]
  have hf := (ok.nm k hk).2.1
  unfold powF
  refine ⟨by rw [List.length_map, List.length_take]; show min k.2.length 3 = _; omega, fun t ht => ?_⟩
  obtain ⟨n, hn, rfl⟩ := List.mem_map.mp ht
  have hm := List.mem_of_mem_take hn
  simp only [List.mem_cons, List.not_mem_nil, or_false] at hm
  have : n ≤ 3 := by rcases hm with rfl | rfl | rfl <;> omega
  split <;> omega⟩
theorem pow_eq {l : List Kd} (nd : (l.map (·.1)).Nodup) {r4 r5 r6 : Nat} : powX r4 r5 r6 l = l.map (tpL (tpOf l r4 r5 r6)) := by
  unfold powX tpL
  exact List.map_congr_left fun k hk => by rw [tp_at nd hk]
/-- things that are no rows -/
def noRows (x : Str) : List D := [.non, .int 5, st "", st "a", .dct [] [], .lst [], .tup [], .lst [.non], .str x, .lst [.lst []], .bl true, .lst [.tup []]]
theorem noRows_ok {l : List Kd} {CR : Addr} {x : Str} (hx : Tyd (.str x)) : ∀ t ∈ noRows x, RowTh CR t ∧ isRowB l CR t = false := fun t ht => by
  have leaf : ∀ {t : D}, Tyd t → seq? t = none → RowTh CR t ∧ isRowB l CR t = false := fun {t} h hq => ⟨⟨h, fun xs e => by rw [hq] at e; cases e⟩, by unfold isRowB; rw [hq]⟩
  have one : ∀ {t y : D}, seq? t = some [y] → Tyd t → Tyd y → hasN l y = false → RowTh CR t ∧ isRowB l CR t = false := fun {t y} hq h1 h2 h3 => ⟨⟨h1, fun xs e => by
    rw [hq] at e; cases e
    exact ⟨(show 1 ≤ 100 by decide), fun x0 r e => by cases e; exact ⟨h2, fun y hy => nomatch hy⟩⟩⟩, by rw [isRow_seq hq]; show (hasN l y && _) = false; rw [h3]; rfl⟩
  have nil : ∀ {t : D}, seq? t = some [] → Tyd t → RowTh CR t ∧ isRowB l CR t = false := fun {t} hq h1 => ⟨⟨h1, fun xs e => by
    rw [hq] at e; cases e
    exact ⟨by decide, fun x0 r e => nomatch e⟩⟩, by rw [isRow_seq hq]; rfl⟩
  unfold noRows at ht
  simp only [List.mem_cons, List.not_mem_nil, or_false] at ht
  rcases ht with rfl | rfl | rfl | rfl | rfl | rfl | rfl | rfl | rfl | rfl | rfl | rfl
  · exact leaf True.intro rfl
  · exact leaf True.intro rfl
  · exact leaf ⟨by decide +kernel, by decide +kernel⟩ rfl
  · exact leaf ⟨by decide +kernel, by decide +kernel⟩ rfl
  · exact leaf True.intro rfl
  · exact nil rfl (by show (0 : Nat) ≤ 100000; decide)
  · exact nil rfl (by show (0 : Nat) ≤ 100000; decide)
  · exact one rfl (by show (1 : Nat) ≤ 100000; decide) True.intro rfl
  · exact leaf hx rfl
  · exact one rfl (by show (1 : Nat) ≤ 100000; decide) (by show (0 : Nat) ≤ 100000; decide) rfl
  · exact leaf True.intro rfl
  · exact one rfl (by show (1 : Nat) ≤ 100000; decide) (by show (0 : Nat) ≤ 100000; decide) rfl
structure LwE (T : List (Addr × Str)) (P : Program) (w : World) (K : PySem.W.Frag) (mg : Str → Option Value) (base : Heap) (C CR : Addr) : Prop where
  R : Rt K mg C
  bB : mg "bool" = none
  kB : PySem.W.kitOne K (.type "bool") (.type "bool") = some true
  G : MD T P w K mg base "Rows" C 1 3 pInit
  isr : ∃ g, OwnM T P w K mg base C "is_row" 2 3 (pIsRow C CR) g
  cell : FD T P w K mg base "_law_cell" 2 1 pCell
  row : FD T P w K mg base "_law_row" 2 1 pRow
  shape : FD T P w K mg base "_law_shape" 1 3 pShape
  wide : FD T P w K mg base "_law_wide" 1 3 pWide
  some_ : FD T P w K mg base "_law_some_row" 3 3 (pSomeRow CR)
  bent : FD T P w K mg base "_law_bent" 2 1 pBent
  pows : FD T P w K mg base "_law_some_powers" 2 1 pPowers
  right : FD T P w K mg base "_law_lists_right" 3 4 (pRight C)
section
variable {T : List (Addr × Str)} {X : Cx} {ss : SS} {a b : Expr} {pos : Pos}
theorem tv_isNotB {x y : Bool} (ha : EV T X a ss (.bl x)) (hb : EV T X b ss (.bl y)) (h1 : behindInMarks .IsNot b = false := by rfl) : TV T X (.Compare a [.IsNot] [b] pos) ss (!decide (x = y)) :=
  tv_cmp op_notBl ha hb (fun B F H σ v u Q R i1 i2 q => ⟨x, y, i1, i2, q F H R.nx R⟩) h1
end
section
variable {T : List (Addr × Str)} {P : Program} {w : World} {K : PySem.W.Frag} {mg : Str → Option Value} {base : Heap} {C CR f : Addr} {fd : FuncData}
theorem ok_law (F : Fun K "law" "law" sLaw f fd) (V : LwE T P w K mg base C CR) : FnOk P w K mg base CX0 5 f fd ["_law_script"] (spD T K 1 pLaw) := by
  refine fd_ok F scLaw rfl fun cdv A outer s H E ds d hr _ ⟨ns, e1, hn, e2⟩ => ?_
  subst e1; subst e2
  have R := V.R
  have B := R.B
  have hr1 := hr.mono (show 1 ≤ 4 by decide)
  have hr3 := hr.mono (show 3 ≤ 4 by decide)
  obtain ⟨_, M⟩ := V.isr
  obtain ⟨r0, g0, l0⟩ := rowF_at (c := ns.getD 1 0) (zs := Z7) (i := 0) (z := 24) rfl (by decide)
  obtain ⟨r1, g1, l1⟩ := rowF_at (c := ns.getD 1 0) (zs := Z7) (i := 1) (z := 24) rfl (by decide)
  obtain ⟨r2, g2, l2⟩ := rowF_at (c := ns.getD 1 0) (zs := Z7) (i := 2) (z := 5) rfl (by decide)
  obtain ⟨r3, g3, l3⟩ := rowF_at (c := ns.getD 1 0) (zs := Z7) (i := 3) (z := 8) rfl (by decide)
  obtain ⟨r4, g4, l4⟩ := rowF_at (c := ns.getD 1 0) (zs := Z7) (i := 4) (z := 4) rfl (by decide)
  obtain ⟨r5, g5, l5⟩ := rowF_at (c := ns.getD 1 0) (zs := Z7) (i := 5) (z := 4) rfl (by decide)
  obtain ⟨r6, g6, l6⟩ := rowF_at (c := ns.getD 1 0) (zs := Z7) (i := 6) (z := 3) rfl (by decide)
  have q0 := rowD_get g0
  have q1 := rowD_get g1
  have q2 := rowD_get g2
  have q3 := rowD_get g3
  have q4 := rowD_get g4
  have q5 := rowD_get g5
  have q6 := rowD_get g6
  refine svs_cons (sv_set 1 (d := .lst ((shapeK (ns.getD 0 0)).map pairD)) (ev_ixT ⟨0, rfl, rfl⟩ (ev_call V.shape hr3 (evs_cons (ev_call V.cell hr1 (evs_cons (ev_var 0 rfl) (evs_cons ev_int evs_nil)) ⟨ns, 0, rfl, hn, rfl⟩) evs_nil) ⟨_, rfl, rfl⟩) ev_int) ?_ scLaw.nd)
  refine svs_cons (sv_set 2 (d := .lst (rowD (rowF (ns.getD 1 0) Z7))) (EV.cast (ev_call V.row hr1 (evs_cons (ev_call V.cell hr1 (evs_cons (ev_var 0 rfl) (evs_cons ev_int evs_nil)) ⟨ns, 1, rfl, hn, rfl⟩) (evs_cons (EV.cast (d' := .lst (Z7.map D.int)) (ev_lst (evs_cons ev_int (evs_cons ev_int (evs_cons ev_int (evs_cons ev_int (evs_cons ev_int (evs_cons ev_int (evs_cons ev_int evs_nil)))))))) rfl) evs_nil)) ⟨_, Z7, rfl, by decide, z7_pos, rfl⟩) (by rw [rowF_eq fun z hz => (z7_pos z hz).1])) ?_ scLaw.nd)
  generalize rowD (rowF (ns.getD 1 0) Z7) = row at q0 q1 q2 q3 q4 q5 q6 ⊢
  have rest : ∀ l : List Kd, KOk l → SVs T (lX P w K mg base f cdv A outer s H E) ((defBody sLaw).drop 3) [.d (.rdl (ns.map D.int)), .d (.lst (l.map pairD)), .d (.lst row), .no, .no, .no, .no, .no, .no, .no] { nx := fun _ => D.bl true = .non, rt := fun d' => d' = .bl true } := fun l ok => by
    have tpk := tp_ok (r6 := r6) ok (by omega : r4 < 4) (by omega : r5 < 4)
    have pe := pow_eq ok.nd (r4 := r4) (r5 := r5) (r6 := r6)
    obtain ⟨k0, lr, el⟩ : ∃ k0 lr, l = k0 :: lr := by
      cases l with
      | nil => exact absurd rfl ok.ne
      | cons a b => exact ⟨a, b, rfl⟩
    have h0 : 0 < l.length := by rw [el, List.length_cons]; omega
    have hlt : r0 % l.length < l.length := Nat.mod_lt _ h0
    obtain ⟨kd, hkd⟩ : ∃ kd, l[r0 % l.length]? = some kd := ⟨_, List.getElem?_eq_getElem hlt⟩
    have hkm := List.mem_of_getElem? hkd
    have hf := (ok.nm kd hkm).2.1
    refine svs_cons (sv_set 3 (d := rowsD C l) (ev_make V.G hr (evs_cons (EV.cast (d' := .lst (l.map pairD)) (ev_lc [("_law_kind", 8), ("_law_fields", 9)] (.many [8, 9]) (fun _ => true) (fun y => y) (iv_list (ev_var 1 rfl)) (id (α := BlkOk ["_law_script", "_law_kinds", "_law_row_here", "_law_rows", "_law_powers", "_law_one", "_law_due", "_law_thing", "_law_kind", "_law_fields"] (defScope sLaw) _ [("_law_kind", 8), ("_law_fields", 9)]) ⟨rfl, by decide +kernel, by decide +kernel, by decide +kernel, by decide +kernel⟩)
      (fun s H C cl fp => pg_tup rfl (pgs_cons (pg_name (i := 8) scLaw.nd rfl (Or.inl rfl)) (pgs_cons (pg_name (i := 9) scLaw.nd rfl (Or.inl rfl)) pgs_nil))) (fun s H C' cl fp y hy => ts_nil) (fun s H C' cl fp y hy hk => ?_) scLaw.nd (fun y hy => ?_) ?_) (congrArg D.lst (show _ = l.map pairD by unfold outs; rw [List.filter_eq_self.mpr fun _ _ => rfl, List.map_id']))) evs_nil) (init_enc pair_enc (ks_of ok) (x := .lst (l.map pairD)) rfl)) ?_ scLaw.nd)
    · obtain ⟨k, _, rfl⟩ := List.mem_map.mp hy
      exact ev_tup (evs_cons (ev_var 8 rfl) (evs_cons (ev_listOf (.inl rfl) (ev_var 9 rfl) B.list) evs_nil))
    · obtain ⟨k, _, rfl⟩ := List.mem_map.mp hy
      rfl
    · rw [List.length_map]; have := ok.len; omega
    have pows : ∀ {ss : SS} {a b : Expr} {p pos : Pos}, EV T (lX P w K mg base f cdv A outer s H E) a ss (.lst (l.map pairD)) → EV T (lX P w K mg base f cdv A outer s H E) b ss (.lst row) → pPowers [.lst (l.map pairD), .lst row] (.dct (tabKs l) (powX r4 r5 r6 l)) := fun _ _ => ⟨l, row, r4, r5, r6, rfl, fun k hk => (ok.nm k hk).2.1, ok.nd, ok.len, q4, q5, q6, by omega, rfl⟩
    have pp : pPowers [.lst (l.map pairD), .lst row] (.dct (tabKs l) (powX r4 r5 r6 l)) := ⟨l, row, r4, r5, r6, rfl, fun k hk => (ok.nm k hk).2.1, ok.nd, ok.len, q4, q5, q6, by omega, rfl⟩
    refine svs_cons (sv_set 4 (d := .dct (tabKs l) (l.map (tpL (tpOf l r4 r5 r6)))) (EV.cast (ev_call V.pows hr1 (evs_cons (ev_var 1 rfl) (evs_cons (ev_var 2 rfl) evs_nil)) pp) (by rw [pe])) ?_ scLaw.nd)
    generalize hc : (ns.getD 2 0) % ((10 : Int) ^ (30 : Int).toNat) = c
    have hb := bent_ok (CR := CR) (c := c) (r1 := r1) (r2 := r2) ok hkm (by omega : r3 < 8)
    refine svs_cons (sv_tg (.many [5, 6]) (d := bentD (bentF (someRow CR kd c r1) r1 r2 r3)) (ev_call V.bent hr1 (evs_cons (ev_call V.some_ hr3 (evs_cons (ev_var 1 rfl) (evs_cons (ev_var 2 rfl) (evs_cons (EV.cast (ev_mod (by decide) (ev_int1 (ev_call V.cell hr1 (evs_cons (ev_var 0 rfl) (evs_cons ev_int evs_nil)) ⟨ns, 2, rfl, hn, rfl⟩) B.int) (ev_pow ⟨by decide, by decide, by decide⟩ ev_int ev_int)) (congrArg D.int hc)) evs_nil))) ⟨l, row, c, r0, r1, kd, rfl, ok.ne, q0, q1, hkd, hf, rfl⟩) (evs_cons (ev_var 2 rfl) evs_nil)) ⟨_, row, r1, r2, r3, rfl, List.cons_ne_nil _ _, by show (rowNums CR c r1 kd.2.length).length + 1 ≤ 10; rw [nums_len]; omega, q1, q2, q3, by omega, rfl⟩) (pg_tup rfl (pgs_cons (pg_name (i := 5) scLaw.nd rfl (Or.inl rfl)) (pgs_cons (pg_name (i := 6) scLaw.nd rfl (Or.inl rfl)) pgs_nil))) rfl ?_)
    refine first6 hr R V.bB V.kB M hb ?_
    have tk0 := nm_tyd (ok.nm k0 (by rw [el]; exact List.mem_cons_self)).1
    refine svs_cons (sv_for (.one 7) (fun i ss => ∃ s7, ss = [.d (.rdl (ns.map D.int)), .d (.lst (l.map pairD)), .d (.lst row), .d (rowsD C l), .d (.dct (tabKs l) (l.map (tpL (tpOf l r4 r5 r6)))), .d (.lst (bentF (someRow CR kd c r1) r1 r2 r3).1), .d (.bl (bentF (someRow CR kd c r1) r1 r2 r3).2), s7, .no, .no]) (xs := noRows k0.1) (iv_list (ev_lst (evs_cons ev_non (evs_cons ev_int (evs_cons ev_str (evs_cons ev_str (evs_cons ev_dict0 (evs_cons (ev_lst evs_nil) (evs_cons (ev_tup evs_nil) (evs_cons (ev_lst (evs_cons ev_non evs_nil)) (evs_cons (ev_ixT (d := .str k0.1) (xs := [.str k0.1, .lst (k0.2.map D.str)]) ⟨0, rfl, rfl⟩ (ev_ixL (d := pairD k0) ⟨0, rfl, by rw [el]; rfl⟩ (ev_var 1 rfl) ev_int) ev_int) (evs_cons (ev_lst (evs_cons (ev_lst evs_nil) evs_nil)) (evs_cons ev_bl (evs_cons (ev_lst (evs_cons (ev_tup evs_nil) evs_nil)) evs_nil)))))))))))))) (pg_name (i := 7) scLaw.nd rfl (Or.inl rfl)) ⟨.no, rfl⟩ ?_ ?_)
    · rintro i t ss' ht ⟨s7, rfl⟩
      obtain ⟨rt, rb⟩ := noRows_ok (l := l) (CR := CR) tk0 t (List.mem_of_getElem? ht)
      exact ⟨rfl, svs_one (sv_if (t := false) (TV.cast (tv_isNotB (x := false) (y := false) (ev_meth (d := .bl false) (ev_var 3 rfl) R.ik.cl M hr3 (evs_cons (ev_var 7 rfl) evs_nil) ⟨l, t, rfl, rt, by rw [rb]⟩ (by decide)) ev_bl) rfl) (fun z => nomatch z) fun _ => svs_nil ⟨_, rfl⟩)⟩
    · rintro ss' ⟨s7, rfl⟩
      have pr : pRight C [rowsD C l, .lst (l.map pairD), .dct (tabKs l) (l.map (tpL (tpOf l r4 r5 r6)))] (.bl true) := ⟨l, _, rfl, ok, tpk, rfl⟩
      refine svs_cons (sv_if (t := false) (TV.cast (TW.tv (tw_orB (t := false) (u := false) (TV.cast (tv_not (tv_of (ev_call V.right hr (evs_cons (ev_var 3 rfl) (evs_cons (ev_var 1 rfl) (evs_cons (ev_var 4 rfl) evs_nil))) pr))) rfl) fun _ => tw_or1 (TV.cast (tv_not (tv_of (ev_call V.right hr (evs_cons (ev_var 3 rfl) (evs_cons (ev_var 1 rfl) (evs_cons (ev_var 4 rfl) evs_nil))) pr))) rfl))) rfl) (fun z => nomatch z) fun _ => svs_nil ?_)
      exact svs_one (sv_ret (ev_eqPw hr ok.nd (ev_var 4 rfl) (EV.cast (ev_call V.pows hr1 (evs_cons (ev_var 1 rfl) (evs_cons (ev_var 2 rfl) evs_nil)) pp) (by rw [pe]))) rfl)
  refine svs_cons (sv_if (t := decide ((r6 : Int) = 0)) (tv_eqI (ev_ixL ⟨6, rfl, q6⟩ (ev_var 2 rfl) ev_int) ev_int) (fun z => ?_) fun z => svs_nil (rest _ (shape_ok _)))
  exact svs_one (sv_set 1 (d := .lst ((wideK (ns.getD 0 0)).map pairD)) (ev_call V.wide hr3 (evs_cons (ev_call V.cell hr1 (evs_cons (ev_var 0 rfl) (evs_cons ev_int evs_nil)) ⟨ns, 0, rfl, hn, rfl⟩) evs_nil) ⟨_, rfl, rfl⟩) (rest _ (wide_ok _)) scLaw.nd)
end
end K05

set_option Elab.async false
set_option linter.all false
set_option maxRecDepth 100000
set_option maxHeartbeats 4000000
/-! K05z3: from the facts of the top to the law's contract. -/
namespace K05
open PySem PySem.Spec PyProof.Rows L2 Fd PySem.ExS
section
variable {P : Program} {w : World} {K : PySem.W.Frag} {mg : Str → Option Value} {C CR fI : Addr} {fdI : FuncData} {cI : Value}
theorem own_mk {T : List (Addr × Str)} {base : Heap} {m qual : Str} {st : Stmt} {f : Addr} {cdv : Value} {n k : Nat} {ps : List Str} {pre : List D → D → Prop} (M : Mz K C m qual st f cdv) (hn : ps.length = n) (hb : ∀ fd, Fun K m qual st f fd → Binds K fd ps []) (ok : ∀ fd, Fun K m qual st f fd → FnOk P w K mg base CX0 k f fd ps (spD T K n pre)) : OwnM T P w K mg base C m n k pre f := by
  obtain ⟨fd, F, _⟩ := M.fn
  exact ⟨M.me.at_, M.me.fn, M.me.kp, fd, ps, hb fd F, hn, ok fd F⟩
theorem fd_mk {T : List (Addr × Str)} {base : Heap} {x : Str} {st : Stmt} {f : Addr} {cdv : Value} {n k : Nat} {ps : List Str} {pre : List D → D → Prop} (M : Dz K mg x st f cdv) (hn : ps.length = n) (hb : ∀ fd, Fun K x x st f fd → Binds K fd ps []) (ok : ∀ fd, Fun K x x st f fd → FnOk P w K mg base CX0 k f fd ps (spD T K n pre)) : FD T P w K mg base x n k pre := by
  obtain ⟨fd, F, _⟩ := M.fn
  exact FD.mk M.at_ F.kp (hb fd F) hn (ok fd F)
theorem init_b0 (I : Iz K C "Ratio.__init__" sRInit fI fdI cI) : Binds K fdI ["self", "top", "bottom"] [] := by
  obtain ⟨ds, v, b⟩ := FunD.binds1 (ps := ["self", "top", "bottom"]) I.d 3 1 (by simp) (by rfl) fun T kV doc pm an cdv ct us its l1 l2 => match us, its, l1, l2 with | [_, _, _], [_], _, _ => ⟨_, rfl, rfl⟩
  cases v
  exact b
theorem tys_all {Pr : String → Prop} (h1 : Pr "int") (h2 : Pr "bool") (h3 : Pr "str") (h4 : Pr "NoneType") (h5 : Pr "list") (h6 : Pr "tuple") (h7 : Pr "dict") : ∀ T, T ∈ tys → Pr T := fun T h => by
  unfold tys at h
  simp only [List.mem_cons, List.not_mem_nil, or_false] at h
  rcases h with rfl | rfl | rfl | rfl | rfl | rfl | rfl <;> assumption
/-- all that is known of the top -/
structure Tp (P : Program) (K : PySem.W.Frag) (mg : Str → Option Value) (C CR fI : Addr) (fdI : FuncData) (cI : Value) : Prop where
  mgR : mg "Rows" = some (.ref C)
  R : Rt K mg C
  Rr : RtR K mg CR
  gcd : mg "gcd" = some (.builtin "math.gcd")
  I : Iz K CR "Ratio.__init__" sRInit fI fdI cI
  bD : mg "dict" = none
  kT : PySem.W.kitOne K (.type "tuple") (.type "tuple") = some true
  kL : PySem.W.kitOne K (.type "list") (.type "list") = some true
  kB : PySem.W.kitOne K (.type "bool") (.type "bool") = some true
  mk1 : PySem.W.makesIn K C = true
  kC : PySem.W.keepIn K (.ref C) = true
  m0 : ∃ f c, Mz K C "__init__" "Rows.__init__" sInit f c
  m1 : ∃ f c, Mz K C "is_row" "Rows.is_row" sIsRow f c
  m2 : ∃ f c, Mz K C "grid" "Rows.grid" sGrid f c
  m3 : ∃ f c, Mz K C "lists" "Rows.lists" sLists f c
  m4 : ∃ f c, Mz K C "_is_kind" "Rows._is_kind" sIsKind f c
  d1 : ∃ f c, Dz K mg "is_int" sIsInt f c
  d2 : ∃ f c, Dz K mg "is_list" sIsList f c
  d3 : ∃ f c, Dz K mg "is_name" sIsName f c
  d4 : ∃ f c, Dz K mg "is_number" sIsNum f c
  d5 : ∃ f c, Dz K mg "_is_kind_with_fields" sKwf f c
  d6 : ∃ f c, Dz K mg "_small_numbers" sSmall f c
  e1 : ∃ f c, Dz K mg "_law_cell" sCell f c
  e2 : ∃ f c, Dz K mg "_law_row" sRow f c
  e3 : ∃ f c, Dz K mg "_law_word" sWord f c
  e4 : ∃ f c, Dz K mg "_law_words" sWords f c
  e5 : ∃ f c, Dz K mg "_law_shape" sShape f c
  e6 : ∃ f c, Dz K mg "_law_wide" sWide f c
  e7 : ∃ f c, Dz K mg "_law_longer" sLonger f c
  e8 : ∃ f c, Dz K mg "_law_grid_of" sGridOf f c
  e9 : ∃ f c, Dz K mg "_law_lists_of" sListsOf f c
  g1 : ∃ f c, Dz K mg "_law_some_row" sSomeRow f c
  g2 : ∃ f c, Dz K mg "_law_bent" sBent f c
  g3 : ∃ f c, Dz K mg "_law_some_powers" sPowers f c
  g4 : ∃ f c, Dz K mg "_law_lists_right" sRight f c
  g5 : ∃ f c, Dz K mg "law" sLaw f c
theorem all_le {base : Heap} (t : Tp P K mg C CR fI fdI cI) : LwE [] P w K mg base C CR := by
  have R := t.R
  have B := R.B
  have Q := R.Q
  obtain ⟨_, _, m0⟩ := t.m0
  obtain ⟨_, _, m1⟩ := t.m1
  obtain ⟨_, _, m2⟩ := t.m2
  obtain ⟨_, _, m3⟩ := t.m3
  obtain ⟨_, _, m4⟩ := t.m4
  obtain ⟨_, _, d1⟩ := t.d1
  obtain ⟨_, _, d2⟩ := t.d2
  obtain ⟨_, _, d3⟩ := t.d3
  obtain ⟨_, _, d4⟩ := t.d4
  obtain ⟨_, _, d5⟩ := t.d5
  obtain ⟨_, _, d6⟩ := t.d6
  obtain ⟨_, _, e1⟩ := t.e1
  obtain ⟨_, _, e2⟩ := t.e2
  obtain ⟨_, _, e3⟩ := t.e3
  obtain ⟨_, _, e4⟩ := t.e4
  obtain ⟨_, _, e5⟩ := t.e5
  obtain ⟨_, _, e6⟩ := t.e6
  obtain ⟨_, _, e7⟩ := t.e7
  obtain ⟨_, _, e8⟩ := t.e8
  obtain ⟨_, _, e9⟩ := t.e9
  obtain ⟨_, _, g1⟩ := t.g1
  obtain ⟨_, _, g2⟩ := t.g2
  obtain ⟨_, _, g3⟩ := t.g3
  obtain ⟨_, _, g4⟩ := t.g4
  have I := t.I
  have b0 := init_b0 I
  have okI : FnOk P w K mg base CX0 1 fI fdI ["self", "top", "bottom"] (spM [] K CR 2 pInitR) := ok_initR I.z t.Rr.ik.cl t.Rr.nt t.Rr.nb t.gcd
  have MR : MD [] P w K mg base "Ratio" CR 2 1 pInitR := ⟨fI, fdI, _, t.Rr.mgR, I.mk', rfl, okI, b0⟩
  have HI : FD [] P w K mg base "is_int" 1 1 (pIsInt CR) := fd_mk d1 rfl (fun fd F => F.binds fun _ _ _ _ _ _ us hl => match us, hl with | [_], _ => rfl) fun fd F => ok_isInt F t.Rr
  have HN : FD [] P w K mg base "is_number" 1 2 (pIsNum CR) := fd_mk d4 rfl (fun fd F => F.binds fun _ _ _ _ _ _ us hl => match us, hl with | [_], _ => rfl) fun fd F => ok_isNum F t.Rr HI
  have HL : FD [] P w K mg base "is_list" 1 1 pIsList := fd_mk d2 rfl (fun fd F => F.binds fun _ _ _ _ _ _ us hl => match us, hl with | [_], _ => rfl) fun fd F => ok_isList F B Q
  have HM : FD [] P w K mg base "is_name" 1 1 pIsName := fd_mk d3 rfl (fun fd F => F.binds fun _ _ _ _ _ _ us hl => match us, hl with | [_], _ => rfl) fun fd F => ok_isName F B Q
  have HK : FD [] P w K mg base "_is_kind_with_fields" 1 2 pKwf := fd_mk d5 rfl (fun fd F => F.binds fun _ _ _ _ _ _ us hl => match us, hl with | [_], _ => rfl) fun fd F => ok_kwf F B ⟨HL, HM⟩
  have HS : FD [] P w K mg base "_small_numbers" 1 1 pSmall := fd_mk d6 rfl (fun fd F => F.binds fun _ _ _ _ _ _ us hl => match us, hl with | [_], _ => rfl) fun fd F => ok_small F B
  have V : RE' [] P w K mg base C := ⟨B, HK, R.ik.cl, R.nt⟩
  obtain ⟨fd0, F0, Z0⟩ := m0.fn
  have bI : Binds K fd0 ["self", "kinds"] [] := F0.binds fun _ _ _ _ _ _ us hl => match us, hl with | [_, _], _ => rfl
  have G : MD [] P w K mg base "Rows" C 1 3 pInit := ⟨_, fd0, _, t.mgR, ⟨t.mk1, m0.me.at_, m0.me.fn, t.kC⟩, rfl, ok_init Z0 V, bI⟩
  have o4 := own_mk (P := P) (w := w) (mg := mg) (T := []) (base := base) m4 rfl (fun fd F => F.binds fun _ _ _ _ _ _ us hl => match us, hl with | [_, _], _ => rfl) fun fd F => ok_isKind F R
  have o1 := own_mk (P := P) (w := w) (mg := mg) (T := []) (base := base) m1 rfl (fun fd F => F.binds fun _ _ _ _ _ _ us hl => match us, hl with | [_, _], _ => rfl) fun fd F => ok_isRow F R o4 HL HN
  have o2 := own_mk (P := P) (w := w) (mg := mg) (T := []) (base := base) m2 rfl (fun fd F => F.binds fun _ _ _ _ _ _ us hl => match us, hl with | [_, _], _ => rfl) fun fd F => ok_grid F R HS
  have o2' : ∃ f, OwnN1 [] P w K mg base C "grid" 2 2 (pGridL C) f := by
    obtain ⟨fd, F, _⟩ := m2.fn
    exact ⟨_, m2.me.at_, m2.me.fn, m2.me.kp, fd, ["self", "powers"], F.binds fun _ _ _ _ _ _ us hl => match us, hl with | [_, _], _ => rfl, rfl, ok_gridN F R HS⟩
  have o3 : ∃ f, OwnNL [] P w K mg base C "lists" 3 3 (pLists C) f := by
    obtain ⟨fd, F, _⟩ := m3.fn
    exact ⟨_, m3.me.at_, m3.me.fn, m3.me.kp, fd, ["self", "powers", "many"], F.binds fun _ _ _ _ _ _ us hl => match us, hl with | [_, _, _], _ => rfl, rfl, ok_lists F R o2⟩
  have o3' : ∃ f, OwnM [] P w K mg base C "lists" 3 3 (pListsD C) f := by
    obtain ⟨fd, F, _⟩ := m3.fn
    exact ⟨_, m3.me.at_, m3.me.fn, m3.me.kp, fd, ["self", "powers", "many"], F.binds fun _ _ _ _ _ _ us hl => match us, hl with | [_, _, _], _ => rfl, rfl, FnOk.imp (ok_lists F R o2) fun vs H Q E h => lists_data h⟩
  have HC : FD [] P w K mg base "_law_cell" 2 1 pCell := fd_mk e1 rfl (fun fd F => F.binds fun _ _ _ _ _ _ us hl => match us, hl with | [_, _], _ => rfl) fun fd F => ok_cell F B.len
  have HR : FD [] P w K mg base "_law_row" 2 1 pRow := fd_mk e2 rfl (fun fd F => F.binds fun _ _ _ _ _ _ us hl => match us, hl with | [_, _], _ => rfl) fun fd F => ok_row F B.int B.range B.len
  have HW : FD [] P w K mg base "_law_word" 1 1 pWord := fd_mk e3 rfl (fun fd F => F.binds fun _ _ _ _ _ _ us hl => match us, hl with | [_], _ => rfl) fun fd F => ok_word F B
  have HX : FD [] P w K mg base "_law_words" 1 2 pWords := fd_mk e4 rfl (fun fd F => F.binds fun _ _ _ _ _ _ us hl => match us, hl with | [_], _ => rfl) fun fd F => ok_words F HW
  have H5 : FD [] P w K mg base "_law_shape" 1 3 pShape := fd_mk e5 rfl (fun fd F => F.binds fun _ _ _ _ _ _ us hl => match us, hl with | [_], _ => rfl) fun fd F => ok_shape F HR HX
  have H6 : FD [] P w K mg base "_law_wide" 1 3 pWide := fd_mk e6 rfl (fun fd F => F.binds fun _ _ _ _ _ _ us hl => match us, hl with | [_], _ => rfl) fun fd F => ok_wide F HR HX
  have H7 : FD [] P w K mg base "_law_longer" 2 1 pLonger := fd_mk e7 rfl (fun fd F => F.binds fun _ _ _ _ _ _ us hl => match us, hl with | [_, _], _ => rfl) fun fd F => ok_longer F
  have H8 : FD [] P w K mg base "_law_grid_of" 2 2 pGridOf := fd_mk e8 rfl (fun fd F => F.binds fun _ _ _ _ _ _ us hl => match us, hl with | [_, _], _ => rfl) fun fd F => ok_gridOf F B H7
  have H9 : FD [] P w K mg base "_law_lists_of" 2 2 pListsOf := fd_mk e9 rfl (fun fd F => F.binds fun _ _ _ _ _ _ us hl => match us, hl with | [_, _], _ => rfl) fun fd F => ok_listsOf F B H7
  have G1 : FD [] P w K mg base "_law_some_row" 3 3 (pSomeRow CR) := fd_mk g1 rfl (fun fd F => F.binds fun _ _ _ _ _ _ us hl => match us, hl with | [_, _, _], _ => rfl) fun fd F => ok_someRow F B MR
  have G2 : FD [] P w K mg base "_law_bent" 2 1 pBent := fd_mk g2 rfl (fun fd F => F.binds fun _ _ _ _ _ _ us hl => match us, hl with | [_, _], _ => rfl) fun fd F => ok_bent F B
  have G3 : FD [] P w K mg base "_law_some_powers" 2 1 pPowers := fd_mk g3 rfl (fun fd F => F.binds fun _ _ _ _ _ _ us hl => match us, hl with | [_, _], _ => rfl) fun fd F => ok_powers F B
  have G4 : FD [] P w K mg base "_law_lists_right" 3 4 (pRight C) := fd_mk g4 rfl (fun fd F => F.binds fun _ _ _ _ _ _ us hl => match us, hl with | [_, _, _], _ => rfl) fun fd F => ok_right F ⟨R, t.bD, t.kT, t.kL, H8, H9, o2', ⟨_, o2⟩, o3, o3'⟩
  exact ⟨R, t.Rr.bBool, t.kB, G, ⟨_, o1⟩, HC, HR, H5, H6, G1, G2, G3, G4⟩
theorem fin {fa : Addr} (t : Tp P K mg C CR fI fdI cI) (hfa : mg "law" = some (.ref fa)) :
    ∃ fd : FuncData, (∀ (s : Shared) (u : Value), BindsTo s fd ⟨[u], []⟩ [("_law_script", u)]) ∧ ∀ base : Heap, K.In base → base.Ns mainGlobals mg → FnOk P w K mg base CX0 5 fa fd ["_law_script"] (spD [] K 1 pLaw) := by
  obtain ⟨f, c, g5⟩ := t.g5
  have e := hfa.symm.trans g5.at_
  cases e
  obtain ⟨fd, F, Z⟩ := g5.fn
  refine ⟨fd, fun s u => ?_, fun base _ _ => ok_law F (all_le t)⟩
  obtain ⟨oc, od, kV, doc, pm, an, cdv, ct, osl, rfl, _, _⟩ := F.ex
  exact .of_eq rfl
end
end K05

set_option Elab.async false
set_option linter.all false
set_option maxRecDepth 100000
open PySem PySem.W PyProof.Rows
set_option maxRecDepth 100000 in
set_option maxHeartbeats 0 in
theorem PySem.Challenge.cw_everylist_k05_rows_and_lists_holds : PySem.Challenge.rw_everylist_k05_rows_and_lists.Holds := by
  w_on; o_law; k_head; (case hw => w_witness2)
  k_fill
  refine Fd.walk (l := PySem.Challenge.rw_everylist_k05_rows_and_lists) (x := "_law_script") 5 ⟨rfl, by decide, by decide⟩ rfl rfl (fun w h Y => PySem.W.kIn_of Y) ?F
  case F =>
    intro w mg fa h KX G hmg
    refine' K05.fin (K05.Tp.mk (PySem.W.mg_of KX G ?mgR) ⟨⟨⟨?pg, ?hd, ?po, ?sa⟩, ?ca, ?gd, ?tk, ?ob0⟩, ?nt, ?B, K05.kit_mk ?q1 ?q2 ?q3 ?q4 ?q5 ?q6 ?q7 ?q8 ?q9 ?q10 ?q11 ?q12 ?q13 ?q14⟩ ⟨PySem.W.mg_of KX G ?rR, ⟨⟨?rpg, ?rhd, ?rpo, ?rsa⟩, ?rca, ?rgd, ?rtk, ?rob⟩, ?rnt, ?rnb, ?rkI, ?rkB, K05.tys_all ?kO1 ?kO2 ?kO3 ?kO4 ?kO5 ?kO6 ?kO7, ?rkR, PySem.W.mg_none_of KX G ?bIs, PySem.W.mg_none_of KX G ?bInt, PySem.W.mg_none_of KX G ?bBool⟩ ?gcd ?I (PySem.W.mg_none_of KX G ?bDict) ?kT ?kL ?kB ?mk1 ?kC ?m0 ?m1 ?m2 ?m3 ?m4 ?d1 ?d2 ?d3 ?d4 ?d5 ?d6 ?e1 ?e2 ?e3 ?e4 ?e5 ?e6 ?e7 ?e8 ?e9 ?g1 ?g2 ?g3 ?g4 ?g5) hmg
    (case mgR => k_is)
    (case pg => k_is)
    (case hd => k_is)
    (case po => k_is)
    (case sa => k_is)
    (case ca => k_is)
    (case gd => k_is)
    (case tk => k_is)
    (case ob0 => k_is)
    (case nt => unfold L2.NoAttr; k_is)
    (case B => refine' ⟨PySem.W.mg_none_of KX G ?z_is, PySem.W.mg_none_of KX G ?z_list, PySem.W.mg_none_of KX G ?z_tuple, PySem.W.mg_none_of KX G ?z_str, PySem.W.mg_none_of KX G ?z_len, PySem.W.mg_none_of KX G ?z_set, PySem.W.mg_none_of KX G ?z_all, PySem.W.mg_none_of KX G ?z_enum, PySem.W.mg_none_of KX G ?z_int, PySem.W.mg_none_of KX G ?z_range, ?zlet, ?zlong⟩; (case z_is => k_is); (case z_list => k_is); (case z_tuple => k_is); (case z_str => k_is); (case z_len => k_is); (case z_set => k_is); (case z_all => k_is); (case z_enum => k_is); (case z_int => k_is); (case z_range => k_is); (case zlet => refine' ⟨_, _, PySem.W.mg_of KX G ?letE, ?letF⟩; (case letE => k_is); (case letF => first | exact rfl | (unfold K05.LET; exact rfl))); (case zlong => refine' ⟨_, _, PySem.W.mg_of KX G ?loE, ?loF⟩; (case loE => k_is); (case loF => exact rfl)))
    (case q1 => kernel_rfl)
    (case q2 => kernel_rfl)
    (case q3 => kernel_rfl)
    (case q4 => kernel_rfl)
    (case q5 => kernel_rfl)
    (case q6 => kernel_rfl)
    (case q7 => kernel_rfl)
    (case q8 => kernel_rfl)
    (case q9 => kernel_rfl)
    (case q10 => kernel_rfl)
    (case q11 => kernel_rfl)
    (case q12 => kernel_rfl)
    (case q13 => kernel_rfl)
    (case q14 => kernel_rfl)
    (case rR => k_is)
    (case rpg => k_is)
    (case rhd => k_is)
    (case rpo => k_is)
    (case rsa => k_is)
    (case rca => k_is)
    (case rgd => k_is)
    (case rtk => k_is)
    (case rob => k_is)
    (case rnt => unfold L2.NoAttr; k_is)
    (case rnb => unfold L2.NoAttr; k_is)
    (case rkI => kernel_rfl)
    (case rkB => kernel_rfl)
    (case kO1 => kernel_rfl)
    (case kO2 => kernel_rfl)
    (case kO3 => kernel_rfl)
    (case kO4 => kernel_rfl)
    (case kO5 => kernel_rfl)
    (case kO6 => kernel_rfl)
    (case kO7 => kernel_rfl)
    (case rkR => kernel_rfl)
    (case bIs => k_is)
    (case bInt => k_is)
    (case bBool => k_is)
    (case gcd => refine' PySem.W.mg_of KX G ?_; k_is)
    (case I => refine' Fd.iz_mk ?i1 ?i2 ?i3 ?i4 ?i5 ?i6 ?i7 ?i8 ?i9; (case i1 => k_is); (case i2 => k_is); (case i3 => k_is); (case i4 => k_is); (case i5 => k_is); (case i6 => k_is); (case i7 => k_is); (case i8 => k_is); (case i9 => exact ⟨_, rfl⟩))
    (case bDict => k_is)
    (case kT => kernel_rfl)
    (case kL => kernel_rfl)
    (case kB => kernel_rfl)
    (case mk1 => k_is)
    (case kC => k_is)
    (case m0 => refine' ⟨_, _, Fd.mz_mk ?a_m0 ?b_m0 ?l_m0 ?c_m0 ?k_m0⟩; (case a_m0 => k_is); (case b_m0 => k_is); (case l_m0 => k_is); (case c_m0 => k_is); (case k_m0 => k_is))
    (case m1 => refine' ⟨_, _, Fd.mz_mk ?a_m1 ?b_m1 ?l_m1 ?c_m1 ?k_m1⟩; (case a_m1 => k_is); (case b_m1 => k_is); (case l_m1 => k_is); (case c_m1 => k_is); (case k_m1 => k_is))
    (case m2 => refine' ⟨_, _, Fd.mz_mk ?a_m2 ?b_m2 ?l_m2 ?c_m2 ?k_m2⟩; (case a_m2 => k_is); (case b_m2 => k_is); (case l_m2 => k_is); (case c_m2 => k_is); (case k_m2 => k_is))
    (case m3 => refine' ⟨_, _, Fd.mz_mk ?a_m3 ?b_m3 ?l_m3 ?c_m3 ?k_m3⟩; (case a_m3 => k_is); (case b_m3 => k_is); (case l_m3 => k_is); (case c_m3 => k_is); (case k_m3 => k_is))
    (case m4 => refine' ⟨_, _, Fd.mz_mk ?a_m4 ?b_m4 ?l_m4 ?c_m4 ?k_m4⟩; (case a_m4 => k_is); (case b_m4 => k_is); (case l_m4 => k_is); (case c_m4 => k_is); (case k_m4 => k_is))
    (case d1 => refine' ⟨_, _, Fd.dz_mk KX G ?a_d1 ?l_d1 ?c_d1 ?k_d1⟩; (case a_d1 => k_is); (case l_d1 => k_is); (case c_d1 => k_is); (case k_d1 => k_is))
    (case d2 => refine' ⟨_, _, Fd.dz_mk KX G ?a_d2 ?l_d2 ?c_d2 ?k_d2⟩; (case a_d2 => k_is); (case l_d2 => k_is); (case c_d2 => k_is); (case k_d2 => k_is))
    (case d3 => refine' ⟨_, _, Fd.dz_mk KX G ?a_d3 ?l_d3 ?c_d3 ?k_d3⟩; (case a_d3 => k_is); (case l_d3 => k_is); (case c_d3 => k_is); (case k_d3 => k_is))
    (case d4 => refine' ⟨_, _, Fd.dz_mk KX G ?a_d4 ?l_d4 ?c_d4 ?k_d4⟩; (case a_d4 => k_is); (case l_d4 => k_is); (case c_d4 => k_is); (case k_d4 => k_is))
    (case d5 => refine' ⟨_, _, Fd.dz_mk KX G ?a_d5 ?l_d5 ?c_d5 ?k_d5⟩; (case a_d5 => k_is); (case l_d5 => k_is); (case c_d5 => k_is); (case k_d5 => k_is))
    (case d6 => refine' ⟨_, _, Fd.dz_mk KX G ?a_d6 ?l_d6 ?c_d6 ?k_d6⟩; (case a_d6 => k_is); (case l_d6 => k_is); (case c_d6 => k_is); (case k_d6 => k_is))
    (case e1 => refine' ⟨_, _, Fd.dz_mk KX G ?a_e1 ?l_e1 ?c_e1 ?k_e1⟩; (case a_e1 => k_is); (case l_e1 => k_is); (case c_e1 => k_is); (case k_e1 => k_is))
    (case e2 => refine' ⟨_, _, Fd.dz_mk KX G ?a_e2 ?l_e2 ?c_e2 ?k_e2⟩; (case a_e2 => k_is); (case l_e2 => k_is); (case c_e2 => k_is); (case k_e2 => k_is))
    (case e3 => refine' ⟨_, _, Fd.dz_mk KX G ?a_e3 ?l_e3 ?c_e3 ?k_e3⟩; (case a_e3 => k_is); (case l_e3 => k_is); (case c_e3 => k_is); (case k_e3 => k_is))
    (case e4 => refine' ⟨_, _, Fd.dz_mk KX G ?a_e4 ?l_e4 ?c_e4 ?k_e4⟩; (case a_e4 => k_is); (case l_e4 => k_is); (case c_e4 => k_is); (case k_e4 => k_is))
    (case e5 => refine' ⟨_, _, Fd.dz_mk KX G ?a_e5 ?l_e5 ?c_e5 ?k_e5⟩; (case a_e5 => k_is); (case l_e5 => k_is); (case c_e5 => k_is); (case k_e5 => k_is))
    (case e6 => refine' ⟨_, _, Fd.dz_mk KX G ?a_e6 ?l_e6 ?c_e6 ?k_e6⟩; (case a_e6 => k_is); (case l_e6 => k_is); (case c_e6 => k_is); (case k_e6 => k_is))
    (case e7 => refine' ⟨_, _, Fd.dz_mk KX G ?a_e7 ?l_e7 ?c_e7 ?k_e7⟩; (case a_e7 => k_is); (case l_e7 => k_is); (case c_e7 => k_is); (case k_e7 => k_is))
    (case e8 => refine' ⟨_, _, Fd.dz_mk KX G ?a_e8 ?l_e8 ?c_e8 ?k_e8⟩; (case a_e8 => k_is); (case l_e8 => k_is); (case c_e8 => k_is); (case k_e8 => k_is))
    (case e9 => refine' ⟨_, _, Fd.dz_mk KX G ?a_e9 ?l_e9 ?c_e9 ?k_e9⟩; (case a_e9 => k_is); (case l_e9 => k_is); (case c_e9 => k_is); (case k_e9 => k_is))
    (case g1 => refine' ⟨_, _, Fd.dz_mk KX G ?a_g1 ?l_g1 ?c_g1 ?k_g1⟩; (case a_g1 => k_is); (case l_g1 => k_is); (case c_g1 => k_is); (case k_g1 => k_is))
    (case g2 => refine' ⟨_, _, Fd.dz_mk KX G ?a_g2 ?l_g2 ?c_g2 ?k_g2⟩; (case a_g2 => k_is); (case l_g2 => k_is); (case c_g2 => k_is); (case k_g2 => k_is))
    (case g3 => refine' ⟨_, _, Fd.dz_mk KX G ?a_g3 ?l_g3 ?c_g3 ?k_g3⟩; (case a_g3 => k_is); (case l_g3 => k_is); (case c_g3 => k_is); (case k_g3 => k_is))
    (case g4 => refine' ⟨_, _, Fd.dz_mk KX G ?a_g4 ?l_g4 ?c_g4 ?k_g4⟩; (case a_g4 => k_is); (case l_g4 => k_is); (case c_g4 => k_is); (case k_g4 => k_is))
    (case g5 => refine' ⟨_, _, Fd.dz_mk KX G ?a_g5 ?l_g5 ?c_g5 ?k_g5⟩; (case a_g5 => k_is); (case l_g5 => k_is); (case c_g5 => k_is); (case k_g5 => k_is))
