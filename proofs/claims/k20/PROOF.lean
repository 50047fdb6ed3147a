import PyProof.Rows.All
import Wide.All
import OpenK.AllK
import Wide.FinOn
import HandS.ForMost
import HandS.ForExc
import HandS.Walk
import HandS.IsInst
import HandS.Property
import HandS.StrMore
import HandS.Wide
import HandS.Conv
import HandS.ExcInit
import HandS.Flow
import HandS.Lambda
import HandS.CallSlots
import HandS.ExcOwn
import HandS.Comp
import HandS.Iter
import KE.KOpsOwn
import KE.KFmtOwn
import HandS.Zip0
import PyProof.StrLoop
import HandS.More
import HandS.Text
import OpenK.KOps
import HandS.ExcValue
import HandS.TupAny
import KE.KExcIs
import HandS.Codes
import HandS.NoneIn
import HandS.Star
import KE.KUnpackStar
import KE.DatumOrd
import KE.GoesMore
import KE.GoesEnum
import HandS.EndBits
import HandS.Gcd
import HandS.FStr
import HandS.SetFor
import HandS.Strs
import OpenK.KWalk
import HandS.EndTab
import KE.KDictZip
import HandS.GenList
import HandS.List
import KE.IntTextLaws
import HandS.OwnEq
import HandS.DeepEq
import HandS.DictComp
import HandS.Dict
import HandS.WordsDict
import HandS.ReplaceLit
import PyProof.ReprLen
import HandS.RaiseMore
import KE.KNest
import HandS.ReplaceList
import HandS.ExcIs
import HandS.Defaults
import PySem.Challenge.RW_looseknobs_k20_texts_of_no_circuit
set_option Elab.async false
set_option linter.all false
set_option maxRecDepth 100000
set_option maxHeartbeats 4000000
set_option autoImplicit false
namespace Dl
open PySem PySem.Spec PyProof.Rows L2
/-! ## data -/
inductive D where
  | non | bl (b : Bool) | int (i : Int) | str (x : Str) | ty (n : String) | adr (a : Addr)
  | tup (ds : List D) | lst (ds : List D) | dic (ks : List Key) (ds : List D)
  | ins (C : Addr) (ns : List Str) (ds : List D) | exc (C : Addr) (d : D) | sc (ns : List Int)
/-- an exception that was caught, at a -/
def ExO (C dx a : Addr) : HO := .ext fun h => ∃ oe vs, h.get? a = some oe ∧ Zc (.ref C) (some dx) oe ∧ oe.data = .fields vs
mutual
inductive Rep (K : PySem.W.Frag) (F : Hp) : V → D → Prop
  | non : Rep K F .non .non
  | bl (b) : Rep K F (.bl b) (.bl b)
  | int (i) : Rep K F (.int i) (.int i)
  | str (x) : Rep K F (.str x) (.str x)
  | ty (n) : Rep K F (.ty n) (.ty n)
  | adr (a) : Rep K F (.ref a) (.adr a)
  | tup {a vs ds} : SqT K F a vs → Reps K F vs ds → Rep K F (.ref a) (.tup ds)
  | lst {a vs ds} : F a = some (.lst vs) → Reps K F vs ds → Rep K F (.ref a) (.lst ds)
  | dic {a} {kvs : List (Key × V)} {ds} : F a = some (.dK kvs) → Reps K F (kvs.map (·.2)) ds → Rep K F (.ref a) (.dic (kvs.map (·.1)) ds)
  | ins {a C dx} {fs : List (Str × V)} {ds} : F a = some (.ins C dx fs) → Reps K F (fs.map (·.2)) ds → Rep K F (.ref a) (.ins C (fs.map (·.1)) ds)
  | exc {a C dx v d} : F a = some (ExO C dx a) → F dx = some (.xd [("value", v)]) → Rep K F v d → Rep K F (.ref a) (.exc C d)
  | sc {a ns} : SqL K F a (ns.map V.int) → Rep K F (.ref a) (.sc ns)
inductive Reps (K : PySem.W.Frag) (F : Hp) : List V → List D → Prop
  | nil : Reps K F [] []
  | cons {v d vs ds} : Rep K F v d → Reps K F vs ds → Reps K F (v :: vs) (d :: ds)
end
theorem same_sqT {K : PySem.W.Frag} {H H' : Hp} {a : Addr} {xs : List V} (e : Same H H') (h : SqT K H a xs) : SqT K H' a xs := by
  rcases h with (h | ⟨o, h⟩) | h
  · exact .inl (.inl (e _ _ h))
  · exact .inl (.inr ⟨o, e _ _ h⟩)
  · exact .inr h
theorem same_sqL {K : PySem.W.Frag} {H H' : Hp} {a : Addr} {xs : List V} (e : Same H H') (h : SqL K H a xs) : SqL K H' a xs := by
  rcases h with (h | ⟨o, h⟩) | h
  · exact .inl (.inl (e _ _ h))
  · exact .inl (.inr ⟨o, e _ _ h⟩)
  · exact .inr h
mutual
theorem Rep.mono {K : PySem.W.Frag} {F F' : Hp} (e : Same F F') : ∀ {v d}, Rep K F v d → Rep K F' v d
  | _, _, .non => .non
  | _, _, .bl b => .bl b
  | _, _, .int b => .int b
  | _, _, .str b => .str b
  | _, _, .ty b => .ty b
  | _, _, .adr b => .adr b
  | _, _, .tup h r => .tup (same_sqT e h) (Reps.mono e r)
  | _, _, .lst h r => .lst (e _ _ h) (Reps.mono e r)
  | _, _, .dic h r => .dic (e _ _ h) (Reps.mono e r)
  | _, _, .ins h r => .ins (e _ _ h) (Reps.mono e r)
  | _, _, .exc h k r => .exc (e _ _ h) (e _ _ k) (Rep.mono e r)
  | _, _, .sc h => .sc (same_sqL e h)
theorem Reps.mono {K : PySem.W.Frag} {F F' : Hp} (e : Same F F') : ∀ {v d}, Reps K F v d → Reps K F' v d
  | _, _, .nil => .nil
  | _, _, .cons a b => .cons (Rep.mono e a) (Reps.mono e b)
end
theorem Reps.length {K : PySem.W.Frag} {F : Hp} : ∀ {vs ds}, Reps K F vs ds → vs.length = ds.length
  | _, _, .nil => rfl
  | _, _, .cons _ t => congrArg (· + 1) (Reps.length t)
theorem Reps.get {K : PySem.W.Frag} {F : Hp} : ∀ {vs ds} {i : Nat} {d : D}, Reps K F vs ds → ds[i]? = some d → ∃ v, vs[i]? = some v ∧ Rep K F v d
  | _, _, _, _, .nil, e => by simp at e
  | _, _, 0, _, .cons r _, e => by simp at e; subst e; exact ⟨_, rfl, r⟩
  | _, _, i + 1, x, .cons _ t, e => by
    obtain ⟨u, h1, h2⟩ := Reps.get (i := i) (d := x) t (by simpa using e)
    exact ⟨u, by simpa using h1, h2⟩
theorem Reps.get' {K : PySem.W.Frag} {F : Hp} : ∀ {vs ds} {i : Nat} {v : V}, Reps K F vs ds → vs[i]? = some v → ∃ d, ds[i]? = some d ∧ Rep K F v d
  | _, _, _, _, .nil, e => by simp at e
  | _, _, 0, _, .cons r _, e => by simp at e; subst e; exact ⟨_, rfl, r⟩
  | _, _, i + 1, x, .cons _ t, e => by
    obtain ⟨u, h1, h2⟩ := Reps.get' (i := i) (v := x) t (by simpa using e)
    exact ⟨u, by simpa using h1, h2⟩
theorem Reps.append {K : PySem.W.Frag} {F : Hp} : ∀ {vs ds ws es}, Reps K F vs ds → Reps K F ws es → Reps K F (vs ++ ws) (ds ++ es)
  | _, _, _, _, .nil, s => s
  | _, _, _, _, .cons r t, s => .cons r (Reps.append t s)
theorem Reps.take {K : PySem.W.Frag} {F : Hp} : ∀ {vs ds} (n : Nat), Reps K F vs ds → Reps K F (vs.take n) (ds.take n)
  | _, _, 0, _ => .nil
  | _, _, _ + 1, .nil => .nil
  | _, _, n + 1, .cons r t => .cons r (Reps.take n t)
theorem Reps.drop {K : PySem.W.Frag} {F : Hp} : ∀ {vs ds} (n : Nat), Reps K F vs ds → Reps K F (vs.drop n) (ds.drop n)
  | _, _, 0, r => r
  | _, _, _ + 1, .nil => .nil
  | _, _, n + 1, .cons _ t => Reps.drop n t
theorem Reps.set {K : PySem.W.Frag} {F : Hp} {v : V} {d : D} (r : Rep K F v d) : ∀ {vs ds} (i : Nat), Reps K F vs ds → Reps K F (vs.set i v) (ds.set i d)
  | _, _, _, .nil => .nil
  | _, _, 0, .cons _ t => .cons r t
  | _, _, i + 1, .cons q t => .cons q (Reps.set r i t)
/-! ## slots, what changes -/
inductive S where
  | p (d : D) | l (j : Nat)
inductive M where
  | lst (ds : List D) | dic (ks : List Key) (ds : List D) | obj (C : Addr) (ns : List Str) (ds : List D) | gone | tab (P : Addr) (q : Str)
def RepS (K : PySem.W.Frag) (F : Hp) (A : List Addr) (v : V) : S → Prop
  | .p d => Rep K F v d
  | .l j => ∃ a, v = .ref a ∧ A[j]? = some a
theorem getElem?_pre {α : Type} {A A' : List α} (p : A <+: A') {j : Nat} {a : α} (h : A[j]? = some a) : A'[j]? = some a := by
  obtain ⟨B, rfl⟩ := p
  rw [List.getElem?_append_left (List.getElem?_eq_some_iff.mp h).1]
  exact h
theorem RepS.mono {K : PySem.W.Frag} {F F' : Hp} {A A' : List Addr} (e : Same F F') (p : A <+: A') {v : V} : ∀ {s}, RepS K F A v s → RepS K F' A' v s
  | .p _, h => Rep.mono e h
  | .l _, ⟨a, h1, h2⟩ => ⟨a, h1, getElem?_pre p h2⟩
inductive RepSs (K : PySem.W.Frag) (F : Hp) (A : List Addr) : List V → List S → Prop
  | nil : RepSs K F A [] []
  | cons {v s vs ss} : RepS K F A v s → RepSs K F A vs ss → RepSs K F A (v :: vs) (s :: ss)
theorem RepSs.mono {K : PySem.W.Frag} {F F' : Hp} {A A' : List Addr} (e : Same F F') (p : A <+: A') : ∀ {vs ss}, RepSs K F A vs ss → RepSs K F' A' vs ss
  | _, _, .nil => .nil
  | _, _, .cons a b => .cons (a.mono e p) (RepSs.mono e p b)
theorem RepSs.length {K : PySem.W.Frag} {F : Hp} {A : List Addr} : ∀ {vs ss}, RepSs K F A vs ss → vs.length = ss.length
  | _, _, .nil => rfl
  | _, _, .cons _ t => congrArg (· + 1) (RepSs.length t)
theorem RepSs.append {K : PySem.W.Frag} {F : Hp} {A : List Addr} : ∀ {vs ss vs' ss'}, RepSs K F A vs ss → RepSs K F A vs' ss' → RepSs K F A (vs ++ vs') (ss ++ ss')
  | _, _, _, _, .nil, s => s
  | _, _, _, _, .cons r t, s => .cons r (RepSs.append t s)
def MOk (K : PySem.W.Frag) (F : Hp) (A : List Addr) (H : Hp) (a : Addr) : M → Prop
  | .lst ds => ∃ vs, H a = some (.lst vs) ∧ Reps K F vs ds
  | .dic ks ds => ∃ kvs, H a = some (.dK kvs) ∧ kvs.map (·.1) = ks ∧ Reps K F (kvs.map (·.2)) ds
  | .obj C ns ds => ∃ dx fs, H a = some (.ins C dx fs) ∧ fs.map (·.1) = ns ∧ Reps K F (fs.map (·.2)) ds
  | .gone => ∃ o, H a = some o
  | .tab P q => a = P ∧ ∃ ps : Array Value, H a = some (.tbl ps) ∧ TriplesOk ps.toList ∧ ∀ (pos : Pos) (cv : Value), codeAmong pos ps.toList = some cv → ∃ c, cv = .ref c ∧ F c = some (LamX.CodeO c q)
theorem MOk.there {K : PySem.W.Frag} {F : Hp} {A : List Addr} {H : Hp} {a : Addr} : ∀ {m}, MOk K F A H a m → ∃ o, H a = some o
  | .lst _, ⟨_, h, _⟩ => ⟨_, h⟩
  | .dic _ _, ⟨_, h, _⟩ => ⟨_, h⟩
  | .obj _ _ _, ⟨_, _, h, _⟩ => ⟨_, h⟩
  | .gone, h => h
  | .tab _ _, ⟨_, ps, h, _⟩ => ⟨_, h⟩
theorem MOk.mono {K : PySem.W.Frag} {F F' : Hp} {A A' : List Addr} {H H' : Hp} {a : Addr} (e : Same F F') (p : A <+: A') (k : H' a = H a) : ∀ {m}, MOk K F A H a m → MOk K F' A' H' a m
  | .lst _, ⟨vs, h, r⟩ => ⟨vs, by rw [k]; exact h, r.mono e⟩
  | .dic _ _, ⟨kvs, h, q, r⟩ => ⟨kvs, by rw [k]; exact h, q, r.mono e⟩
  | .obj _ _ _, ⟨dx, fs, h, q, r⟩ => ⟨dx, fs, by rw [k]; exact h, q, r.mono e⟩
  | .gone, ⟨o, h⟩ => ⟨o, by rw [k]; exact h⟩
  | .tab _ _, ⟨e1, ps, h, t, g⟩ => ⟨e1, ps, by rw [k]; exact h, t, fun pos cv q => by
      obtain ⟨c, q1, q2⟩ := g pos cv q
      exact ⟨c, q1, e _ _ q2⟩⟩
/-- where a def began -/
structure En where
  K : PySem.W.Frag
  H0 : Hp
  F0 : Hp
  A0 : List Addr
def notGone : M → Prop
  | .gone => False
  | _ => True
structure Rc (N : En) (F : Hp) (A : List Addr) (H : Hp) (μ : List M) : Prop where
  sub : Same F H
  base : Same N.F0 F
  new : ∀ a o, F a = some o → (∃ o', N.F0 a = some o') ∨ N.H0 a = none
  keep : ∀ a o, N.H0 a = some o → a ∉ N.A0 → H a = some o
  pre : ∃ B, A = N.A0 ++ B ∧ ∀ b ∈ B, N.H0 b = none
  nd : A.Nodup
  len : A.length = μ.length
  mus : ∀ (j : Nat) (a : Addr) (m : M), A[j]? = some a → μ[j]? = some m → MOk N.K F A H a m
  fr : ∀ (j : Nat) (a : Addr) (m : M), A[j]? = some a → μ[j]? = some m → notGone m → F a = none
structure Rl (N : En) (F : Hp) (A : List Addr) (H : Hp) (σ : L2.St) (δ : List (Option S)) (μ : List M) : Prop where
  rc : Rc N F A H μ
  len : δ.length = σ.length
  sl : ∀ (i : Nat) (s : S), δ[i]? = some (some s) → ∃ v, σ[i]? = some (some v) ∧ RepS N.K F A v s
theorem Rc.at {N : En} {F : Hp} {A : List Addr} {H : Hp} {μ : List M} (r : Rc N F A H μ) {j : Nat} {a : Addr} (h : A[j]? = some a) : ∃ m, μ[j]? = some m ∧ MOk N.K F A H a m := by
  have hj := (List.getElem?_eq_some_iff.mp h).1
  rw [r.len] at hj
  exact ⟨μ[j], List.getElem?_eq_getElem hj, r.mus j a _ h (List.getElem?_eq_getElem hj)⟩
theorem Rc.at' {N : En} {F : Hp} {A : List Addr} {H : Hp} {μ : List M} (r : Rc N F A H μ) {j : Nat} {m : M} (h : μ[j]? = some m) : ∃ a, A[j]? = some a ∧ MOk N.K F A H a m := by
  have hj := (List.getElem?_eq_some_iff.mp h).1
  rw [← r.len] at hj
  exact ⟨A[j], List.getElem?_eq_getElem hj, r.mus j _ _ (List.getElem?_eq_getElem hj) h⟩
theorem Rc.there {N : En} {F : Hp} {A : List Addr} {H : Hp} {μ : List M} (r : Rc N F A H μ) {a : Addr} (h : a ∈ A) : ∃ o, H a = some o := by
  obtain ⟨j, hj⟩ := List.getElem?_of_mem h
  obtain ⟨m, _, k⟩ := r.at hj
  exact k.there
theorem Rc.fresh {N : En} {F : Hp} {A : List Addr} {H : Hp} {μ : List M} (r : Rc N F A H μ) {p : Addr} (h : H p = none) : N.H0 p = none ∧ F p = none ∧ p ∉ A := by
  have hA : p ∉ A := fun hm => by
    obtain ⟨o, e⟩ := r.there hm
    rw [h] at e; cases e
  refine ⟨?_, r.sub.free h, hA⟩
  cases e : N.H0 p with
  | none => rfl
  | some o =>
    obtain ⟨B, rfl, _⟩ := r.pre
    rw [r.keep p o e fun hm => hA (List.mem_append_left _ hm)] at h
    cases h
theorem ne_mem {A : List Addr} {p a : Addr} {j : Nat} (h : p ∉ A) (h1 : A[j]? = some a) : a ≠ p := fun z => h (by rw [← z]; exact List.mem_of_getElem? h1)
theorem nodup_at {α : Type} {A : List α} (nd : A.Nodup) {i j : Nat} {a : α} (h1 : A[i]? = some a) (h2 : A[j]? = some a) : i = j := by
  obtain ⟨l1, e1⟩ := List.getElem?_eq_some_iff.mp h1
  obtain ⟨l2, e2⟩ := List.getElem?_eq_some_iff.mp h2
  exact (List.getElem_inj nd).mp (e1.trans e2.symm)
theorem ne_at {A : List Addr} (nd : A.Nodup) {i j : Nat} {a b : Addr} (hi : i ≠ j) (h1 : A[i]? = some b) (h2 : A[j]? = some a) : b ≠ a := fun z => hi (nodup_at nd h1 (by rw [z]; exact h2))
theorem same_updN {H : Hp} {p : Addr} {o : HO} (h : H p = none) : Same H (upd H p o) := fun b x e => by
  rw [upd_ne (ne_of_none e h)]
  exact e
/-- a new frozen object -/
theorem Rc.frozen {N : En} {F : Hp} {A : List Addr} {H : Hp} {μ : List M} (r : Rc N F A H μ) {p : Addr} (h : H p = none) (o : HO) : Rc N (upd F p o) A (upd H p o) μ where
  sub := fun b x e => by
    by_cases hb : b = p
    · subst hb; rw [upd_same] at e ⊢; exact e
    · rw [upd_ne hb] at e ⊢; exact r.sub b x e
  base := r.base.trans (same_updN (r.fresh h).2.1)
  new := fun a x e => by
    by_cases hb : a = p
    · subst hb; exact .inr (r.fresh h).1
    · rw [upd_ne hb] at e; exact r.new a x e
  keep := fun a x e hA => by
    rw [upd_ne (ne_of_none e (r.fresh h).1)]
    exact r.keep a x e hA
  pre := r.pre
  nd := r.nd
  len := r.len
  mus := fun j a m h1 h2 => (r.mus j a m h1 h2).mono (same_updN (r.fresh h).2.1) (List.prefix_refl _) (upd_ne (ne_mem (r.fresh h).2.2 h1))
  fr := fun j a m h1 h2 h3 => by
    rw [upd_ne (ne_mem (r.fresh h).2.2 h1)]
    exact r.fr j a m h1 h2 h3
/-- a new object of no further interest -/
theorem Rc.junk {N : En} {F : Hp} {A : List Addr} {H : Hp} {μ : List M} (r : Rc N F A H μ) {p : Addr} (h : H p = none) (o : HO) : Rc N F A (upd H p o) μ where
  sub := r.sub.trans (same_updN h)
  base := r.base
  new := r.new
  keep := fun a x e hA => by
    rw [upd_ne (ne_of_none e (r.fresh h).1)]
    exact r.keep a x e hA
  pre := r.pre
  nd := r.nd
  len := r.len
  mus := fun j a m h1 h2 => (r.mus j a m h1 h2).mono (Same.refl _) (List.prefix_refl _) (upd_ne (ne_mem (r.fresh h).2.2 h1))
  fr := r.fr
/-- a new object that changes -/
theorem Rc.newM {N : En} {F : Hp} {A : List Addr} {H : Hp} {μ : List M} (r : Rc N F A H μ) {p : Addr} (h : H p = none) {o : HO} {m : M} (ok : MOk N.K F (A ++ [p]) (upd H p o) p m) : Rc N F (A ++ [p]) (upd H p o) (μ ++ [m]) where
  sub := r.sub.trans (same_updN h)
  base := r.base
  new := r.new
  keep := fun a x e hA => by
    rw [upd_ne (ne_of_none e (r.fresh h).1)]
    exact r.keep a x e hA
  pre := by
    obtain ⟨B, rfl, hB⟩ := r.pre
    refine ⟨B ++ [p], List.append_assoc .., fun b hb => ?_⟩
    rcases List.mem_append.mp hb with hb | hb
    · exact hB b hb
    · rw [List.mem_singleton] at hb; subst hb; exact (r.fresh h).1
  nd := List.nodup_append.mpr ⟨r.nd, by simp, fun a ha b hb => by
    rw [List.mem_singleton] at hb; subst hb
    intro z; subst z; exact (r.fresh h).2.2 ha⟩
  len := by simp [r.len]
  mus := fun j a m' h1 h2 => by
    by_cases hj : j < A.length
    · rw [List.getElem?_append_left hj] at h1
      rw [List.getElem?_append_left (by rw [← r.len]; exact hj)] at h2
      exact (r.mus j a m' h1 h2).mono (Same.refl _) (List.prefix_append _ _) (upd_ne (ne_mem (r.fresh h).2.2 h1))
    · rw [List.getElem?_append_right (by omega)] at h1
      rw [List.getElem?_append_right (by rw [← r.len]; omega), ← r.len] at h2
      have e : j - A.length = 0 := by
        have := (List.getElem?_eq_some_iff.mp h1).1
        simp at this; omega
      rw [e] at h1 h2
      simp at h1 h2
      subst h1 h2
      exact ok
  fr := fun j a m' h1 h2 h3 => by
    by_cases hj : j < A.length
    · rw [List.getElem?_append_left hj] at h1
      rw [List.getElem?_append_left (by rw [← r.len]; exact hj)] at h2
      exact r.fr j a m' h1 h2 h3
    · rw [List.getElem?_append_right (by omega)] at h1
      have e : j - A.length = 0 := by
        have := (List.getElem?_eq_some_iff.mp h1).1
        simp at this; omega
      rw [e] at h1
      simp at h1
      subst h1
      exact (r.fresh h).2.1
/-- a changing object is changed -/
theorem Rc.write {N : En} {F : Hp} {A : List Addr} {H : Hp} {μ : List M} (r : Rc N F A H μ) {j : Nat} {a : Addr} {m m' : M} (ha : A[j]? = some a) (hm : μ[j]? = some m) (ng : notGone m) {o : HO} (ok : MOk N.K F A (upd H a o) a m') : Rc N F A (upd H a o) (μ.set j m') where
  sub := fun b x e => by
    have hb : b ≠ a := fun z => by rw [z, r.fr j a m ha hm ng] at e; cases e
    rw [upd_ne hb]; exact r.sub b x e
  base := r.base
  new := r.new
  keep := fun b x e hA => by
    by_cases hb : b = a
    · subst hb
      obtain ⟨B, rfl, hB⟩ := r.pre
      rcases List.mem_append.mp (List.mem_of_getElem? ha) with h | h
      · exact absurd h hA
      · rw [hB _ h] at e; cases e
    · rw [upd_ne hb]; exact r.keep b x e hA
  pre := r.pre
  nd := r.nd
  len := by simp [r.len]
  mus := fun i b n h1 h2 => by
    by_cases hi : i = j
    · subst hi
      rw [ha] at h1; cases h1
      rw [List.getElem?_set_self (List.getElem?_eq_some_iff.mp hm).1] at h2
      cases h2
      exact ok
    · rw [List.getElem?_set_ne (Ne.symm hi)] at h2
      exact (r.mus i b n h1 h2).mono (Same.refl _) (List.prefix_refl _) (upd_ne (ne_at r.nd hi h1 ha))
  fr := fun i b n h1 h2 h3 => by
    by_cases hi : i = j
    · subst hi
      rw [ha] at h1; cases h1
      exact r.fr i _ m ha hm ng
    · rw [List.getElem?_set_ne (Ne.symm hi)] at h2
      exact r.fr i b n h1 h2 h3
/-- an own list is frozen -/
theorem Rc.freeze {N : En} {F : Hp} {A : List Addr} {H : Hp} {μ : List M} (r : Rc N F A H μ) {j : Nat} {a : Addr} {m : M} (ha : A[j]? = some a) (hm : μ[j]? = some m) (ng : notGone m) (hj : N.A0.length ≤ j) {o : HO} (ho : H a = some o) :
    Rc N (upd F a o) A H (μ.set j .gone) ∧ Same F (upd F a o) := by
  have hF := r.fr j a m ha hm ng
  have sm : Same F (upd F a o) := same_updN hF
  refine ⟨⟨fun b x e => ?_, r.base.trans sm, fun b x e => ?_, r.keep, r.pre, r.nd, by simp [r.len], fun i b n h1 h2 => ?_, fun i b n h1 h2 h3 => ?_⟩, sm⟩
  · by_cases hb : b = a
    · subst hb; rw [upd_same] at e; cases e; exact ho
    · rw [upd_ne hb] at e; exact r.sub b x e
  · by_cases hb : b = a
    · subst hb
      obtain ⟨B, rfl, hB⟩ := r.pre
      rw [List.getElem?_append_right hj] at ha
      exact .inr (hB _ (List.mem_of_getElem? ha))
    · rw [upd_ne hb] at e; exact r.new b x e
  · by_cases hi : i = j
    · subst hi
      rw [ha] at h1; cases h1
      rw [List.getElem?_set_self (List.getElem?_eq_some_iff.mp hm).1] at h2
      cases h2
      exact ⟨o, ho⟩
    · rw [List.getElem?_set_ne (Ne.symm hi)] at h2
      exact (r.mus i b n h1 h2).mono sm (List.prefix_refl _) rfl
  · by_cases hi : i = j
    · subst hi
      rw [List.getElem?_set_self (List.getElem?_eq_some_iff.mp hm).1] at h2
      cases h2
      exact h3.elim
    · rw [List.getElem?_set_ne (Ne.symm hi)] at h2
      rw [upd_ne (ne_at r.nd hi h1 ha)]
      exact r.fr i b n h1 h2 h3
/-- the last ones are let go -/
theorem Rc.trim {N : En} {F : Hp} {A : List Addr} {H : Hp} {μ : List M} (r : Rc N F A H μ) {n : Nat} (hn : N.A0.length ≤ n) : Rc N F (A.take n) H (μ.take n) := by
  have pp : A.take n <+: A := List.take_prefix _ _
  refine ⟨r.sub, r.base, r.new, r.keep, ?_, r.nd.sublist (List.take_sublist _ _), by simp [r.len], fun j a m h1 h2 => ?_, fun j a m h1 h2 h3 => ?_⟩
  · obtain ⟨B, rfl, hB⟩ := r.pre
    refine ⟨B.take (n - N.A0.length), ?_, fun b hb => hB b (List.mem_of_mem_take hb)⟩
    rw [List.take_append, List.take_of_length_le hn]
  · have k := r.mus j a m (getElem?_pre pp h1) (getElem?_pre (List.take_prefix _ _) h2)
    cases m with
    | lst ds => exact k
    | dic ks ds => exact k
    | gone => exact k
    | obj C ns ss => exact k
    | tab P q => exact k
  · exact r.fr j a m (getElem?_pre pp h1) (getElem?_pre (List.take_prefix _ _) h2) h3
theorem Rl.to {N : En} {F F' : Hp} {A A' : List Addr} {H H' : Hp} {σ : L2.St} {δ : List (Option S)} {μ μ' : List M} (r : Rl N F A H σ δ μ) (e : Same F F') (p : A <+: A') (r' : Rc N F' A' H' μ') : Rl N F' A' H' σ δ μ' :=
  ⟨r', r.len, fun i s h => by
    obtain ⟨v, h1, h2⟩ := r.sl i s h
    exact ⟨v, h1, h2.mono e p⟩⟩
theorem Rl.set {N : En} {F : Hp} {A : List Addr} {H : Hp} {σ : L2.St} {δ : List (Option S)} {μ : List M} (r : Rl N F A H σ δ μ) {i : Nat} {v : V} {s : S} (h : RepS N.K F A v s) : Rl N F A H (σ.set i (some v)) (δ.set i (some s)) μ :=
  ⟨r.rc, by simp [r.len], fun j t e => by
    by_cases hj : j = i
    · subst hj
      have hl : j < δ.length := by
        have := (List.getElem?_eq_some_iff.mp e).1
        simpa using this
      rw [List.getElem?_set_self hl] at e
      cases e
      exact ⟨v, List.getElem?_set_self (by rw [← r.len]; exact hl), h⟩
    · rw [List.getElem?_set_ne (Ne.symm hj)] at e ⊢
      exact r.sl j t e⟩
/-! ## results, judgements -/
inductive Rx where
  | v (s : S) | x (C : Addr) (d : D)
inductive Os where
  | nx (δ : List (Option S)) (μ : List M) | rt (s : S) (μ : List M) | xx (C : Addr) (d : D) (δ : List (Option S)) (μ : List M)
  | bk (δ : List (Option S)) (μ : List M) | ct (δ : List (Option S)) (μ : List M)
def EndE (N : En) (W : WX) (σ : L2.St) (δ : List (Option S)) (F : Hp) (A : List Addr) (μ' : List M) (Q : VK) : Rx → Prop
  | .v s => ∀ v F' A' H', Same F F' → A <+: A' → Rl N F' A' H' σ δ μ' → RepS N.K F' A' v s → Q v H'
  | .x C d => ∀ dx v F' A' H', Same F F' → A <+: A' → Rl N F' A' H' σ δ μ' → F' dx = some (.xd [("value", v)]) → Rep N.K F' v d → W (.ref C) (some dx) σ H'
def tD (N : En) (W : WX) (δ : List (Option S)) (μ : List M) (r : Rx) (μ' : List M) : TE := fun σ H Q => ∃ F A, Rl N F A H σ δ μ ∧ EndE N W σ δ F A μ' Q r
def DE (X : Cx) (N : En) (W : WX) (δ : List (Option S)) (μ : List M) (e : Expr) (r : Rx) (μ' : List M) : Prop := PE X e (tD N W δ μ r μ')
def tDT (N : En) (W : WX) (δ : List (Option S)) (μ : List M) (b : Bool) (μ' : List M) : TT := fun σ H Q => ∃ F A, Rl N F A H σ δ μ ∧ ∀ F' A' H', Same F F' → A <+: A' → Rl N F' A' H' σ δ μ' → Q b H'
def DT (X : Cx) (N : En) (W : WX) (δ : List (Option S)) (μ : List M) (e : Expr) (b : Bool) (μ' : List M) : Prop := PT X e (tDT N W δ μ b μ')
def DW (X : Cx) (N : En) (W : WX) (δ : List (Option S)) (μ : List M) (e : Expr) (b : Bool) (μ' : List M) : Prop := PW X e (tDT N W δ μ b μ')
def tDA (N : En) (W : WX) (δ : List (Option S)) (μ : List M) (ss : List S) (μ' : List M) : TA := fun σ H Q => ∃ F A, Rl N F A H σ δ μ ∧ ∀ vs F' A' H', Same F F' → A <+: A' → Rl N F' A' H' σ δ μ' → RepSs N.K F' A' vs ss → Q vs H'
def DA (X : Cx) (N : En) (W : WX) (δ : List (Option S)) (μ : List M) (es : List Expr) (ss : List S) (μ' : List M) : Prop := PA X es (tDA N W δ μ ss μ')
def EndS (N : En) (W : WX) (F : Hp) (A : List Addr) (K : Ends) : Os → Prop
  | .nx δ' μ' => ∀ σ' F' A' H', Same F F' → A <+: A' → Rl N F' A' H' σ' δ' μ' → K.nx σ' H'
  | .bk δ' μ' => ∀ σ' F' A' H', Same F F' → A <+: A' → Rl N F' A' H' σ' δ' μ' → K.bk σ' H'
  | .ct δ' μ' => ∀ σ' F' A' H', Same F F' → A <+: A' → Rl N F' A' H' σ' δ' μ' → K.ct σ' H'
  | .rt s μ' => ∀ v F' A' H', Same F F' → A <+: A' → Rc N F' A' H' μ' → RepS N.K F' A' v s → K.rt v H'
  | .xx C d δ' μ' => ∀ σ' dx v F' A' H', Same F F' → A <+: A' → Rl N F' A' H' σ' δ' μ' → F' dx = some (.xd [("value", v)]) → Rep N.K F' v d → W (.ref C) (some dx) σ' H'
def tDS (N : En) (W : WX) (δ : List (Option S)) (μ : List M) (o : Os) : TS := fun K σ H => ∃ F A, Rl N F A H σ δ μ ∧ EndS N W F A K o
def DS (X : Cx) (N : En) (W : WX) (δ : List (Option S)) (μ : List M) (st : Stmt) (o : Os) : Prop := PS X st (tDS N W δ μ o)
def DSs (X : Cx) (N : En) (W : WX) (δ : List (Option S)) (μ : List M) (sts : List Stmt) (o : Os) : Prop := PSs X sts (tDS N W δ μ o)
theorem PE.imp {X : Cx} {e : Expr} {t t' : TE} (h : PE X e t) (w : ∀ σ H Q, t' σ H Q → t σ H Q) : PE X e t' := ⟨fun p s σ H Q I q => h.run p s σ H Q I (w σ H Q q)⟩
theorem PT.imp {X : Cx} {e : Expr} {t t' : TT} (h : PT X e t) (w : ∀ σ H Q, t' σ H Q → t σ H Q) : PT X e t' := ⟨fun p s σ H Q I q => h.run p s σ H Q I (w σ H Q q)⟩
theorem PW.imp {X : Cx} {e : Expr} {t t' : TT} (h : PW X e t) (w : ∀ σ H Q, t' σ H Q → t σ H Q) : PW X e t' := ⟨fun wh p s σ H Q I q => h.run wh p s σ H Q I (w σ H Q q)⟩
theorem PA.imp {X : Cx} {e : List Expr} {t t' : TA} (h : PA X e t) (w : ∀ σ H Q, t' σ H Q → t σ H Q) : PA X e t' := ⟨fun po p s σ H Q I q => h.run po p s σ H Q I (w σ H Q q)⟩
theorem PS.imp {X : Cx} {e : Stmt} {t t' : TS} (h : PS X e t) (w : ∀ D σ H, t' D σ H → t D σ H) : PS X e t' := ⟨fun p s σ H D I q => h.run p s σ H D I (w D σ H q)⟩
theorem PSs.imp {X : Cx} {e : List Stmt} {t t' : TS} (h : PSs X e t) (w : ∀ D σ H, t' D σ H → t D σ H) : PSs X e t' := ⟨fun p s σ H D I q => h.run p s σ H D I (w D σ H q)⟩
/-- the heap may be taken as it is at the end -/
theorem EndE.to {N : En} {W : WX} {σ : L2.St} {δ : List (Option S)} {F F1 : Hp} {A A1 : List Addr} {μ' : List M} {Q : VK} (e : Same F F1) (p : A <+: A1) : ∀ {r}, EndE N W σ δ F A μ' Q r → EndE N W σ δ F1 A1 μ' Q r
  | .v _, h => fun v F' A' H' e' p' => h v F' A' H' (e.trans e') (p.trans p')
  | .x _ _, h => fun dx v F' A' H' e' p' => h dx v F' A' H' (e.trans e') (p.trans p')
theorem EndS.to {N : En} {W : WX} {F F1 : Hp} {A A1 : List Addr} {K : Ends} (e : Same F F1) (p : A <+: A1) : ∀ {o}, EndS N W F A K o → EndS N W F1 A1 K o
  | .nx _ _, h => fun σ F' A' H' e' p' => h σ F' A' H' (e.trans e') (p.trans p')
  | .bk _ _, h => fun σ F' A' H' e' p' => h σ F' A' H' (e.trans e') (p.trans p')
  | .ct _ _, h => fun σ F' A' H' e' p' => h σ F' A' H' (e.trans e') (p.trans p')
  | .rt _ _, h => fun σ F' A' H' e' p' => h σ F' A' H' (e.trans e') (p.trans p')
  | .xx _ _ _ _, h => fun σ dx v F' A' H' e' p' => h σ dx v F' A' H' (e.trans e') (p.trans p')
end Dl
set_option Elab.async false
set_option linter.all false
set_option maxRecDepth 100000
set_option maxHeartbeats 4000000
set_option autoImplicit false
namespace Dl
open PySem PySem.Spec PyProof.Rows L2
section
variable {X : Cx} {N : En} {W : WX} {δ δ' δ1 δ2 : List (Option S)} {μ μ' μ1 μ2 μ3 : List M} {e a b c : Expr} {pos : Pos} {d : D} {s s1 s2 : S} {r : Rx}
theorem EndE.here {σ : L2.St} {F : Hp} {A : List Addr} {Q : VK} {H : Hp} {v : V} (k : EndE N W σ δ F A μ Q (.v s)) (R : Rl N F A H σ δ μ) (h : RepS N.K F A v s) : Q v H := k v F A H (Same.refl _) (List.prefix_refl _) R h
/-! ### names and constants -/
theorem de_c {v : V} (h : PE X e (tC v)) (q : ∀ K F, Rep K F v d) : DE X N W δ μ e (.v (.p d)) μ :=
  PE.imp h fun σ H Q ⟨F, A, R, k⟩ => k.here R (q _ _)
theorem de_int {i : Int} {j} : DE X N W δ μ (.Constant (.int i) j pos) (.v (.p (.int i))) μ := de_c pe_int fun _ _ => .int i
theorem de_bl {i : Bool} {j} : DE X N W δ μ (.Constant (.bool i) j pos) (.v (.p (.bl i))) μ := de_c pe_bl fun _ _ => .bl i
theorem de_non {j} : DE X N W δ μ (.Constant .none j pos) (.v (.p .non)) μ := de_c pe_non fun _ _ => .non
theorem de_str {x : Str} {j} : DE X N W δ μ (.Constant (.str x) j pos) (.v (.p (.str x))) μ := de_c pe_str fun _ _ => .str x
theorem de_var (i : Nat) {x : Str} (hs : δ[i]? = some (some s) := by rfl) (hN : X.N[i]? = some x := by rfl) (hv : Vis X.env.scope x := by first | exact Or.inl rfl | exact Or.inr (Or.inl rfl) | exact Or.inr (Or.inr rfl))
    (hd : (x == ("__debug__" : Str)) = false := by decide) (hcd : (x == ("__classdict__" : Str)) = false := by decide) : DE X N W δ μ (.Name x pos) (.v s) μ :=
  PE.imp (pe_var hN hv hd hcd) fun σ H Q ⟨F, A, R, k⟩ => by
    obtain ⟨v, h1, h2⟩ := R.sl i s hs
    exact ⟨v, h1, k.here R h2⟩
theorem de_glob {x : Str} {v : V} {u : Value} (hm : X.mg x = some u) (q : RelV v u) (rp : ∀ K F, Rep K F v d) (hg : Gl X x := by rfl) (hd : (x == ("__debug__" : Str)) = false := by decide) : DE X N W δ μ (.Name x pos) (.v (.p d)) μ :=
  de_c (pe_glob hg hm q hd) rp
/-! ### operators by their values -/
def OpOk (X : Cx) (N : En) (W : WX) (f : Value → Value → Sem Value) (μ : List M) (s1 s2 : S) (r : Rx) (μ' : List M) : Prop :=
  ∃ rr : R2, OpR X f rr ∧ ∀ σ δ F A H x y Q, Rl N F A H σ δ μ → RepS N.K F A x s1 → RepS N.K F A y s2 → EndE N W σ δ F A μ' Q r → rr x y H Q
def UnOk (X : Cx) (N : En) (W : WX) (f : Value → Sem Value) (μ : List M) (s1 : S) (r : Rx) (μ' : List M) : Prop :=
  ∃ rr : V → Hp → VK → Prop, UnR X f rr ∧ ∀ σ δ F A H x Q, Rl N F A H σ δ μ → RepS N.K F A x s1 → EndE N W σ δ F A μ' Q r → rr x H Q
theorem two {rr : R2} {σ : L2.St} {H : Hp} {Q : VK} (hr : ∀ σ δ F A H x y Q, Rl N F A H σ δ μ2 → RepS N.K F A x s1 → RepS N.K F A y s2 → EndE N W σ δ F A μ3 Q r → rr x y H Q)
    (h : tD N W δ μ r μ3 σ H Q) : tOp rr (tD N W δ μ (.v s1) μ1) (tD N W δ μ1 (.v s2) μ2) σ H Q := by
  obtain ⟨F, A, R, k⟩ := h
  exact ⟨F, A, R, fun x F1 A1 H1 e1 p1 R1 rx => ⟨F1, A1, R1, fun y F2 A2 H2 e2 p2 R2 ry => hr σ δ F2 A2 H2 x y Q R2 (rx.mono e2 p2) ry (k.to (e1.trans e2) (p1.trans p2))⟩⟩
theorem de_bin {op : Operator} (ha : DE X N W δ μ a (.v s1) μ1) (hb : DE X N W δ μ1 b (.v s2) μ2) (h : OpOk X N W (binaryOp op) μ2 s1 s2 r μ3) : DE X N W δ μ (.BinOp a op b pos) r μ3 := by
  obtain ⟨rr, ho, hr⟩ := h
  exact PE.imp (pe_op ho ha hb) fun σ H Q q => two hr q
theorem de_un {op : UnaryOp} (ha : DE X N W δ μ a (.v s1) μ1) (h : UnOk X N W (unaryOp op) μ1 s1 r μ2) : DE X N W δ μ (.UnaryOp op a pos) r μ2 := by
  obtain ⟨rr, ho, hr⟩ := h
  exact PE.imp (pe_un ho ha) fun σ H Q ⟨F, A, R, k⟩ => ⟨F, A, R, fun x F1 A1 H1 e1 p1 R1 rx => hr σ δ F1 A1 H1 x Q R1 rx (k.to e1 p1)⟩
theorem de_cmp {op : CmpOp} (ha : DE X N W δ μ a (.v s1) μ1) (hb : DE X N W δ μ1 b (.v s2) μ2) (h : OpOk X N W (compareOp op) μ2 s1 s2 r μ3) (hm : behindInMarks op b = false := by first | exact nomark _ | rfl) : DE X N W δ μ (.Compare a [op] [b] pos) r μ3 := by
  obtain ⟨rr, ho, hr⟩ := h
  exact PE.imp (pe_cmpR ho ha hb hm) fun σ H Q q => two hr q
theorem EndE.bool {σ : L2.St} {F : Hp} {A : List Addr} {Q : Bool → Hp → Prop} {k : Bool} (h : ∀ F' A' H', Same F F' → A <+: A' → Rl N F' A' H' σ δ μ' → Q k H') : EndE N W σ δ F A μ' (fun x H' => ∃ k, x = .bl k ∧ Q k H') (.v (.p (.bl k))) :=
  fun v F' A' H' e p R rv => by
    cases rv
    exact ⟨k, rfl, h F' A' H' e p R⟩
theorem dt_cmp {op : CmpOp} {k : Bool} (ha : DE X N W δ μ a (.v s1) μ1) (hb : DE X N W δ μ1 b (.v s2) μ2) (h : OpOk X N W (compareOp op) μ2 s1 s2 (.v (.p (.bl k))) μ3) (hm : behindInMarks op b = false := by first | exact nomark _ | rfl) : DT X N W δ μ (.Compare a [op] [b] pos) k μ3 := by
  obtain ⟨rr, ho, hr⟩ := h
  exact PT.imp (pt_cmpR ho ha hb hm) fun σ H Q ⟨F, A, R, q⟩ => two (W := W) hr ⟨F, A, R, EndE.bool q⟩
theorem dt_val {k : Bool} (h : DE X N W δ μ e (.v (.p (.bl k))) μ1) (he : ∀ whole, isTrue e X.env whole = (do let v ← whole; standAt e.pos; holding [v] (truthy v)) := by intro _; rfl) : DT X N W δ μ e k μ1 :=
  PT.imp (pt_val h he) fun σ H Q ⟨F, A, R, q⟩ => ⟨F, A, R, EndE.bool q⟩
/-! ### tests -/
theorem dt_not {k : Bool} (h : DT X N W δ μ a k μ1) : DT X N W δ μ (.UnaryOp .Not a pos) (!k) μ1 := PT.imp (pt_not h) fun σ H Q ⟨F, A, R, q⟩ => ⟨F, A, R, q⟩
theorem dw_and1 {k : Bool} (h : DT X N W δ μ a k μ1) : DW X N W δ μ (.BoolOp .And [a] pos) k μ1 := pw_and1 h
theorem dw_or1 {k : Bool} (h : DT X N W δ μ a k μ1) : DW X N W δ μ (.BoolOp .Or [a] pos) k μ1 := pw_or1 h
theorem dw_no : PW X e (fun _ _ _ => False) := ⟨fun _ _ _ _ _ _ _ h => h.elim⟩
theorem pe_no : PE X e (fun _ _ _ => False) := ⟨fun _ _ _ _ _ _ h => h.elim⟩
theorem dw_and {rest : List Expr} {k k' : Bool} (h : DT X N W δ μ a k μ1) (h' : k = true → DW X N W δ μ1 (.BoolOp .And (b :: rest) pos) k' μ1) : DW X N W δ μ (.BoolOp .And (a :: b :: rest) pos) (k && k') μ1 := by
  cases k with
  | true => exact PW.imp (pw_and h (h' rfl)) fun σ H Q ⟨F, A, R, q⟩ => ⟨F, A, R, fun F1 A1 H1 e1 p1 R1 => iteT ⟨F1, A1, R1, fun F2 A2 H2 e2 p2 R2 => q F2 A2 H2 (e1.trans e2) (p1.trans p2) R2⟩⟩
  | false => exact PW.imp (pw_and h dw_no) fun σ H Q ⟨F, A, R, q⟩ => ⟨F, A, R, fun F1 A1 H1 e1 p1 R1 => iteF (q F1 A1 H1 e1 p1 R1)⟩
theorem dw_or {rest : List Expr} {k k' : Bool} (h : DT X N W δ μ a k μ1) (h' : k = false → DW X N W δ μ1 (.BoolOp .Or (b :: rest) pos) k' μ1) : DW X N W δ μ (.BoolOp .Or (a :: b :: rest) pos) (k || k') μ1 := by
  cases k with
  | false => exact PW.imp (pw_or h (h' rfl)) fun σ H Q ⟨F, A, R, q⟩ => ⟨F, A, R, fun F1 A1 H1 e1 p1 R1 => iteF ⟨F1, A1, R1, fun F2 A2 H2 e2 p2 R2 => q F2 A2 H2 (e1.trans e2) (p1.trans p2) R2⟩⟩
  | true => exact PW.imp (pw_or h dw_no) fun σ H Q ⟨F, A, R, q⟩ => ⟨F, A, R, fun F1 A1 H1 e1 p1 R1 => iteT (q F1 A1 H1 e1 p1 R1)⟩
theorem dt_w {k : Bool} (h : DW X N W δ μ e k μ1) : DT X N W δ μ e k μ1 := h.pt
/-- and, or of bools as values -/
theorem de_one {op : BoolOp} (h : DE X N W δ μ a r μ1) : DE X N W δ μ (.BoolOp op [a] pos) r μ1 := pe_one h
theorem de_and {rest : List Expr} {k k' : Bool} (h : DE X N W δ μ a (.v (.p (.bl k))) μ1) (h' : k = true → DE X N W δ μ1 (.BoolOp .And (b :: rest) pos) (.v (.p (.bl k'))) μ1) : DE X N W δ μ (.BoolOp .And (a :: b :: rest) pos) (.v (.p (.bl (k && k')))) μ1 := by
  cases k with
  | true => exact PE.imp (pe_and h (h' rfl)) fun σ H Q ⟨F, A, R, q⟩ => ⟨F, A, R, fun v F1 A1 H1 e1 p1 R1 rv => by
      cases rv
      exact ⟨true, rfl, iteT ⟨F1, A1, R1, fun w F2 A2 H2 e2 p2 R2 rw => q w F2 A2 H2 (e1.trans e2) (p1.trans p2) R2 rw⟩⟩⟩
  | false => exact PE.imp (pe_and h pe_no) fun σ H Q ⟨F, A, R, q⟩ => ⟨F, A, R, fun v F1 A1 H1 e1 p1 R1 rv => by
      cases rv
      exact ⟨false, rfl, iteF (q _ F1 A1 H1 e1 p1 R1 (.bl _))⟩⟩
theorem de_if {k : Bool} (h : DT X N W δ μ c k μ1) (ha : k = true → DE X N W δ μ1 a r μ2) (hb : k = false → DE X N W δ μ1 b r μ2) : DE X N W δ μ (.IfExp c a b pos) r μ2 := by
  cases k with
  | true => exact PE.imp (pe_ifExp h (ha rfl) pe_no) fun σ H Q ⟨F, A, R, q⟩ => ⟨F, A, R, fun F1 A1 H1 e1 p1 R1 => iteT ⟨F1, A1, R1, q.to e1 p1⟩⟩
  | false => exact PE.imp (pe_ifExp h pe_no (hb rfl)) fun σ H Q ⟨F, A, R, q⟩ => ⟨F, A, R, fun F1 A1 H1 e1 p1 R1 => iteF ⟨F1, A1, R1, q.to e1 p1⟩⟩
/-! ### arguments, displays -/
theorem da_nil : DA X N W δ μ [] [] μ := PA.imp pa_nil fun σ H Q ⟨F, A, R, q⟩ => q [] F A H (Same.refl _) (List.prefix_refl _) R .nil
theorem da_cons {es : List Expr} {ss : List S} (h : DE X N W δ μ e (.v s) μ1) (h' : DA X N W δ μ1 es ss μ2) (hs : starEach (e :: es) X.env = (false, eval e X.env) :: starEach es X.env := by rfl) : DA X N W δ μ (e :: es) (s :: ss) μ2 :=
  PA.imp (pa_cons h h' hs) fun σ H Q ⟨F, A, R, q⟩ => ⟨F, A, R, fun v F1 A1 H1 e1 p1 R1 rv => ⟨F1, A1, R1, fun vs F2 A2 H2 e2 p2 R2 rvs => q (v :: vs) F2 A2 H2 (e1.trans e2) (p1.trans p2) R2 (.cons (rv.mono e2 p2) rvs)⟩⟩
def DP (X : Cx) (N : En) (W : WX) (δ : List (Option S)) (μ : List M) (es : List Expr) (ds : List D) (μ' : List M) : Prop := DA X N W δ μ es (ds.map S.p) μ'
theorem dp_nil : DP X N W δ μ [] [] μ := da_nil
theorem dp_cons {es : List Expr} {ds : List D} (h : DE X N W δ μ e (.v (.p d)) μ1) (h' : DP X N W δ μ1 es ds μ2) (hs : starEach (e :: es) X.env = (false, eval e X.env) :: starEach es X.env := by rfl) : DP X N W δ μ (e :: es) (d :: ds) μ2 := da_cons h h' hs
theorem reps_of {K : PySem.W.Frag} {F : Hp} {A : List Addr} : ∀ {vs : List V} {ds : List D}, RepSs K F A vs (ds.map S.p) → Reps K F vs ds
  | _, [], .nil => .nil
  | _, _ :: _, .cons a b => .cons a (reps_of b)
theorem of_reps {K : PySem.W.Frag} {F : Hp} {A : List Addr} : ∀ {vs : List V} {ds : List D}, Reps K F vs ds → RepSs K F A vs (ds.map S.p)
  | _, [], .nil => .nil
  | _, _ :: _, .cons a b => .cons a (of_reps b)
theorem de_tup {es : List Expr} {ds : List D} {x1} (h : DP X N W δ μ es ds μ1) (hl : ds.length ≤ sizeLine := by first | (show _ ≤ sizeLine; decide) | (simp; decide)) : DE X N W δ μ (.Tuple es x1 pos) (.v (.p (.tup ds))) μ1 :=
  PE.imp (pe_tup h) fun σ H Q ⟨F, A, R, q⟩ => ⟨F, A, R, fun vs F1 A1 H1 e1 p1 R1 rv => ⟨by rw [(reps_of rv).length]; exact hl, fun p np => by
    have sm := same_updN (o := .tup vs) (R1.rc.fresh np).2.1
    exact q (.ref p) _ A1 _ (e1.trans sm) p1 (R1.to sm (List.prefix_refl _) (R1.rc.frozen np _)) (.tup (SqT.of upd_same) ((reps_of rv).mono sm))⟩⟩
theorem de_lst {es : List Expr} {ds : List D} (h : DP X N W δ μ es ds μ1) (hl : ds.length ≤ sizeLine := by first | (show _ ≤ sizeLine; decide) | (simp; decide)) : DE X N W δ μ (.List es pos) (.v (.p (.lst ds))) μ1 :=
  PE.imp (pe_lst h) fun σ H Q ⟨F, A, R, q⟩ => ⟨F, A, R, fun vs F1 A1 H1 e1 p1 R1 rv => ⟨by rw [(reps_of rv).length]; exact hl, fun p np => by
    have sm := same_updN (o := .lst vs) (R1.rc.fresh np).2.1
    exact q (.ref p) _ A1 _ (e1.trans sm) p1 (R1.to sm (List.prefix_refl _) (R1.rc.frozen np _)) (.lst upd_same ((reps_of rv).mono sm))⟩⟩
/-- a list that will change -/
theorem de_lstM {es : List Expr} {ds : List D} (h : DP X N W δ μ es ds μ1) (hl : ds.length ≤ sizeLine := by first | (show _ ≤ sizeLine; decide) | (simp; decide)) : DE X N W δ μ (.List es pos) (.v (.l μ1.length)) (μ1 ++ [.lst ds]) :=
  PE.imp (pe_lst h) fun σ H Q ⟨F, A, R, q⟩ => ⟨F, A, R, fun vs F1 A1 H1 e1 p1 R1 rv => ⟨by rw [(reps_of rv).length]; exact hl, fun p np => by
    have pp : A1 <+: A1 ++ [p] := List.prefix_append _ _
    refine q (.ref p) _ (A1 ++ [p]) _ e1 (p1.trans pp) (R1.to (Same.refl _) pp (R1.rc.newM np ⟨vs, upd_same, reps_of rv⟩)) ⟨p, rfl, ?_⟩
    rw [← R1.rc.len]; simp⟩⟩
/-! ### builtins -/
def CallOk (X : Cx) (N : En) (W : WX) (f : Value) (μ : List M) (ss : List S) (r : Rx) (μ' : List M) : Prop :=
  ∃ rr, CallR X f rr ∧ ∀ σ δ F A H vs Q, Rl N F A H σ δ μ → RepSs N.K F A vs ss → EndE N W σ δ F A μ' Q r → rr vs H Q
theorem de_callB {x : Str} {id : String} {p : Pos} {es : List Expr} {ss : List S} (ha : DA X N W δ μ (e :: es) ss μ1) (hc : CallOk X N W (.builtin id) μ1 ss r μ2) (hm : X.mg x = none) (hv : bootBuiltins x = some (.builtin id)) (hg : Gl X x := by rfl) (hn : x ≠ "__name__" := by decide) (hdb : (x == ("__debug__" : Str)) = false := by decide)
    (he : starEach (e :: es) X.env = (false, eval e X.env) :: starEach es X.env := by rfl) (hpl : (backTo pos (starEach es X.env)).any (·.1) = false := by rfl) : DE X N W δ μ (.Call (.Name x p) (e :: es) [] pos) r μ2 := by
  obtain ⟨rr, ho, hr⟩ := hc
  exact PE.imp (pe_callB ho hg hm hv ha hn hdb he hpl) fun σ H Q ⟨F, A, R, k⟩ => ⟨F, A, R, fun vs F1 A1 H1 e1 p1 R1 rv => hr σ δ F1 A1 H1 vs Q R1 rv (k.to e1 p1)⟩
theorem de_callT {x : Str} {T : String} {p : Pos} {es : List Expr} {ss : List S} (ha : DA X N W δ μ (e :: es) ss μ1) (hc : CallOk X N W (.type T) μ1 ss r μ2) (hm : X.mg x = none) (hv : bootBuiltins x = some (.type T)) (hg : Gl X x := by rfl) (hn : x ≠ "__name__" := by decide) (hdb : (x == ("__debug__" : Str)) = false := by decide)
    (he : starEach (e :: es) X.env = (false, eval e X.env) :: starEach es X.env := by rfl) (hpl : (backTo pos (starEach es X.env)).any (·.1) = false := by rfl) : DE X N W δ μ (.Call (.Name x p) (e :: es) [] pos) r μ2 := by
  obtain ⟨rr, ho, hr⟩ := hc
  exact PE.imp (pe_callTy ho hg hm hv ha hn hdb he hpl) fun σ H Q ⟨F, A, R, k⟩ => ⟨F, A, R, fun vs F1 A1 H1 e1 p1 R1 rv => hr σ δ F1 A1 H1 vs Q R1 rv (k.to e1 p1)⟩
/-- a method of a builtin type -/
def MtOk (X : Cx) (N : En) (W : WX) (T : String) (id : String) (μ0 μ : List M) (s : S) (ss : List S) (r : Rx) (μ' : List M) : Prop :=
  ∃ rr, MtR X id rr ∧ (∀ σ δ F A H x, Rl N F A H σ δ μ0 → RepS N.K F A x s → tyV X.K T x H) ∧ ∀ σ δ F A H x vs Q, Rl N F A H σ δ μ → RepS N.K F A x s → RepSs N.K F A vs ss → EndE N W σ δ F A μ' Q r → rr x vs H Q
theorem de_bm {o : Expr} {T id : String} {name : Str} {apos : Pos} {es : List Expr} {ss : List S} (pa : PlainAttrs T) (slot : Slot T name id) (hty : typeOf (.builtin id) = pure (.type "method_descriptor")) (ho : DE X N W δ μ o (.v s) μ1) (ha : DA X N W δ μ1 (e :: es) ss μ2) (h : MtOk X N W T id μ1 μ2 s ss r μ3)
    (hbase : attributeBase o name X.env (eval o X.env) = eval o X.env := by rfl)
    (hfew : ((backTo pos (starEach (e :: es) X.env)).all (fun x => !x.1) && (backToKw pos (keywordEach [] X.env)).all (fun x => x.1.isSome)
      && decide ((e :: es).length + ([] : List Keyword).length + (if ([] : List Keyword).isEmpty then 0 else 1) < 30)) = true := by rfl)
    (hline : (apos.endLine == pos.line) = true := by rfl) (hs : starEach (e :: es) X.env = (false, eval e X.env) :: starEach es X.env := by rfl) (hplain : (backTo pos (starEach es X.env)).any (·.1) = false := by rfl) :
    DE X N W δ μ (.Call (.Attribute o name apos) (e :: es) [] pos) r μ3 := by
  obtain ⟨rr, hm, ht, hr⟩ := h
  exact PE.imp (pe_bm pa slot hty hm ho ha hbase hfew hline hs hplain) fun σ H Q ⟨F, A, R, k⟩ => ⟨F, A, R, fun x F1 A1 H1 e1 p1 R1 rx => ⟨ht σ δ F1 A1 H1 x R1 rx, F1, A1, R1, fun vs F2 A2 H2 e2 p2 R2 rv => hr σ δ F2 A2 H2 x vs Q R2 (rx.mono e2 p2) rv (k.to (e1.trans e2) (p1.trans p2))⟩⟩
/-- a subscript -/
def IxOk (X : Cx) (N : En) (W : WX) (μ : List M) (s1 s2 : S) (r : Rx) (μ' : List M) : Prop :=
  ∃ rr : R2, IxR X rr ∧ ∀ σ δ F A H x y Q, Rl N F A H σ δ μ → RepS N.K F A x s1 → RepS N.K F A y s2 → EndE N W σ δ F A μ' Q r → rr x y H Q
theorem de_ix (ha : DE X N W δ μ a (.v s1) μ1) (hb : DE X N W δ μ1 b (.v s2) μ2) (h : IxOk X N W μ2 s1 s2 r μ3) (hs : PlainIx b := by exact fun _ _ => rfl) : DE X N W δ μ (.Subscript a b pos) r μ3 := by
  obtain ⟨rr, ho, hr⟩ := h
  exact PE.imp (pe_ix ho ha hb hs) fun σ H Q q => two hr q
/-! ### statements -/
theorem Rl.endS {σ : L2.St} {F : Hp} {A : List Addr} {H : Hp} {D : Ends} (k : EndS N W F A D (.nx δ μ)) (R : Rl N F A H σ δ μ) : D.nx σ H := k σ F A H (Same.refl _) (List.prefix_refl _) R
/-- what stands behind a statement -/
def Cont (X : Cx) (N : En) (W : WX) (rest : List Stmt) : Os → Os → Prop
  | .nx δ μ, o => DSs X N W δ μ rest o
  | o1, o => o = o1
theorem cn {rest : List Stmt} {o : Os} (h : DSs X N W δ μ rest o) : Cont X N W rest (.nx δ μ) o := h
theorem cr {rest : List Stmt} : Cont X N W rest (.rt s μ) (.rt s μ) := rfl
theorem cx {rest : List Stmt} {C : Addr} : Cont X N W rest (.xx C d δ μ) (.xx C d δ μ) := rfl
theorem cc {rest : List Stmt} : Cont X N W rest (.ct δ μ) (.ct δ μ) := rfl
theorem pss_no {sts : List Stmt} : PSs X sts (fun _ _ _ => False) := ⟨fun _ _ _ _ _ _ h => h.elim⟩
theorem dss_nil : DSs X N W δ μ [] (.nx δ μ) := PSs.imp pss_nil fun K σ H ⟨F, A, R, k⟩ => R.endS k
theorem dss_cons {st : Stmt} {rest : List Stmt} {o1 o : Os} (h : DS X N W δ μ st o1) (h' : Cont X N W rest o1 o) : DSs X N W δ μ (st :: rest) o := by
  cases o1 with
  | nx δ1 μ1 =>
    exact PSs.imp (pss_cons h h') fun K σ H ⟨F, A, R, k⟩ => ⟨F, A, R, fun σ1 F1 A1 H1 e1 p1 R1 => ⟨F1, A1, R1, by
      have k' := k.to e1 p1
      cases o <;> exact k'⟩⟩
  | rt s μ1 =>
    cases h'
    exact PSs.imp (pss_cons h pss_no) fun K σ H ⟨F, A, R, k⟩ => ⟨F, A, R, k⟩
  | xx C d δ1 μ1 =>
    cases h'
    exact PSs.imp (pss_cons h pss_no) fun K σ H ⟨F, A, R, k⟩ => ⟨F, A, R, k⟩
  | bk δ1 μ1 =>
    cases h'
    exact PSs.imp (pss_cons h pss_no) fun K σ H ⟨F, A, R, k⟩ => ⟨F, A, R, k⟩
  | ct δ1 μ1 =>
    cases h'
    exact PSs.imp (pss_cons h pss_no) fun K σ H ⟨F, A, R, k⟩ => ⟨F, A, R, k⟩
theorem ds_expr (h : DE X N W δ μ e (.v s) μ1) (hs : swapsWith e none pos.line X.env = pure false := by rfl) : DS X N W δ μ (.Expr e pos) (.nx δ μ1) :=
  PS.imp (ps_expr h hs) fun K σ H ⟨F, A, R, k⟩ => ⟨F, A, R, fun v F1 A1 H1 e1 p1 R1 rv => k σ F1 A1 H1 e1 p1 R1⟩
theorem ds_ret (h : DE X N W δ μ e (.v s) μ1) : DS X N W δ μ (.Return (some e) pos) (.rt s μ1) :=
  PS.imp (ps_ret h) fun K σ H ⟨F, A, R, k⟩ => ⟨F, A, R, fun v F1 A1 H1 e1 p1 R1 rv => k v F1 A1 H1 e1 p1 R1.rc rv⟩
theorem ds_set (i : Nat) {x : Str} {pos' : Pos} (h : DE X N W δ μ e (.v s) μ1) (hN : X.N.Nodup) (hi : X.N[i]? = some x := by rfl) (hx : Loc X.env.scope x := by first | exact Or.inl rfl | exact Or.inr rfl) (hs : swapsWith e (some (.Name x pos')) pos.line X.env = pure false := by rfl)
    (hf : X.fn x = true ∨ X.env.scope.names.lookup x = some .local := by first | exact .inl rfl | exact .inr rfl) : DS X N W δ μ (.Assign [.Name x pos'] e pos) (.nx (δ.set i (some s)) μ1) :=
  PS.imp (ps_set (i := i) hN hi hx h hs hf) fun K σ H ⟨F, A, R, k⟩ => ⟨F, A, R, fun v F1 A1 H1 e1 p1 R1 rv => k _ F1 A1 H1 e1 p1 (R1.set rv)⟩
theorem ds_if {A B : List Stmt} {k : Bool} {o : Os} (h : DT X N W δ μ c k μ1) (ha : k = true → DSs X N W δ μ1 A o) (hb : k = false → DSs X N W δ μ1 B o) : DS X N W δ μ (.If c A B pos) o := by
  cases k with
  | true => exact PS.imp (ps_if h (ha rfl) pss_no) fun K σ H ⟨F, A, R, q⟩ => ⟨F, A, R, fun F1 A1 H1 e1 p1 R1 => iteT ⟨F1, A1, R1, q.to e1 p1⟩⟩
  | false => exact PS.imp (ps_if h pss_no (hb rfl)) fun K σ H ⟨F, A, R, q⟩ => ⟨F, A, R, fun F1 A1 H1 e1 p1 R1 => iteF ⟨F1, A1, R1, q.to e1 p1⟩⟩
end
end Dl
set_option Elab.async false
set_option linter.all false
set_option maxRecDepth 100000
set_option maxHeartbeats 4000000
set_option autoImplicit false
namespace Dl
open PySem PySem.Spec PyProof.Rows L2
/-! ## what a def promises -/
abbrev Rel := List S → List M → Rx → List M → Prop
def spD (K : PySem.W.Frag) (R : Rel) : Sp := fun vs H Q E => ∃ (F : Hp) (A : List Addr) (ss : List S) (μ : List M) (r : Rx) (μ' : List M), R ss μ r μ' ∧ Rc ⟨K, H, F, A⟩ F A H μ ∧ RepSs K F A vs ss ∧
  match r with
  | .v s => ∀ v F' A' H', Rc ⟨K, H, F, A⟩ F' A' H' μ' → RepS K F' A' v s → Q v H'
  | .x C d => ∀ dx v F' A' H', Rc ⟨K, H, F, A⟩ F' A' H' μ' → F' dx = some (.xd [("value", v)]) → Rep K F' v d → E (.ref C) (some dx) H'
theorem Rc.entry {N : En} {F : Hp} {A : List Addr} {H : Hp} {μ : List M} (r : Rc N F A H μ) : Rc ⟨N.K, H, F, A⟩ F A H μ :=
  ⟨r.sub, Same.refl _, fun a o e => .inl ⟨o, e⟩, fun _ _ e _ => e, ⟨[], by simp, fun _ h => by cases h⟩, r.nd, r.len, r.mus, r.fr⟩
theorem Rc.back {N : En} {F F' : Hp} {A A' : List Addr} {H H' : Hp} {μ μ' : List M} (r : Rc N F A H μ) (q : Rc ⟨N.K, H, F, A⟩ F' A' H' μ') : Rc N F' A' H' μ' where
  sub := q.sub
  base := r.base.trans q.base
  new := fun a o e => by
    rcases q.new a o e with ⟨o', h⟩ | h
    · exact r.new a o' h
    · exact .inr (r.fresh h).1
  keep := fun a o e hA => by
    refine q.keep a o (r.keep a o e hA) fun hm => ?_
    obtain ⟨B, rfl, hB⟩ := r.pre
    rcases List.mem_append.mp hm with h | h
    · exact hA h
    · rw [hB a h] at e; cases e
  pre := by
    obtain ⟨B, rfl, hB⟩ := r.pre
    obtain ⟨B', e, hB'⟩ := q.pre
    refine ⟨B ++ B', by rw [e]; exact List.append_assoc .., fun b hb => ?_⟩
    rcases List.mem_append.mp hb with h | h
    · exact hB b h
    · exact (r.fresh (hB' b h)).1
  nd := q.nd
  len := q.len
  mus := q.mus
  fr := q.fr
theorem Rc.prefix_ {N : En} {F : Hp} {A : List Addr} {H : Hp} {μ : List M} (r : Rc N F A H μ) : N.A0 <+: A := by
  obtain ⟨B, rfl, _⟩ := r.pre
  exact List.prefix_append _ _
/-- where one stands -/
structure Go (X : Cx) (N : En) (W : WX) (n : Nat) : Prop where
  tk : Takes X W
  calm : X.calm = true
  hK : N.K = X.K
  room : Room n X.A
  po : PassesOwn (model X.prog X.w) X.A X.env X.xe
  nd : X.N.Nodup
/-- a def of the module by its name -/
structure Cf (P : Program) (w : World) (K : PySem.W.Frag) (mg : Str → Option Value) (base : Heap) (k : Nat) (x : Str) (dd : List D) (R : Rel) : Prop where
  ex : ∃ (f : Addr) (fd : FuncData) (ps : List Str) (ds : List Value) (dvs : List V), FnOk P w K mg base (L2.CX P w) k f fd ps (spD K R) ∧ mg x = some (.ref f) ∧ PySem.W.keepIn K (.ref f) = true ∧ Binds K fd ps ds ∧ Vals dvs ds ∧ ∀ F, Reps K F dvs dd
/-- a property -/
structure Cp (P : Program) (w : World) (K : PySem.W.Frag) (mg : Str → Option Value) (base : Heap) (k : Nat) (C : Addr) (x : Str) (R : Rel) : Prop where
  cls : Cls K C
  ex : ∃ (f p : Addr) (fd : FuncData) (ps : List Str), FnOk P w K mg base (L2.CX P w) k f fd ps (spD K R) ∧ PropOf K C x p f ∧ Binds K fd ps []
/-- a class that is made by its __init__ -/
structure Ci (P : Program) (w : World) (K : PySem.W.Frag) (mg : Str → Option Value) (base : Heap) (k : Nat) (C : Addr) (x : Str) (dd : List D) (R : Rel) : Prop where
  at_ : mg x = some (.ref C)
  ex : ∃ (f : Addr) (fd : FuncData) (ps : List Str) (ds : List Value) (dvs : List V), FnOk P w K mg base (L2.CX P w) k f fd ps (spD K R) ∧ Mk K C f ∧ Binds K fd ps ds ∧ Vals dvs ds ∧ ∀ F, Reps K F dvs dd
section
variable {X : Cx} {N : En} {W : WX} {n : Nat} {δ δ' δ1 δ2 : List (Option S)} {μ μ' μ1 μ2 μ3 : List M} {e a b c o : Expr} {es : List Expr} {ss : List S} {pos p apos : Pos} {d : D} {s s1 s2 : S} {r : Rx} {R : Rel} {k : Nat} {x m f : Str} {dd : List D} {C : Addr}
/-- the promise, for the caller -/
theorem spD_in {E : XK} {σ : L2.St} {F : Hp} {A : List Addr} {H : Hp} {vs : List V} {Q : VK} (hR : R ss μ r μ') (Rl0 : Rl N F A H σ δ μ) (rv : RepSs N.K F A vs ss) (k : EndE N (fun cls d _ H => E cls d H) σ δ F A μ' Q r) : spD N.K R vs H Q E := by
  refine ⟨F, A, ss, μ, r, μ', hR, Rl0.rc.entry, rv, ?_⟩
  cases r with
  | v s => exact fun v F' A' H' q rv => k v F' A' H' q.base q.prefix_ (Rl0.to q.base q.prefix_ (Rl0.rc.back q)) rv
  | x C d => exact fun dx v F' A' H' q h1 h2 => k dx v F' A' H' q.base q.prefix_ (Rl0.to q.base q.prefix_ (Rl0.rc.back q)) h1 h2
/-- an error that is raised within an expression: the wish of it, at these slots -/
theorem EndE.wish {σ : L2.St} {F : Hp} {A : List Addr} {Q : VK} (k : EndE N W σ δ F A μ' Q r) : EndE N (fun cls d _ H => W cls d σ H) σ δ F A μ' Q r := by
  cases r with
  | v s => exact k
  | x C d => exact k
theorem call_fnD {pins : List (Addr × Obj)} {σ : L2.St} {H : Hp} {sh : Shared} {F : Hp} {A : List Addr} {Q : VK} {us : List Value} {vs dvs : List V} {ds : List Value} {f : Addr} {fd : FuncData} {ps : List Str} (g : Go X N W n) (hk : k ≤ n)
    (Fo : FnOk X.prog X.w X.K X.mg X.base (L2.CX X.prog X.w) k f fd ps (spD X.K R)) (hb : Binds X.K fd ps ds) (hd : Vals dvs ds) (rd : ∀ F, Reps X.K F dvs dd) (I : Inv X pins σ H sh) (R0 : Rl N F A H σ δ μ) (rv : RepSs N.K F A vs ss) (ru : Vals vs us)
    (hR : R (ss ++ dd.map S.p) μ r μ') (q : EndE N W σ δ F A μ' Q r) : wpAny (model X.prog X.w) X.A (call (.ref f) us) (EP X pins σ Q) X.xe sh := by
  refine run_fnSD (E := WE W) Fo (g.room.mono hk) hb hd (passAt g.tk σ) I ru ?_
  have hK := g.hK
  rw [← hK] at rd ⊢
  exact spD_in hR R0 (rv.append (of_reps (rd F))) q.wish
theorem de_call (g : Go X N W n) (cf : Cf X.prog X.w X.K X.mg X.base k x dd R) (ha : DA X N W δ μ (e :: es) ss μ1) (hR : R (ss ++ dd.map S.p) μ1 r μ2) (hk : k ≤ n := by decide) (hg : Gl X x := by rfl) (hdb : (x == ("__debug__" : Str)) = false := by decide)
    (he : starEach (e :: es) X.env = (false, eval e X.env) :: starEach es X.env := by rfl) (hpl : (backTo pos (starEach es X.env)).any (·.1) = false := by rfl) : DE X N W δ μ (.Call (.Name x p) (e :: es) [] pos) r μ2 := by
  obtain ⟨f, fd, ps, ds, dvs, Fo, hm, hkp, hb, hd, rd⟩ := cf.ex
  refine ⟨fun pins s σ H Q I ⟨F, A, R0, q⟩ => ?_⟩
  refine wpAny_Call_Name_kw (ld_glob I hg hm ?_ hdb)
  refine PySem.W.callWith_K (h₀ := X.base) I.ok.mod.kin hkp (thn (ha.run pos pins s σ H (fun vs H' => ∃ F' A', Same F F' ∧ A <+: A' ∧ Rl N F' A' H' σ δ μ1 ∧ RepSs N.K F' A' vs ss) I ⟨F, A, R0, fun vs F' A' H' h1 h2 h3 h4 => ⟨F', A', h1, h2, h3, h4⟩⟩) fun us s1 ⟨vs, H1, I1, r1, F1, A1, e1, p1, R1, rv⟩ => ⟨I1.kIn, ?_⟩) he hpl
  exact call_fnD g hk Fo hb hd rd I1 R1 rv r1 hR (q.to e1 p1)
/-! ### instances -/
theorem lookup_rep {K : PySem.W.Frag} {F : Hp} {f : Str} : ∀ {fs : List (Str × V)} {ns : List Str} {ds : List D} {d : D}, fs.map (·.1) = ns → Reps K F (fs.map (·.2)) ds → (ns.zip ds).lookup f = some d → ∃ v, fs.lookup f = some v ∧ Rep K F v d
  | [], _, _, _, h, r, e => by
    subst h
    cases r
    cases e
  | (k, v) :: t, ns, ds, d, h, r, e => by
    subst h
    cases r with
    | cons r1 r2 =>
      rw [List.lookup_cons]
      rw [show (List.map (fun x : Str × V => x.1) ((k, v) :: t)).zip (_ :: _) = (k, _) :: (List.map (fun x : Str × V => x.1) t).zip _ from rfl, List.lookup_cons] at e
      cases hb : f == k with
      | true =>
        rw [hb] at e
        cases e
        exact ⟨v, rfl, r1⟩
      | false =>
        rw [hb] at e
        exact lookup_rep rfl r2 e
theorem rep_ins {K : PySem.W.Frag} {F : Hp} {v : V} {C : Addr} {ns : List Str} {ds : List D} (h : Rep K F v (.ins C ns ds)) : ∃ a dx fs, v = .ref a ∧ F a = some (.ins C dx fs) ∧ fs.map (·.1) = ns ∧ Reps K F (fs.map (·.2)) ds := by
  generalize hd : D.ins C ns ds = d at h
  cases h with
  | ins h1 h2 =>
    cases hd
    exact ⟨_, _, _, rfl, h1, rfl, h2⟩
  | _ => cases hd
/-- o.f, a field -/
theorem de_fld {ns : List Str} {ds : List D} (ho : DE X N W δ μ e (.v (.p (.ins C ns ds))) μ1) (g : Go X N W n) (c : Cls X.K C) (nf : NoAttr X.K C f) (hl : (ns.zip ds).lookup f = some d := by rfl) (hb : attributeBase e f X.env (eval e X.env) = eval e X.env := by rfl) : DE X N W δ μ (.Attribute e f pos) (.v (.p d)) μ1 :=
  PE.imp (pe_fld ho hb) fun σ H Q ⟨F, A, R, q⟩ => ⟨F, A, R, fun v F1 A1 H1 e1 p1 R1 rv => by
    obtain ⟨a, dx, fs, rfl, h1, h2, h3⟩ := rep_ins rv
    obtain ⟨w, h4, h5⟩ := lookup_rep h2 h3 hl
    exact ⟨a, C, dx, fs, w, rfl, R1.rc.sub _ _ h1, c, nf, h4, q w F1 A1 H1 e1 p1 R1 h5⟩⟩
/-- o.f, a property -/
theorem de_prop {ns : List Str} {ds' : List D} (g : Go X N W n) (cp : Cp X.prog X.w X.K X.mg X.base k C f R) (ho : DE X N W δ μ e (.v (.p (.ins C ns ds'))) μ1) (hR : R [.p (.ins C ns ds')] μ1 (.v s) μ2) (hk : k + 1 ≤ n := by decide)
    (hab : attributeBase e f X.env (eval e X.env) = eval e X.env := by rfl) : DE X N W δ μ (.Attribute e f pos) (.v s) μ2 := by
  obtain ⟨fa, p, fd, ps, Fo, hp, hb⟩ := cp.ex
  have hx : Passes (L2.CX X.prog X.w) X.nox (fun _ _ _ => False) := fun _ _ _ _ _ _ _ c => by
    obtain ⟨_, _, _, _, _, _, _, _, _, _, _, _, z⟩ := c
    exact z
  refine PE.imp (pe_prop ho cp.cls hp Fo (g.room.mono hk) hb .nil hx hab) fun σ H Q ⟨F, A, R0, q⟩ => ⟨F, A, R0, fun v F1 A1 H1 e1 p1 R1 rv => ?_⟩
  have rv' : Rep N.K F1 v (.ins C ns ds') := rv
  obtain ⟨a, dx, fs, rfl, h1, h2, h3⟩ := rep_ins rv'
  refine ⟨a, dx, fs, rfl, R1.rc.sub _ _ h1, ?_⟩
  have hK := g.hK
  rw [← hK]
  exact spD_in (r := .v s) (δ := δ) (σ := σ) (vs := [.ref a]) hR R1 (.cons rv' .nil) (fun v F' A' H' e' p' R' rv' => q v F' A' H' (e1.trans e') (p1.trans p') R' rv')
/-- what __init__ wants at a new instance -/
def MkEnd (N : En) (H1 F : Hp) (A : List Addr) (μ0 : List M) (Q : VK) (E : XK) : Rx → Prop
  | .v s => ∀ v F' A' H', Rc ⟨N.K, H1, F, A⟩ F' A' H' μ0 → RepS N.K F' A' v s → Q v H'
  | .x C2 d => ∀ dx' v F' A' H', Rc ⟨N.K, H1, F, A⟩ F' A' H' μ0 → F' dx' = some (.xd [("value", v)]) → Rep N.K F' v d → E (.ref C2) (some dx') H'
theorem make_in {E : XK} {σ : L2.St} {F : Hp} {A : List Addr} {H : Hp} {vs : List V} {Q : VK} {μ0 : List M} (R0 : Rl N F A H σ δ μ) (rv : RepSs N.K F A vs ss) (hR : R (.l μ.length :: ss) (μ ++ [.obj C [] []]) r μ0)
    {x dx : Addr} (nx : H x = none) (ndx : H dx = none) (ne : dx ≠ x) (k : MkEnd N (upd (upd H dx (.own x)) x (.ins C dx [])) F (A ++ [x]) μ0 Q E r) :
    spD N.K R (.ref x :: vs) (upd (upd H dx (.own x)) x (.ins C dx [])) Q E := by
  have r1 := R0.rc.junk ndx (.own x)
  have nx1 : (upd H dx (.own x)) x = none := by rw [upd_ne (Ne.symm ne)]; exact nx
  have r2 := r1.newM (m := .obj C [] []) nx1 (o := .ins C dx []) ⟨dx, [], upd_same, rfl, .nil⟩
  have pp : A <+: A ++ [x] := List.prefix_append _ _
  refine ⟨F, A ++ [x], .l μ.length :: ss, μ ++ [.obj C [] []], r, μ0, hR, r2.entry, .cons ⟨x, rfl, ?_⟩ (rv.mono (Same.refl _) pp), ?_⟩
  · rw [← R0.rc.len]; simp
  · cases r with
    | v s => exact k
    | x C2 d => exact k
/-- behind it: the new instance is let go -/
theorem made_back {σ : L2.St} {F F' : Hp} {A A' : List Addr} {H H' : Hp} {μ0 : List M} (R0 : Rl N F A H σ δ μ) {x dx : Addr} (nx : H x = none) (ndx : H dx = none) (ne : dx ≠ x) (q : Rc ⟨N.K, upd (upd H dx (.own x)) x (.ins C dx []), F, A ++ [x]⟩ F' A' H' μ0) :
    Rc N F' (A'.take μ.length) H' (μ0.take μ.length) ∧ A <+: A'.take μ.length ∧ A'[μ.length]? = some x ∧ Rc N F' A' H' μ0 := by
  have r1 := R0.rc.junk ndx (.own x)
  have nx1 : (upd H dx (.own x)) x = none := by rw [upd_ne (Ne.symm ne)]; exact nx
  have r2 := r1.newM (m := .obj C [] []) nx1 (o := .ins C dx []) ⟨dx, [], upd_same, rfl, .nil⟩
  have hb := r2.back q
  have pp := q.prefix_
  have hl : μ.length = A.length := R0.rc.len.symm
  have hA : N.A0.length ≤ μ.length := by
    rw [hl]
    obtain ⟨B, e, _⟩ := R0.rc.pre
    rw [e]; simp
  refine ⟨hb.trim hA, ?_, ?_, hb⟩
  · rw [hl]
    obtain ⟨B, rfl⟩ := pp
    rw [show A ++ [x] ++ B = A ++ ([x] ++ B) from List.append_assoc .., List.take_left]
    exact List.prefix_refl _
  · rw [hl]
    exact getElem?_pre pp (by simp)
/-- C(e, ..) -/
theorem de_make {ns : List Str} {ds' : List D} {μ0 : List M} (g : Go X N W n) (ci : Ci X.prog X.w X.K X.mg X.base k C x dd R) (ha : DA X N W δ μ (e :: es) ss μ1) (hR : R (.l μ1.length :: (ss ++ dd.map S.p)) (μ1 ++ [.obj C [] []]) (.v (.p .non)) μ0) (h0 : μ0[μ1.length]? = some (.obj C ns ds')) (ht : μ2 = μ0.take μ1.length)
    (hk : k + 1 ≤ n := by decide) (hg : Gl X x := by rfl) (hdb : (x == ("__debug__" : Str)) = false := by decide)
    (he : starEach (e :: es) X.env = (false, eval e X.env) :: starEach es X.env := by rfl) (hpl : (backTo pos (starEach es X.env)).any (·.1) = false := by rfl) : DE X N W δ μ (.Call (.Name x p) (e :: es) [] pos) (.v (.p (.ins C ns ds'))) μ2 := by
  subst ht
  obtain ⟨f, fd, ps, ds, dvs, Fo, Mk, hb, hd, rd⟩ := ci.ex
  have hx : Passes (L2.CX X.prog X.w) X (fun _ _ _ => False) := fun _ _ _ _ _ _ _ c => by
    obtain ⟨_, _, _, _, _, _, _, _, _, _, _, _, z⟩ := c
    exact z.elim
  refine PE.imp (pe_make Mk Fo (g.room.mono hk) hg ci.at_ hb hd hx ha hdb he hpl) fun σ H Q ⟨F, A, R0, q⟩ => ⟨F, A, R0, fun vs F1 A1 H1 e1 p1 R1 rv x dx nx ndx ne => ?_⟩
  have hK := g.hK
  rw [← hK] at rd ⊢
  refine make_in (r := .v (.p .non)) R1 (rv.append (of_reps (rd F1))) hR nx ndx ne fun v F' A' H' hq rn => ?_
  have rn' : Rep N.K F' v .non := rn
  refine ⟨by cases rn'; rfl, ?_⟩
  obtain ⟨b1, b2, b3, b4⟩ := made_back R1 nx ndx ne hq
  obtain ⟨dx', fs, h1, h2, h3⟩ := b4.mus _ _ _ b3 h0
  have hA : N.A0.length ≤ μ1.length := by
    rw [← R1.rc.len]
    obtain ⟨B, e, _⟩ := R1.rc.pre
    rw [e]; simp
  obtain ⟨b5, b6⟩ := b4.freeze b3 h0 trivial hA h1
  have b7 := b5.trim hA
  rw [show (μ0.set μ1.length M.gone).take μ1.length = μ0.take μ1.length from by rw [List.take_set_of_le (Nat.le_refl _)]] at b7
  have sm : Same F1 (upd F' x (.ins C dx' fs)) := hq.base.trans b6
  refine q (.ref x) _ _ H' (e1.trans sm) (p1.trans b2) (R1.to sm b2 b7) ?_
  have := Rep.ins (K := N.K) (C := C) (fs := fs) (ds := ds') (F := upd F' x (.ins C dx' fs)) upd_same (h3.mono b6)
  rw [h2] at this
  exact this
/-- C(e, ..) raises -/
theorem de_makeX {C' : Addr} {μ0 : List M} (g : Go X N W n) (ci : Ci X.prog X.w X.K X.mg X.base k C x dd R) (ha : DA X N W δ μ (e :: es) ss μ1) (hR : R (.l μ1.length :: (ss ++ dd.map S.p)) (μ1 ++ [.obj C [] []]) (.x C' d) μ0) (ht : μ2 = μ0.take μ1.length)
    (hk : k + 1 ≤ n := by decide) (hg : Gl X x := by rfl) (hdb : (x == ("__debug__" : Str)) = false := by decide)
    (he : starEach (e :: es) X.env = (false, eval e X.env) :: starEach es X.env := by rfl) (hpl : (backTo pos (starEach es X.env)).any (·.1) = false := by rfl) : DE X N W δ μ (.Call (.Name x p) (e :: es) [] pos) (.x C' d) μ2 := by
  subst ht
  obtain ⟨f, fd, ps, ds, dvs, Fo, Mk, hb, hd, rd⟩ := ci.ex
  refine ⟨fun pins s σ H Q I ⟨F, A, R0, q⟩ => ?_⟩
  refine wpAny_Call_Name_kw (ld_glob I hg ci.at_ ?_ hdb)
  refine PySem.W.callWith_K (h₀ := X.base) I.ok.mod.kin Mk.kp (thn (ha.run pos pins s σ H (fun vs H' => ∃ F' A', Same F F' ∧ A <+: A' ∧ Rl N F' A' H' σ δ μ1 ∧ RepSs N.K F' A' vs ss) I ⟨F, A, R0, fun vs F' A' H' h1 h2 h3 h4 => ⟨F', A', h1, h2, h3, h4⟩⟩) fun us s1 ⟨vs, H1, I1, r1, F1, A1, e1, p1, R1, rv⟩ => ⟨I1.kIn, ?_⟩) he hpl
  have nx : H1 (s1.heap.objs.size + 1) = none := I1.hok.fresh (Nat.le_succ _)
  have ndx : H1 s1.heap.objs.size = none := I1.hok.fresh (Nat.le_refl _)
  have ne : s1.heap.objs.size ≠ s1.heap.objs.size + 1 := Nat.ne_of_lt (Nat.lt_succ_self _)
  have hK := g.hK
  have hq : spD X.K R (V.ref (s1.heap.objs.size + 1) :: (vs ++ dvs)) (upd (upd H1 s1.heap.objs.size (.own (s1.heap.objs.size + 1))) (s1.heap.objs.size + 1) (.ins C s1.heap.objs.size [])) (fun _ _ => False) (WE W σ) := by
    rw [← hK] at rd ⊢
    refine make_in (r := .x C' d) R1 (rv.append (of_reps (rd F1))) hR nx ndx ne fun dx' v F' A' H' hq h1 h2 => ?_
    obtain ⟨b1, b2, b3, b4⟩ := made_back R1 nx ndx ne hq
    exact q dx' v F' _ H' (e1.trans hq.base) (p1.trans b2) (R1.to hq.base b2 b1) h1 h2
  have I2 := Inv.made (C := C) I1
  have r2 : Vals (V.ref (s1.heap.objs.size + 1) :: (vs ++ dvs)) (Value.ref (s1.heap.objs.size + 1) :: (us ++ ds)) := .cons rfl (r1.append hd)
  have hl : (Value.ref (s1.heap.objs.size + 1) :: us ++ ds).length = ps.length := by
    have e := r2.length
    rw [Fo.len _ _ _ _ hq] at e
    exact e.symm
  refine wpAny_call (make_map (f := f) I1.kIn Mk.makes Mk.init (beq_iff_eq.mp Mk.fn) (codeAny_mono (Fo.run _ X.stack _ _ ⟨Value.ref (s1.heap.objs.size + 1) :: us, []⟩ (Value.ref (s1.heap.objs.size + 1) :: (us ++ ds)) _ _ (WE W σ) ((g.room.mono hk).make C us [])
    (I2.env0.make C us []) (hb _ (Value.ref (s1.heap.objs.size + 1) :: us) I2.kIn hl) r2 hq) fun r s' hq' => ?_))
  cases r with
  | error e => exact passAt g.tk σ pins _ _ e s' I2 hq'
  | ok fl =>
    cases fl with
    | ret u =>
      obtain ⟨_, _, _, _, _, _, _, z⟩ := hq'
      exact z.elim
    | next => exact False.elim hq'
    | brk => exact False.elim hq'
    | cont => exact False.elim hq'
/-- o.f = e, a new attribute of what is being made -/
theorem putF_new {f : Str} {v : V} : ∀ {fs : List (Str × V)}, f ∉ fs.map (·.1) → putF f v fs = fs ++ [(f, v)]
  | [], _ => rfl
  | (k, w) :: r, h => by
    have h1 : k ≠ f := fun z => h (by rw [← z]; exact List.mem_cons_self)
    rw [show putF f v ((k, w) :: r) = (if k = f then (k, v) :: r else (k, w) :: putF f v r) from rfl, if_neg h1, putF_new fun z => h (List.mem_cons_of_mem _ z)]
    rfl
theorem Reps.snoc {K : PySem.W.Frag} {F : Hp} {vs : List V} {ds : List D} {v : V} {d : D} (h : Reps K F vs ds) (r : Rep K F v d) : Reps K F (vs ++ [v]) (ds ++ [d]) := h.append (.cons r .nil)
theorem ds_fldNew {pos' : Pos} {j : Nat} {ns : List Str} {ds : List D} (hv : DE X N W δ μ e (.v (.p d)) μ1) (ho : DE X N W δ μ1 o (.v (.l j)) μ2) (c : Cls X.K C) (nf : NoAttr X.K C f) (hm : μ2[j]? = some (.obj C ns ds)) (hn : f ∉ ns := by decide) (hl : ns.length < 900 := by decide)
    (hs : swapsWith e (some (.Attribute o f pos')) pos.line X.env = pure false := by rfl) : DS X N W δ μ (.Assign [.Attribute o f pos'] e pos) (.nx δ (μ2.set j (.obj C (ns ++ [f]) (ds ++ [d])))) :=
  PS.imp (ps_fld ho hv hs) fun K σ H ⟨F, A, R0, q⟩ => ⟨F, A, R0, fun v F1 A1 H1 e1 p1 R1 rv => ⟨F1, A1, R1, fun x F2 A2 H2 e2 p2 R2 rx => by
    obtain ⟨a, rfl, ha⟩ := rx
    have rv2 : Rep N.K F2 v d := Rep.mono e2 rv
    obtain ⟨dx, fs, h1, h2, h3⟩ := R2.rc.mus j a _ ha hm
    subst h2
    refine ⟨a, C, dx, fs, rfl, h1, c, nf, by rw [List.length_map] at hl; omega, ?_⟩
    rw [putF_new hn]
    refine q σ F2 A2 _ (e1.trans e2) (p1.trans p2) (R2.to (Same.refl _) (List.prefix_refl _) (R2.rc.write ha hm trivial ⟨dx, fs ++ [(f, v)], upd_same, by simp, ?_⟩))
    rw [List.map_append]
    exact h3.snoc rv2⟩⟩
end
/-! ## a def by its body -/
def starts (Nn : List Str) (ss : List S) : List (Option S) := ss.map some ++ List.replicate (Nn.length - ss.length) none
inductive Fit (n0 : Nat) : Os → Rx → List M → Prop
  | rt {s μ} : Fit n0 (.rt s μ) (.v s) μ
  | rtT {d μ n} : n0 ≤ n → Fit n0 (.rt (.p d) μ) (.v (.p d)) (μ.take n)
  | nx {δ μ} : Fit n0 (.nx δ μ) (.v (.p .non)) μ
  | nxT {δ μ n} : n0 ≤ n → Fit n0 (.nx δ μ) (.v (.p .non)) (μ.take n)
  | xx {C d δ μ} : Fit n0 (.xx C d δ μ) (.x C d) μ
  | xxT {C d δ μ n} : n0 ≤ n → Fit n0 (.xx C d δ μ) (.x C d) (μ.take n)
theorem start_slots {N : En} {F : Hp} {A : List Addr} {vs : List V} {ss : List S} (Nn : List Str) (r : RepSs N.K F A vs ss) : (starts Nn ss).length = (L2.start Nn vs).length ∧ ∀ (i : Nat) (s : S), (starts Nn ss)[i]? = some (some s) → ∃ v, (L2.start Nn vs)[i]? = some (some v) ∧ RepS N.K F A v s := by
  have hl := r.length
  refine ⟨by simp [starts, L2.start, hl], fun i s h => ?_⟩
  unfold starts at h
  by_cases hi : i < ss.length
  · rw [List.getElem?_append_left (by simpa using hi), List.getElem?_map] at h
    have key : ∀ {vs : List V} {ss : List S}, RepSs N.K F A vs ss → ∀ (i : Nat) (s : S), (ss[i]?).map some = some (some s) → ∃ v, vs[i]? = some v ∧ RepS N.K F A v s := by
      intro vs ss r
      induction r with
      | nil => intro i s e; simp at e
      | cons a b ih =>
        intro i s e
        cases i with
        | zero => simp at e; subst e; exact ⟨_, rfl, a⟩
        | succ i =>
          obtain ⟨v, h1, h2⟩ := ih i s (by simpa using e)
          exact ⟨v, by simpa using h1, h2⟩
    obtain ⟨v, h1, h2⟩ := key r i s h
    refine ⟨v, ?_, h2⟩
    unfold L2.start
    have hv : i < (vs.map some).length := by simpa [hl] using hi
    rw [List.getElem?_append_left hv, List.getElem?_map, h1]
    rfl
  · rw [List.getElem?_append_right (by simpa using hi), List.getElem?_replicate] at h
    split at h <;> cases h
theorem fn_D {P : Program} {w : World} {K : PySem.W.Frag} {mg : Str → Option Value} {base : Heap} {x qual : Str} {st : Stmt} {f : Addr} {fd : FuncData} {Nn ps : List Str} {k : Nat} {R : Rel} (F : Fun K x qual st f fd) (Sc : FnScope Nn ps (defScope st)) (hlen : ∀ ss μ r μ', R ss μ r μ' → ss.length = ps.length)
    (body : ∀ (cdv : Value) (A : Around) (outer : List Env) (s : Shared) (H : Hp) (E : XK) (N : En) (W : WX) (ss : List S) (μ : List M) (r : Rx) (μ' : List M), Go (cxOf (L2.CX P w) P w K mg base Nn qual (defScope st) f cdv A outer s H E) N W k → N.A0.length = μ.length → R ss μ r μ' →
      ∃ o, DSs (cxOf (L2.CX P w) P w K mg base Nn qual (defScope st) f cdv A outer s H E) N W (starts Nn ss) μ (defBody st) o ∧ Fit μ.length o r μ') :
    FnOk P w K mg base (L2.CX P w) (k + 1) f fd ps (spD K R) := by
  refine F.okX Sc (fun vs H Q E h => ?_) (fun cdv A outer s H vs Q E hr h => ?_)
  · obtain ⟨F0, A0, ss, μ, r, μ', hR, _, rv, _⟩ := h
    rw [rv.length]
    exact hlen _ _ _ _ hR
  · obtain ⟨F0, A0, ss, μ, r, μ', hR, rc, rv, hq⟩ := h
    have g : Go (cxOf (L2.CX P w) P w K mg base Nn qual (defScope st) f cdv A outer s H E) ⟨K, H, F0, A0⟩ (fun cls d _ H => E cls d H) k :=
      ⟨takes_of rfl rfl rfl rfl, rfl, rfl, hr, passes_of rfl, Sc.nd⟩
    have h0 : A0.length = μ.length := rc.len
    obtain ⟨o, hd, fit⟩ := body cdv A outer s H E ⟨K, H, F0, A0⟩ _ ss μ r μ' g h0 hR
    refine ⟨_, hd, F0, A0, ⟨rc, (start_slots (N := ⟨K, H, F0, A0⟩) Nn rv).1, (start_slots (N := ⟨K, H, F0, A0⟩) Nn rv).2⟩, ?_⟩
    · cases fit with
      | rt => exact fun v F' A' H' e p rc' rv' => hq v F' A' H' rc' rv'
      | rtT hn => exact fun v F' A' H' e p rc' rv' => hq v F' _ H' (rc'.trim (by show A0.length ≤ _; omega)) rv'
      | nx => exact fun σ' F' A' H' e p R' => hq .non F' A' H' R'.rc .non
      | nxT hn => exact fun σ' F' A' H' e p R' => hq .non F' _ H' (R'.rc.trim (by show A0.length ≤ _; omega)) .non
      | xx => exact fun σ' dx v F' A' H' e p R' h1 h2 => hq dx v F' A' H' R'.rc h1 h2
      | xxT hn => exact fun σ' dx v F' A' H' e p R' h1 h2 => hq dx v F' _ H' (R'.rc.trim (by show A0.length ≤ _; omega)) h1 h2
end Dl
set_option Elab.async false
set_option linter.all false
set_option maxRecDepth 100000
set_option maxHeartbeats 4000000
set_option autoImplicit false
namespace Dl
open PySem PySem.Spec PyProof.Rows L2
/-! ## what is walked -/
/-- an item comes: as it stands, or in a new tuple -/
def ItemAt (K : PySem.W.Frag) (F H : Hp) (x : V) (H' : Hp) (d : D) : Prop :=
  (H' = H ∧ Rep K F x d) ∨ ∃ T vs es, x = .ref T ∧ H T = none ∧ H' = upd H T (.tup vs) ∧ d = .tup es ∧ Reps K F vs es
abbrev Yl (K : PySem.W.Frag) (J : It) (F : Hp) (ds : List D) : Prop := Walk J ds.length (fun H => Same F H) (fun i H x H' => ∃ d, ds[i]? = some d ∧ ItemAt K F H x H' d)
theorem Yl.mono {K : PySem.W.Frag} {J : It} {F F' : Hp} {ds : List D} (y : Yl K J F ds) (e : Same F F') : Yl K J F' ds :=
  Walk.mono y (fun H h => e.trans h) fun i H x H' _ _ ⟨d, h1, h2⟩ => ⟨d, h1, by
    rcases h2 with ⟨a, b⟩ | ⟨T, vs, es, a, b, c, d, r⟩
    · exact .inl ⟨a, b.mono e⟩
    · exact .inr ⟨T, vs, es, a, b, c, d, r.mono e⟩⟩
/-- behind an item -/
theorem Rl.item {N : En} {F : Hp} {A : List Addr} {H H' : Hp} {σ : L2.St} {δ : List (Option S)} {μ : List M} {x : V} {d : D} (R : Rl N F A H σ δ μ) (h : ItemAt N.K F H x H' d) : ∃ F', Same F F' ∧ Rl N F' A H' σ δ μ ∧ Rep N.K F' x d := by
  rcases h with ⟨rfl, r⟩ | ⟨T, vs, es, rfl, nT, rfl, rfl, r⟩
  · exact ⟨F, Same.refl _, R, r⟩
  · have sm := same_updN (o := .tup vs) (R.rc.fresh nT).2.1
    exact ⟨_, sm, R.to sm (List.prefix_refl _) (R.rc.frozen nT _), .tup (SqT.of upd_same) (r.mono sm)⟩
def tI (N : En) (W : WX) (δ : List (Option S)) (μ : List M) (ds : List D) (μ' : List M) : TI := fun σ H Rk => ∃ F A, Rl N F A H σ δ μ ∧ ∀ J F' A' H', Same F F' → A <+: A' → Rl N F' A' H' σ δ μ' → Yl N.K J F' ds → Rk J H'
def DI (X : Cx) (N : En) (W : WX) (δ : List (Option S)) (μ : List M) (tg iter : Expr) (ds : List D) (μ' : List M) : Prop := PI X tg iter (tI N W δ μ ds μ')
theorem PI.imp {X : Cx} {tg iter : Expr} {t t' : TI} (h : PI X tg iter t) (w : ∀ σ H Q, t' σ H Q → t σ H Q) : PI X tg iter t' := ⟨fun p s σ H Q I q => h.run p s σ H Q I (w σ H Q q)⟩
theorem rep_lst {K : PySem.W.Frag} {F : Hp} {v : V} {ds : List D} (h : Rep K F v (.lst ds)) : ∃ a vs, v = .ref a ∧ F a = some (.lst vs) ∧ Reps K F vs ds := by
  generalize hd : D.lst ds = d at h
  cases h with
  | lst h1 h2 => cases hd; exact ⟨_, _, rfl, h1, h2⟩
  | _ => cases hd
theorem rep_tup {K : PySem.W.Frag} {F : Hp} {v : V} {ds : List D} (h : Rep K F v (.tup ds)) : ∃ a vs, v = .ref a ∧ SqT K F a vs ∧ Reps K F vs ds := by
  generalize hd : D.tup ds = d at h
  cases h with
  | tup h1 h2 => cases hd; exact ⟨_, _, rfl, h1, h2⟩
  | _ => cases hd
theorem rep_exc {K : PySem.W.Frag} {F : Hp} {v : V} {C : Addr} {d : D} (h : Rep K F v (.exc C d)) : ∃ a dx w, v = .ref a ∧ F a = some (ExO C dx a) ∧ F dx = some (.xd [("value", w)]) ∧ Rep K F w d := by
  generalize hd : D.exc C d = d' at h
  cases h with
  | exc h1 h2 h3 => cases hd; exact ⟨_, _, _, rfl, h1, h2, h3⟩
  | _ => cases hd
/-- what a datum does to the slots -/
abbrev As := D → List (Option S) → Option (List (Option S))
inductive Loop (X : Cx) (N : En) (W : WX) (f : As) (body : List Stmt) : List D → List (Option S) → List M → Os → Prop
  | nil {δ μ} : Loop X N W f body [] δ μ (.nx δ μ)
  | next {d ds δ μ δt δ1 μ1 o} : f d δ = some δt → DSs X N W δt μ body (.nx δ1 μ1) → Loop X N W f body ds δ1 μ1 o → Loop X N W f body (d :: ds) δ μ o
  | cont {d ds δ μ δt δ1 μ1 o} : f d δ = some δt → DSs X N W δt μ body (.ct δ1 μ1) → Loop X N W f body ds δ1 μ1 o → Loop X N W f body (d :: ds) δ μ o
  | brk {d ds δ μ δt δ1 μ1} : f d δ = some δt → DSs X N W δt μ body (.bk δ1 μ1) → Loop X N W f body (d :: ds) δ μ (.nx δ1 μ1)
  | ret {d ds δ μ δt s μ1} : f d δ = some δt → DSs X N W δt μ body (.rt s μ1) → Loop X N W f body (d :: ds) δ μ (.rt s μ1)
  | exc {d ds δ μ δt C y δ1 μ1} : f d δ = some δt → DSs X N W δt μ body (.xx C y δ1 μ1) → Loop X N W f body (d :: ds) δ μ (.xx C y δ1 μ1)
section
variable {X : Cx} {N : En} {W : WX} {n : Nat} {δ δ' δ1 δ2 : List (Option S)} {μ μ' μ1 μ2 μ3 : List M} {e a b c o tg iter : Expr} {es : List Expr} {ss : List S} {pos p apos : Pos} {d : D} {s s1 s2 : S} {r : Rx} {ds : List D}
theorem yl_list {K : PySem.W.Frag} {F : Hp} {a : Addr} {vs : List V} (h : F a = some (.lst vs)) (r : Reps K F vs ds) : Yl K (Itl K a) F ds := by
  unfold Yl
  rw [← r.length]
  exact Walk.mono (walk_list (xs := vs)) (fun H e => SqL.of (e _ _ h)) fun i H x H' _ _ ⟨e, hx⟩ => by
    obtain ⟨d, h1, h2⟩ := r.get' hx
    exact ⟨d, h1, .inl ⟨e, h2⟩⟩
theorem yl_tup {K : PySem.W.Frag} {F : Hp} {a : Addr} {vs : List V} (h : SqT K F a vs) (r : Reps K F vs ds) : Yl K (Itt K a) F ds := by
  unfold Yl
  rw [← r.length]
  exact Walk.mono (walk_tup (xs := vs)) (fun H e => same_sqT e h) fun i H x H' _ _ ⟨e, hx⟩ => by
    obtain ⟨d, h1, h2⟩ := r.get' hx
    exact ⟨d, h1, .inl ⟨e, h2⟩⟩
theorem di_lst (g : Go X N W n) (h : DE X N W δ μ iter (.v (.p (.lst ds))) μ1) : DI X N W δ μ tg iter ds μ1 :=
  PI.imp (pi_list h) fun σ H Rk ⟨F, A, R, k⟩ => ⟨F, A, R, fun v F1 A1 H1 e1 p1 R1 rv => by
    have hK := g.hK
    rw [← hK]
    obtain ⟨a, vs, rfl, h1, h2⟩ := rep_lst rv
    exact ⟨a, rfl, ⟨vs, SqL.of (R1.rc.sub _ _ h1)⟩, k _ F1 A1 H1 e1 p1 R1 (yl_list h1 h2)⟩⟩
theorem di_tup (g : Go X N W n) (h : DE X N W δ μ iter (.v (.p (.tup ds))) μ1) : DI X N W δ μ tg iter ds μ1 :=
  PI.imp (pi_tup h) fun σ H Rk ⟨F, A, R, k⟩ => ⟨F, A, R, fun v F1 A1 H1 e1 p1 R1 rv => by
    have hK := g.hK
    rw [← hK]
    obtain ⟨a, vs, rfl, h1, h2⟩ := rep_tup rv
    exact ⟨a, rfl, ⟨vs, same_sqT R1.rc.sub h1⟩, k _ F1 A1 H1 e1 p1 R1 (yl_tup h1 h2)⟩⟩
def rangeD (lo : Int) (n : Nat) : List D := (List.range n).map fun i => D.int (lo + (i : Nat))
theorem yl_range {K : PySem.W.Frag} {F : Hp} {lo : Int} {n : Nat} : Yl K (Itr lo n) F (rangeD lo n) := by
  unfold Yl
  rw [show (rangeD lo n).length = n from by simp [rangeD]]
  exact Walk.mono (walk_range (lo := lo) (n := n)) (fun _ _ => trivial) fun i H x H' hi _ ⟨e, hx⟩ => by
    refine ⟨.int (lo + i), ?_, .inl ⟨e, by rw [hx]; exact .int _⟩⟩
    rw [rangeD, List.getElem?_map, List.getElem?_range hi]
    rfl
theorem di_range1 {j : Int} (h : DA X N W δ μ [a] [.p (.int j)] μ1) (hm : X.mg "range" = none) (h1 : -(2 ^ 62) ≤ j ∧ j < 2 ^ 62) (hg : Gl X "range" := by rfl) (hs : starEach [a] X.env = [(false, eval a X.env)] := by rfl) : DI X N W δ μ tg (.Call (.Name "range" p) [a] [] pos) (rangeD 0 j.toNat) μ1 :=
  PI.imp (pi_range1 hg hm h hs) fun σ H Rk ⟨F, A, R, k⟩ => ⟨F, A, R, fun vs F1 A1 H1 e1 p1 R1 rv => by
    cases rv with
    | cons r1 r2 =>
      cases r2
      have r1' : Rep N.K F1 _ (.int j) := r1
      cases r1'
      exact ⟨j, rfl, h1.1, h1.2, k _ F1 A1 H1 e1 p1 R1 yl_range⟩⟩
def chars (z : Str) : List D := z.cps.toList.map fun c => D.str ⟨#[c]⟩
theorem yl_str {K : PySem.W.Frag} {F : Hp} {z : Str} : Yl K (Its z) F (chars z) := by
  unfold Yl
  rw [show (chars z).length = z.cps.size from by simp [chars]]
  exact Walk.mono (walk_str (z := z)) (fun _ _ => trivial) fun i H x H' hi _ ⟨e, c, h1, hx⟩ => by
    refine ⟨.str ⟨#[c]⟩, ?_, .inl ⟨e, by rw [hx]; exact .str _⟩⟩
    rw [chars, List.getElem?_map, Array.getElem?_toList, h1]
    rfl
theorem di_str {z : Str} (h : DE X N W δ μ iter (.v (.p (.str z))) μ1) : DI X N W δ μ tg iter (chars z) μ1 :=
  PI.imp (pi_str h) fun σ H Rk ⟨F, A, R, k⟩ => ⟨F, A, R, fun v F1 A1 H1 e1 p1 R1 rv => by
    have rv' : Rep N.K F1 _ (.str z) := rv
    cases rv'
    exact ⟨z, rfl, k _ F1 A1 H1 e1 p1 R1 yl_str⟩⟩
/-! ## targets -/
def tGd (N : En) (f : As) (ix : List Nat) : TG := fun v σ H Q => ∃ F A δ μ d δ', Rl N F A H σ δ μ ∧ Rep N.K F v d ∧ f d δ = some δ' ∧ ∀ σ', wipe σ' ix = wipe σ ix → Rl N F A H σ' δ' μ → Q σ' H
def DG (X : Cx) (N : En) (tg : Expr) (f : As) (ix : List Nat) : Prop := PG X tg (tGd N f ix)
theorem wipe_get : ∀ {vs : List Nat} {σ : L2.St} {i : Nat}, (wipe σ vs)[i]? = if i ∈ vs then (σ[i]?).map (fun _ => none) else σ[i]?
  | [], σ, i => by simp [wipe]
  | v :: vs, σ, i => by
    unfold wipe
    by_cases h : v = i
    · subst h
      rw [if_pos List.mem_cons_self]
      by_cases hl : v < σ.length
      · rw [List.getElem?_set_self (by rw [wipe_length]; exact hl), List.getElem?_eq_getElem hl]
        rfl
      · rw [List.getElem?_eq_none (by simp [wipe_length]; omega), List.getElem?_eq_none (by omega)]
        rfl
    · rw [List.getElem?_set_ne h, wipe_get]
      by_cases hi : i ∈ vs
      · rw [if_pos hi, if_pos (List.mem_cons_of_mem _ hi)]
      · rw [if_neg hi, if_neg (by
          intro z
          rcases List.mem_cons.mp z with z | z
          · exact h z.symm
          · exact hi z)]
theorem wipe_sub {σ σ' : L2.St} {ix vs : List Nat} (h : ∀ i ∈ ix, i ∈ vs) (e : wipe σ' ix = wipe σ ix) : wipe σ' vs = wipe σ vs := by
  have hl : σ'.length = σ.length := by
    have := congrArg List.length e
    rwa [wipe_length, wipe_length] at this
  apply List.ext_getElem?
  intro i
  rw [wipe_get, wipe_get]
  by_cases hi : i ∈ vs
  · rw [if_pos hi, if_pos hi]
    by_cases hlt : i < σ.length
    · rw [List.getElem?_eq_getElem hlt, List.getElem?_eq_getElem (by omega)]
      rfl
    · rw [List.getElem?_eq_none (by omega), List.getElem?_eq_none (by omega)]
  · rw [if_neg hi, if_neg hi]
    have q := congrArg (fun l : L2.St => l[i]?) e
    simp only [wipe_get] at q
    have hx : i ∉ ix := fun z => hi (h i z)
    rw [if_neg hx, if_neg hx] at q
    exact q
theorem wipe_trans {σ σ1 σ2 : L2.St} {ix jx : List Nat} (a : wipe σ1 ix = wipe σ ix) (b : wipe σ2 jx = wipe σ1 jx) : wipe σ2 (ix ++ jx) = wipe σ (ix ++ jx) :=
  (wipe_sub (fun i h => List.mem_append_right _ h) b).trans (wipe_sub (fun i h => List.mem_append_left _ h) a)
def asName (i : Nat) : As := fun d δ => some (δ.set i (some (.p d)))
def asAll : List As → List D → List (Option S) → Option (List (Option S))
  | [], [], δ => some δ
  | f :: fs, d :: ds, δ => (f d δ).bind fun δ' => asAll fs ds δ'
  | _, _, _ => none
def asTup (fs : List As) : As := fun d δ => match d with
  | .tup ds => asAll fs ds δ
  | _ => none
theorem PG.imp {X : Cx} {tg : Expr} {t t' : TG} (h : PG X tg t) (w : ∀ v σ H Q, t' v σ H Q → t v σ H Q) : PG X tg t' := ⟨fun p s σ H v u Q I r q => h.run p s σ H v u Q I r (w v σ H Q q)⟩
theorem PGs.imp {X : Cx} {ts : List Expr} {t t' : TGs} (h : PGs X ts t) (w : ∀ v σ H Q, t' v σ H Q → t v σ H Q) : PGs X ts t' := ⟨fun p s σ H v u Q I r q => h.run p s σ H v u Q I r (w v σ H Q q)⟩
theorem dg_name (i : Nat) {x : Str} (hN : X.N.Nodup) (hi : X.N[i]? = some x := by rfl) (hx : Loc X.env.scope x := by first | exact Or.inl rfl | exact Or.inr rfl) (hf : X.fn x = true ∨ X.env.scope.names.lookup x = some .local := by first | exact .inl rfl | exact .inr rfl) : DG X N (.Name x pos) (asName i) [i] :=
  PG.imp (pg_name (i := i) hN hi hx hf) fun v σ H Q ⟨F, A, δ, μ, d, δ', R, rv, hf, k⟩ => by
    cases hf
    exact k _ (by show (σ.set i (some v)).set i none = σ.set i none; rw [List.set_set]) (R.set (s := .p d) rv)
def tGds (N : En) (fs : List As) (ix : List Nat) : TGs := fun vs σ H Q => ∃ F A δ μ ds δ', Rl N F A H σ δ μ ∧ Reps N.K F vs ds ∧ asAll fs ds δ = some δ' ∧ ∀ σ', wipe σ' ix = wipe σ ix → Rl N F A H σ' δ' μ → Q σ' H
def DGs (X : Cx) (N : En) (ts : List Expr) (fs : List As) (ix : List Nat) : Prop := PGs X ts (tGds N fs ix)
theorem dgs_nil : DGs X N [] [] [] := PGs.imp pgs_nil fun vs σ H Q ⟨F, A, δ, μ, ds, δ', R, rv, hf, k⟩ => by
  cases rv with
  | nil => cases hf; exact ⟨rfl, k σ rfl R⟩
  | cons _ _ => cases hf
theorem dgs_cons {ts : List Expr} {f : As} {fs : List As} {ix jx : List Nat} (h : DG X N e f ix) (h' : DGs X N ts fs jx) (hs : (assignEach (e :: ts) X.env).map (·.2) = assign e X.env :: (assignEach ts X.env).map (·.2) := by rfl) : DGs X N (e :: ts) (f :: fs) (ix ++ jx) :=
  PGs.imp (pgs_cons h h' hs) fun vs σ H Q ⟨F, A, δ, μ, ds, δ', R, rv, hf, k⟩ => by
    cases rv with
    | nil => cases hf
    | @cons v d vs ds r1 r2 =>
      have hf' : (f d δ).bind (fun δ' => asAll fs ds δ') = some δ' := hf
      cases hfd : f d δ with
      | none => rw [hfd] at hf'; cases hf'
      | some δ1 =>
        rw [hfd] at hf'
        exact ⟨v, vs, rfl, F, A, δ, μ, d, δ1, R, r1, hfd, fun σ1 w1 R1 => ⟨F, A, δ1, μ, ds, δ', R1, r2, hf', fun σ2 w2 R2 => k σ2 (wipe_trans w1 w2) R2⟩⟩
theorem asAll_len : ∀ {fs : List As} {ds : List D} {δ δ' : List (Option S)}, asAll fs ds δ = some δ' → ds.length = fs.length
  | [], [], _, _, _ => rfl
  | [], _ :: _, _, _, h => by cases h
  | _ :: _, [], _, _, h => by cases h
  | f :: fs, d :: ds, δ, δ', h => by
    have hf' : (f d δ).bind (fun δ' => asAll fs ds δ') = some δ' := h
    cases hfd : f d δ with
    | none => rw [hfd] at hf'; cases hf'
    | some δ1 =>
      rw [hfd] at hf'
      rw [List.length_cons, List.length_cons, asAll_len hf']
theorem dg_tup {ts : List Expr} {kk : Nat} {fs : List As} {ix : List Nat} (h : DGs X N ts fs ix) (hK : N.K = X.K) (hc : X.calm = true) (hn : (assignEach ts X.env).length = fs.length := by rfl) (hst : (assignEach ts X.env).findIdx? (·.1) = none := by rfl) : DG X N (.Tuple ts kk pos) (asTup fs) ix :=
  PG.imp (pg_tup hc h hn hst) fun v σ H Q ⟨F, A, δ, μ, d, δ', R, rv, hf, k⟩ => by
    cases d with
    | tup ds =>
      obtain ⟨a, vs, rfl, h1, h2⟩ := rep_tup rv
      refine ⟨a, vs, rfl, ?_, ?_, F, A, δ, μ, ds, δ', R, h2, hf, k⟩
      · rw [← hK]; exact same_sqT R.rc.sub h1
      · rw [h2.length]; exact asAll_len hf
    | _ => cases hf
/-- target = e, by a target's rule -/
theorem ds_asg {f : As} {ix : List Nat} (h : DE X N W δ μ e (.v (.p d)) μ1) (hg : DG X N tg f ix) (hf : f d δ = some δ1) (hs : swapsWithSole [tg] e pos.line X.env = pure false := by rfl) (hw : swappedStores [tg] e X.env = pure none := by rfl)
    (h1 : (assignEach [tg] X.env).map (·.2) = [assign tg X.env] := by rfl) : DS X N W δ μ (.Assign [tg] e pos) (.nx δ1 μ1) :=
  PS.imp (ps_asg h hg hs hw h1) fun K σ H ⟨F, A, R, k⟩ => ⟨F, A, R, fun v F1 A1 H1 e1 p1 R1 rv => ⟨F1, A1, δ, μ1, d, δ1, R1, rv, hf, fun σ' _ R' => k σ' F1 A1 H1 e1 p1 R'⟩⟩
/-! ## for -/
theorem ds_for {body : List Stmt} {f : As} {ix : List Nat} {o : Os} (g : Go X N W n) (hi : DI X N W δ μ tg iter ds μ1) (hg : DG X N tg f ix) (hl : Loop X N W f body ds δ μ1 o) (hs : ∀ x, foldedSetIterable iter X.env x = pure x := by intro _; rfl) : DS X N W δ μ (.For tg iter body [] pos) o := by
  have hb : PSs X body (fun K σ H => ∃ δt μt o1, DSs X N W δt μt body o1 ∧ tDS N W δt μt o1 K σ H) := ⟨fun p s σ H K I ⟨δt, μt, o1, hd, q⟩ => hd.run p s σ H K I q⟩
  refine PS.imp (ps_for g.po g.calm hi hg hb hs) fun K σ H ⟨F, A, R, k⟩ => ⟨F, A, R, fun J F1 A1 H1 e1 p1 R1 y => ?_⟩
  have k1 := k.to e1 p1
  refine ⟨fun i m σ' H' => i ≤ ds.length ∧ m = ds.length - i ∧ ∃ F' A' δ' μ', Same F1 F' ∧ A1 <+: A' ∧ Rl N F' A' H' σ' δ' μ' ∧ Loop X N W f body (ds.drop i) δ' μ' o, ⟨ds.length, Nat.zero_le _, by simp, F1, A1, δ, μ1, Same.refl _, List.prefix_refl _, R1, by simpa using hl⟩, ?_⟩
  rintro i m σ' H' ⟨hi, rfl, F', A', δ', μ', e', p', R', hL⟩
  have k2 := k1.to e' p'
  by_cases hlt : i < ds.length
  · refine .inr ⟨y.goes i H' hlt (e'.trans R'.rc.sub), fun σ2 H2 => ∃ F2 A2 δ2 μ2, Same F1 F2 ∧ A1 <+: A2 ∧ Rl N F2 A2 H2 σ2 δ2 μ2 ∧ Loop X N W f body (ds.drop (i + 1)) δ2 μ2 o, fun σ2 H2 ⟨F2, A2, δ2, μ2, a, b, c, d⟩ => ⟨ds.length - (i + 1), by omega, hlt, rfl, F2, A2, δ2, μ2, a, b, c, d⟩, fun x H2 hy => ?_⟩
    obtain ⟨d, hd, it⟩ := (y.mono e').yields i H' x H2 hlt R'.rc.sub hy
    obtain ⟨F2, e2, R2, rx⟩ := R'.item it
    rw [List.drop_eq_getElem_cons hlt] at hL
    have hd' : ds[i] = d := by
      rw [List.getElem?_eq_getElem hlt] at hd
      exact Option.some.inj hd
    rw [hd'] at hL
    have k3 := k2.to e2 (List.prefix_refl _)
    cases hL with
    | next hf hb hL => exact ⟨F2, A', δ', μ', d, _, R2, rx, hf, fun σ3 _ R3 => ⟨_, _, _, hb, F2, A', R3, fun σ4 F4 A4 H4 e4 p4 R4 => ⟨F4, A4, _, _, (e'.trans e2).trans e4, p'.trans p4, R4, hL⟩⟩⟩
    | cont hf hb hL => exact ⟨F2, A', δ', μ', d, _, R2, rx, hf, fun σ3 _ R3 => ⟨_, _, _, hb, F2, A', R3, fun σ4 F4 A4 H4 e4 p4 R4 => ⟨F4, A4, _, _, (e'.trans e2).trans e4, p'.trans p4, R4, hL⟩⟩⟩
    | brk hf hb => exact ⟨F2, A', δ', μ', d, _, R2, rx, hf, fun σ3 _ R3 => ⟨_, _, _, hb, F2, A', R3, fun σ4 F4 A4 H4 e4 p4 R4 => k3 σ4 F4 A4 H4 e4 p4 R4⟩⟩
    | ret hf hb => exact ⟨F2, A', δ', μ', d, _, R2, rx, hf, fun σ3 _ R3 => ⟨_, _, _, hb, F2, A', R3, k3⟩⟩
    | exc hf hb => exact ⟨F2, A', δ', μ', d, _, R2, rx, hf, fun σ3 _ R3 => ⟨_, _, _, hb, F2, A', R3, k3⟩⟩
  · have e : i = ds.length := by omega
    subst e
    refine .inl ⟨y.stops H' (e'.trans R'.rc.sub), ?_⟩
    rw [List.drop_length] at hL
    cases hL
    exact k2 σ' F' A' H' (Same.refl _) (List.prefix_refl _) R'
end
end Dl
set_option Elab.async false
set_option linter.all false
set_option maxRecDepth 100000
set_option maxHeartbeats 4000000
set_option autoImplicit false
namespace Dl
open PySem PySem.Spec PyProof.Rows L2
/-- an object that is neither frozen nor told is changed -/
theorem Rc.poke {N : En} {F : Hp} {A : List Addr} {H : Hp} {μ : List M} (r : Rc N F A H μ) {p : Addr} (hF : F p = none) (hA : p ∉ A) (h0 : N.H0 p = none) (o : HO) : Rc N F A (upd H p o) μ where
  sub := fun b x e => by
    have hb : b ≠ p := fun z => by rw [z, hF] at e; cases e
    rw [upd_ne hb]; exact r.sub b x e
  base := r.base
  new := r.new
  keep := fun a x e hA => by
    have hb : a ≠ p := fun z => by rw [z, h0] at e; cases e
    rw [upd_ne hb]; exact r.keep a x e hA
  pre := r.pre
  nd := r.nd
  len := r.len
  mus := fun j a m h1 h2 => (r.mus j a m h1 h2).mono (Same.refl _) (List.prefix_refl _) (upd_ne (ne_mem hA h1))
  fr := r.fr
/-- .. is frozen -/
theorem Rc.adopt {N : En} {F : Hp} {A : List Addr} {H : Hp} {μ : List M} (r : Rc N F A H μ) {p : Addr} (hF : F p = none) (hA : p ∉ A) (h0 : N.H0 p = none) {o : HO} (ho : H p = some o) : Rc N (upd F p o) A H μ where
  sub := fun b x e => by
    by_cases hb : b = p
    · subst hb; rw [upd_same] at e; cases e; exact ho
    · rw [upd_ne hb] at e; exact r.sub b x e
  base := r.base.trans (same_updN hF)
  new := fun a x e => by
    by_cases hb : a = p
    · subst hb; exact .inr h0
    · rw [upd_ne hb] at e; exact r.new a x e
  keep := r.keep
  pre := r.pre
  nd := r.nd
  len := r.len
  mus := fun j a m h1 h2 => (r.mus j a m h1 h2).mono (same_updN hF) (List.prefix_refl _) rfl
  fr := fun j a m h1 h2 h3 => by
    rw [upd_ne (ne_mem hA h1)]
    exact r.fr j a m h1 h2 h3
/-- .. is told as changing -/
theorem Rc.adoptM {N : En} {F : Hp} {A : List Addr} {H : Hp} {μ : List M} (r : Rc N F A H μ) {p : Addr} (hF : F p = none) (hA : p ∉ A) (h0 : N.H0 p = none) {m : M} (ok : MOk N.K F (A ++ [p]) H p m) : Rc N F (A ++ [p]) H (μ ++ [m]) where
  sub := r.sub
  base := r.base
  new := r.new
  keep := r.keep
  pre := by
    obtain ⟨B, rfl, hB⟩ := r.pre
    refine ⟨B ++ [p], List.append_assoc .., fun b hb => ?_⟩
    rcases List.mem_append.mp hb with hb | hb
    · exact hB b hb
    · rw [List.mem_singleton] at hb; subst hb; exact h0
  nd := List.nodup_append.mpr ⟨r.nd, by simp, fun a ha b hb => by
    rw [List.mem_singleton] at hb; subst hb
    intro z; subst z; exact hA ha⟩
  len := by simp [r.len]
  mus := fun j a m' h1 h2 => by
    by_cases hj : j < A.length
    · rw [List.getElem?_append_left hj] at h1
      rw [List.getElem?_append_left (by rw [← r.len]; exact hj)] at h2
      exact (r.mus j a m' h1 h2).mono (Same.refl _) (List.prefix_append _ _) rfl
    · rw [List.getElem?_append_right (by omega)] at h1
      rw [List.getElem?_append_right (by rw [← r.len]; omega), ← r.len] at h2
      have e : j - A.length = 0 := by
        have := (List.getElem?_eq_some_iff.mp h1).1
        simp at this; omega
      rw [e] at h1 h2
      simp at h1 h2
      subst h1 h2
      exact ok
  fr := fun j a m' h1 h2 h3 => by
    by_cases hj : j < A.length
    · rw [List.getElem?_append_left hj] at h1
      rw [List.getElem?_append_left (by rw [← r.len]; exact hj)] at h2
      exact r.fr j a m' h1 h2 h3
    · rw [List.getElem?_append_right (by omega)] at h1
      have e : j - A.length = 0 := by
        have := (List.getElem?_eq_some_iff.mp h1).1
        simp at this; omega
      rw [e] at h1
      simp at h1
      subst h1
      exact hF
def wipeD (δ : List (Option S)) : List Nat → List (Option S)
  | [] => δ
  | v :: vs => (wipeD δ vs).set v none
theorem wipeD_len (δ : List (Option S)) : ∀ vs : List Nat, (wipeD δ vs).length = δ.length
  | [] => rfl
  | v :: vs => by unfold wipeD; rw [List.length_set, wipeD_len δ vs]
theorem wipeD_some {δ : List (Option S)} {i : Nat} {x : S} : ∀ {vs : List Nat}, (wipeD δ vs)[i]? = some (some x) → δ[i]? = some (some x) ∧ i ∉ vs
  | [], h => ⟨h, by simp⟩
  | v :: vs, h => by
    unfold wipeD at h
    by_cases hi : v = i
    · subst hi
      by_cases hv : v < (wipeD δ vs).length
      · rw [List.getElem?_set_self hv] at h; cases h
      · rw [List.getElem?_eq_none (by simpa using hv)] at h; cases h
    · rw [List.getElem?_set_ne hi] at h
      obtain ⟨h1, h2⟩ := wipeD_some h
      exact ⟨h1, by simp only [List.mem_cons, not_or]; exact ⟨fun e => hi e.symm, h2⟩⟩
theorem Rl.wiped {N : En} {F : Hp} {A : List Addr} {H : Hp} {σ : L2.St} {δ : List (Option S)} {μ : List M} (R : Rl N F A H σ δ μ) (vs : List Nat) : Rl N F A H (wipe σ vs) (wipeD δ vs) μ :=
  ⟨R.rc, by rw [wipeD_len, wipe_length]; exact R.len, fun i s h => by
    obtain ⟨h1, h2⟩ := wipeD_some h
    obtain ⟨v, h3, h4⟩ := R.sl i s h1
    refine ⟨v, ?_, h4⟩
    rw [wipe_get, if_neg h2]
    exact h3⟩
abbrev W0 : WX := fun _ _ _ _ => False
abbrev blkX (X : Cx) (scope : Scope) (s : Shared) (H : Hp) (C : Addr) (cl : List (Str × Addr)) (fp : List Addr) : Cx := X.blk s H scope (compEnvC scope cl C X.env) fp
theorem takes00 {X : Cx} : Takes X W0 := fun _ _ x => by
  obtain ⟨_, _, _, _, _, _, _, _, _, _, _, _, _, _, _, _, z⟩ := x
  exact z.elim
theorem Go.blk {X : Cx} {N N' : En} {W : WX} {n : Nat} {scope : Scope} {s : Shared} {H : Hp} {C : Addr} {cl : List (Str × Addr)} {fp : List Addr} (g : Go X N W n) (h : N'.K = N.K) : Go (blkX X scope s H C cl fp) N' W0 n :=
  ⟨takes00, g.calm, h.trans g.hK, g.room, PassesOwn.never, g.nd⟩
inductive CmpL (P : List (Option S) → List M → Option D → List M → Prop) (f : As) (δ : List (Option S)) : List D → List M → List D → List M → Prop
  | nil {μ} : CmpL P f δ [] μ [] μ
  | keep {d ds δt μ y μ1 ys μ2} : f d δ = some δt → P δt μ (some y) μ1 → CmpL P f δ ds μ1 ys μ2 → CmpL P f δ (d :: ds) μ (y :: ys) μ2
  | drop {d ds δt μ μ1 ys μ2} : f d δ = some δt → P δt μ none μ1 → CmpL P f δ ds μ1 ys μ2 → CmpL P f δ (d :: ds) μ ys μ2
theorem CmpL.len {P : List (Option S) → List M → Option D → List M → Prop} {f : As} {δ : List (Option S)} {ds ys : List D} {μ μ' : List M} (h : CmpL P f δ ds μ ys μ') : ys.length ≤ ds.length := by
  induction h with
  | nil => exact Nat.le_refl _
  | keep _ _ _ ih => exact Nat.succ_le_succ ih
  | drop _ _ _ ih => exact Nat.le_succ_of_le ih
section
variable {X : Cx} {N : En} {W : WX} {n : Nat} {δ δ' δ1 δ2 : List (Option S)} {μ μ' μ1 μ2 μ3 : List M} {elt tg iter : Expr} {ifs : List Expr} {pos : Pos} {ds ys : List D} {scope : Scope} {own : List (Str × Nat)} {f : As} {ix : List Nat}
theorem lc_go {J : It} {F1 : Hp} {A1 : List Addr} {H1 : Hp} {σ : L2.St} {tt : TT} {te : TE} {D0 : Addr} {Qd : Hp → Prop} (hds : ds.length < sizeLine) (R1 : Rl N F1 A1 H1 σ δ μ1) (y : Yl N.K J F1 ds) (hD : H1 D0 = none) (hix : ∀ i ∈ ix, i ∈ own.map (·.2))
    (P : List (Option S) → List M → Option D → List M → Prop) (hl : CmpL P f (wipeD δ (own.map (·.2))) ds μ1 ys μ2)
    (hP : ∀ (N' : En) F A σ2 H2 δt μt r μu (Q : Option V → Hp → Prop), N'.K = N.K → Rl N' F A H2 σ2 δt μt → P δt μt r μu →
      (∀ v F' A' H', Same F F' → A <+: A' → Rl N' F' A' H' σ2 δt μu → (match r, v with | some y, some v => Rep N.K F' v y | none, none => True | _, _ => False) → Q v H') →
      tt σ2 H2 fun b H3 => if b = true then te σ2 H3 fun v H4 => Q (some v) H4 else Q none H3)
    (hq : ∀ F' A' H' vs, Same F1 F' → A1 <+: A' → Rc N F' A' H' μ2 → H' D0 = some (.lst vs) → F' D0 = none → D0 ∉ A' → Reps N.K F' vs ys → Qd H') :
    ∃ Wt : Nat → Nat → Hp → Prop, (∃ m, Wt 0 m (upd H1 D0 (.lst []))) ∧ ∀ i m H, Wt i m H →
      (J.stop i H ∧ Qd H) ∨ (J.go i H ∧ ∃ Nx : Hp → Prop, (∀ H', Nx H' → ∃ m', m' < m ∧ Wt (i + 1) m' H') ∧ ∀ x H', J.yld i H x H' → tGd N f ix x (wipe σ (own.map (·.2))) H' fun σ2 H2 => wipe σ2 (own.map (·.2)) = wipe σ (own.map (·.2)) ∧ tt σ2 H2 fun b H3 =>
        if b = true then te σ2 H3 fun y H4 => ∃ acc, H4 D0 = some (.lst acc) ∧ acc.length < sizeLine ∧ Nx (upd H4 D0 (.lst (acc ++ [y]))) else Nx H3) := by
  have h0 := R1.rc.fresh hD
  refine ⟨fun i m H => i ≤ ds.length ∧ m = ds.length - i ∧ ∃ F A μ vs acc rest, Same F1 F ∧ A1 <+: A ∧ Rc N F A H μ ∧ H D0 = some (.lst vs) ∧ F D0 = none ∧ D0 ∉ A ∧ Reps N.K F vs acc ∧ vs.length ≤ i ∧ CmpL P f (wipeD δ (own.map (·.2))) (ds.drop i) μ rest μ2 ∧ acc ++ rest = ys,
    ⟨ds.length, Nat.zero_le _, by simp, F1, A1, μ1, [], [], ys, Same.refl _, List.prefix_refl _, R1.rc.junk hD _, upd_same, h0.2.1, h0.2.2, .nil, Nat.le_refl _, by simpa using hl, rfl⟩, ?_⟩
  rintro i m H ⟨hi, rfl, F, A, μ, vs, acc, rest, e, p, R, hv, hF, hA, hr, hvl, hL, hy⟩
  by_cases hlt : i < ds.length
  · refine .inr ⟨y.goes i H hlt (e.trans R.sub), fun H' => ∃ F A μ vs acc rest, Same F1 F ∧ A1 <+: A ∧ Rc N F A H' μ ∧ H' D0 = some (.lst vs) ∧ F D0 = none ∧ D0 ∉ A ∧ Reps N.K F vs acc ∧ vs.length ≤ i + 1 ∧ CmpL P f (wipeD δ (own.map (·.2))) (ds.drop (i + 1)) μ rest μ2 ∧ acc ++ rest = ys,
      fun H' ⟨F, A, μ, vs, acc, rest, a⟩ => ⟨ds.length - (i + 1), by omega, hlt, rfl, F, A, μ, vs, acc, rest, a⟩, fun x H' hyd => ?_⟩
    obtain ⟨d, hd, it⟩ := (y.mono e).yields i H x H' hlt R.sub hyd
    have Rf : Rl N F A H σ δ μ := R1.to e p R
    have hH' : H' D0 = some (.lst vs) := by
      rcases it with ⟨rfl, _⟩ | ⟨T, ws, es, _, nT, rfl, _, _⟩
      · exact hv
      · rw [upd_ne (ne_of_none hv nT)]; exact hv
    have hF2 : ∀ F2, Rl N F2 A H' σ δ μ → True := fun _ _ => trivial
    obtain ⟨F2, e2, R2, rx, hF20⟩ : ∃ F', Same F F' ∧ Rl N F' A H' σ δ μ ∧ Rep N.K F' x d ∧ F' D0 = none := by
      rcases it with ⟨rfl, r⟩ | ⟨T, ws, es, rfl, nT, rfl, rfl, r⟩
      · exact ⟨F, Same.refl _, Rf, r, hF⟩
      · have sm := same_updN (o := .tup ws) (R.fresh nT).2.1
        exact ⟨_, sm, Rf.to sm (List.prefix_refl _) (R.frozen nT _), .tup (SqT.of upd_same) (r.mono sm), by rw [upd_ne (ne_of_none hv nT)]; exact hF⟩
    rw [List.drop_eq_getElem_cons hlt] at hL
    have hd' : ds[i] = d := by
      rw [List.getElem?_eq_getElem hlt] at hd
      exact Option.some.inj hd
    rw [hd'] at hL
    -- one element
    have key : ∀ (σ2 : L2.St) (δt : List (Option S)) (r : Option D) (μu : List M) (rest' : List D), Rl N F2 A H' σ2 δt μ → P δt μ r μu → CmpL P f (wipeD δ (own.map (·.2))) (ds.drop (i + 1)) μu rest' μ2 →
        (match r with | some y => acc ++ y :: rest' = ys | none => acc ++ rest' = ys) →
        tt σ2 H' fun b H3 => if b = true then te σ2 H3 fun y H4 => ∃ acc, H4 D0 = some (.lst acc) ∧ acc.length < sizeLine ∧ (∃ F A μ vs acc' rest, Same F1 F ∧ A1 <+: A ∧ Rc N F A (upd H4 D0 (.lst (acc ++ [y]))) μ ∧ (upd H4 D0 (.lst (acc ++ [y]))) D0 = some (.lst vs) ∧ F D0 = none ∧ D0 ∉ A ∧ Reps N.K F vs acc' ∧ vs.length ≤ i + 1 ∧ CmpL P f (wipeD δ (own.map (·.2))) (ds.drop (i + 1)) μ rest μ2 ∧ acc' ++ rest = ys)
          else ∃ F A μ vs acc rest, Same F1 F ∧ A1 <+: A ∧ Rc N F A H3 μ ∧ H3 D0 = some (.lst vs) ∧ F D0 = none ∧ D0 ∉ A ∧ Reps N.K F vs acc ∧ vs.length ≤ i + 1 ∧ CmpL P f (wipeD δ (own.map (·.2))) (ds.drop (i + 1)) μ rest μ2 ∧ acc ++ rest = ys := by
      intro σ2 δt r μu rest' R3 hPr hL' hys
      have R3' : Rl ⟨N.K, H', F2, A⟩ F2 A H' σ2 δt μ := ⟨R3.rc.entry, R3.len, R3.sl⟩
      refine hP ⟨N.K, H', F2, A⟩ F2 A σ2 H' δt μ r μu (fun v H4 => match v with
          | some v => ∃ acc, H4 D0 = some (.lst acc) ∧ acc.length < sizeLine ∧ (∃ F A μ vs acc' rest, Same F1 F ∧ A1 <+: A ∧ Rc N F A (upd H4 D0 (.lst (acc ++ [v]))) μ ∧ (upd H4 D0 (.lst (acc ++ [v]))) D0 = some (.lst vs) ∧ F D0 = none ∧ D0 ∉ A ∧ Reps N.K F vs acc' ∧ vs.length ≤ i + 1 ∧ CmpL P f (wipeD δ (own.map (·.2))) (ds.drop (i + 1)) μ rest μ2 ∧ acc' ++ rest = ys)
          | none => ∃ F A μ vs acc rest, Same F1 F ∧ A1 <+: A ∧ Rc N F A H4 μ ∧ H4 D0 = some (.lst vs) ∧ F D0 = none ∧ D0 ∉ A ∧ Reps N.K F vs acc ∧ vs.length ≤ i + 1 ∧ CmpL P f (wipeD δ (own.map (·.2))) (ds.drop (i + 1)) μ rest μ2 ∧ acc ++ rest = ys) rfl R3' hPr fun v F4 A4 H4 e4 p4 R4 rv => ?_
      have b4 : Rc N F4 A4 H4 μu := R3.rc.back R4.rc
      have k4 : H4 D0 = some (.lst vs) := R4.rc.keep D0 _ hH' hA
      have f4 : F4 D0 = none := by
        cases q : F4 D0 with
        | none => rfl
        | some o =>
          rcases R4.rc.new D0 o q with ⟨o', z⟩ | z
          · have z' : F2 D0 = some o' := z
            rw [hF20] at z'; cases z'
          · have z' : H' D0 = none := z
            rw [hH'] at z'; cases z'
      have a4 : D0 ∉ A4 := fun hm => by
        obtain ⟨B, eB, hB⟩ := R4.rc.pre
        rw [eB] at hm
        rcases List.mem_append.mp hm with z | z
        · exact hA z
        · have z' : H' D0 = none := hB _ z
          rw [hH'] at z'; cases z'
      have s4 : Same F1 F4 := (e.trans e2).trans e4
      have p4' : A1 <+: A4 := p.trans p4
      cases r with
      | some yv =>
        cases v with
        | some v =>
          refine ⟨vs, k4, by omega, F4, A4, μu, vs ++ [v], acc ++ [yv], rest', s4, p4', b4.poke f4 a4 h0.1 _, upd_same, f4, a4, ((hr.mono (e2.trans e4))).snoc rv, by simp; omega, hL', ?_⟩
          rw [List.append_assoc]
          exact hys
        | none => exact rv.elim
      | none =>
        cases v with
        | some v => exact rv.elim
        | none => exact ⟨F4, A4, μu, vs, acc, rest', s4, p4', b4, k4, f4, a4, hr.mono (e2.trans e4), by omega, hL', hys⟩
    have Rw := R2.wiped (own.map (·.2))
    cases hL with
    | keep hf hb hL' => exact ⟨F2, A, _, μ, d, _, Rw, rx, hf, fun σ2 w2 R3 => ⟨(wipe_sub hix w2).trans (by
        apply List.ext_getElem?
        intro j
        rw [wipe_get, wipe_get]
        by_cases hj : j ∈ own.map (·.2)
        · rw [if_pos hj, if_pos hj]; cases σ[j]? <;> rfl
        · rw [if_neg hj, if_neg hj]), key σ2 _ (some _) _ _ R3 hb hL' hy⟩⟩
    | drop hf hb hL' => exact ⟨F2, A, _, μ, d, _, Rw, rx, hf, fun σ2 w2 R3 => ⟨(wipe_sub hix w2).trans (by
        apply List.ext_getElem?
        intro j
        rw [wipe_get, wipe_get]
        by_cases hj : j ∈ own.map (·.2)
        · rw [if_pos hj, if_pos hj]; cases σ[j]? <;> rfl
        · rw [if_neg hj, if_neg hj]), key σ2 _ none _ _ R3 hb hL' hy⟩⟩
  · have hi' : i = ds.length := by omega
    subst hi'
    refine .inl ⟨y.stops H (e.trans R.sub), ?_⟩
    rw [List.drop_length] at hL
    cases hL
    rw [List.append_nil] at hy
    subst hy
    exact hq F A H vs e p R hv hF hA hr
end
end Dl
set_option Elab.async false
set_option linter.all false
set_option maxRecDepth 100000
set_option maxHeartbeats 4000000
set_option autoImplicit false
namespace Dl
open PySem PySem.Spec PyProof.Rows L2
section
variable {X : Cx} {N : En} {W : WX} {n : Nat} {δ δ' δ1 δ2 : List (Option S)} {μ μ' μ1 μ2 μ3 : List M} {elt tg iter c : Expr} {ifs : List Expr} {pos : Pos} {ds ys : List D} {scope : Scope} {own : List (Str × Nat)} {f : As} {ix : List Nat}
/-- in every block -/
abbrev DEB (X : Cx) (K : PySem.W.Frag) (n : Nat) (scope : Scope) (elt : Expr) (δ : List (Option S)) (μ : List M) (y : D) (μ1 : List M) : Prop :=
  ∀ s H C cl fp N', N'.K = K → Go (blkX X scope s H C cl fp) N' W0 n → DE (blkX X scope s H C cl fp) N' W0 δ μ elt (.v (.p y)) μ1
abbrev DTB (X : Cx) (K : PySem.W.Frag) (n : Nat) (scope : Scope) (c : Expr) (δ : List (Option S)) (μ : List M) (b : Bool) (μ1 : List M) : Prop :=
  ∀ s H C cl fp N', N'.K = K → Go (blkX X scope s H C cl fp) N' W0 n → DT (blkX X scope s H C cl fp) N' W0 δ μ c b μ1
def teB (X : Cx) (K : PySem.W.Frag) (n : Nat) (scope : Scope) (elt : Expr) : TE := fun σ H Q => ∃ (N' : En) (F : Hp) (A : List Addr) (δt : List (Option S)) (μt : List M) (y : D) (μu : List M), N'.K = K ∧ Rl N' F A H σ δt μt ∧ DEB X K n scope elt δt μt y μu ∧
  ∀ v F' A' H', Same F F' → A <+: A' → Rl N' F' A' H' σ δt μu → Rep K F' v y → Q v H'
def ttB (X : Cx) (K : PySem.W.Frag) (n : Nat) (scope : Scope) (c : Expr) : TT := fun σ H Q => ∃ (N' : En) (F : Hp) (A : List Addr) (δt : List (Option S)) (μt : List M) (b : Bool) (μu : List M), N'.K = K ∧ Rl N' F A H σ δt μt ∧ DTB X K n scope c δt μt b μu ∧
  ∀ F' A' H', Same F F' → A <+: A' → Rl N' F' A' H' σ δt μu → Q b H'
theorem pe_teB (g : Go X N W n) {s : Shared} {H : Hp} {C : Addr} {cl : List (Str × Addr)} {fp : List Addr} : PE (blkX X scope s H C cl fp) elt (teB X N.K n scope elt) :=
  ⟨fun pins s σ H Q I ⟨N', F, A, δt, μt, y, μu, hK, R, hd, k⟩ => (hd _ _ _ _ _ N' hK (g.blk hK)).run pins s σ H Q I ⟨F, A, R, fun v F' A' H' a b c d => k v F' A' H' a b c (by rw [← hK]; exact d)⟩⟩
theorem pt_ttB (g : Go X N W n) {s : Shared} {H : Hp} {C : Addr} {cl : List (Str × Addr)} {fp : List Addr} : PT (blkX X scope s H C cl fp) c (ttB X N.K n scope c) :=
  ⟨fun pins s σ H Q I ⟨N', F, A, δt, μt, y, μu, hK, R, hd, k⟩ => (hd _ _ _ _ _ N' hK (g.blk hK)).run pins s σ H Q I ⟨F, A, R, k⟩⟩
/-- an element without a test -/
def El0 (X : Cx) (K : PySem.W.Frag) (n : Nat) (scope : Scope) (elt : Expr) : List (Option S) → List M → Option D → List M → Prop := fun δt μt r μu => ∃ y, r = some y ∧ DEB X K n scope elt δt μt y μu
/-- an element with one -/
def El1 (X : Cx) (K : PySem.W.Frag) (n : Nat) (scope : Scope) (c elt : Expr) : List (Option S) → List M → Option D → List M → Prop := fun δt μt r μu => ∃ μ', DTB X K n scope c δt μt r.isSome μ' ∧
  match r with
  | some y => DEB X K n scope elt δt μ' y μu
  | none => μu = μ'
theorem lc_read (g : Go X N W n) (P : List (Option S) → List M → Option D → List M → Prop) {tt : TT} {te : TE} (hds : ds.length < sizeLine) (hix : ∀ i ∈ ix, i ∈ own.map (·.2)) (hl : CmpL P f (wipeD δ (own.map (·.2))) ds μ1 ys μ2)
    (hP : ∀ (N' : En) F A σ2 H2 δt μt r μu (Q : Option V → Hp → Prop), N'.K = N.K → Rl N' F A H2 σ2 δt μt → P δt μt r μu →
      (∀ v F' A' H', Same F F' → A <+: A' → Rl N' F' A' H' σ2 δt μu → (match r, v with | some y, some v => Rep N.K F' v y | none, none => True | _, _ => False) → Q v H') →
      tt σ2 H2 fun b H3 => if b = true then te σ2 H3 fun v H4 => Q (some v) H4 else Q none H3)
    {σ : L2.St} {H : Hp} {Q : VK} {F : Hp} {A : List Addr} (R : Rl N F A H σ δ μ)
    (hq : ∀ D0 F' A' H' vs, Same F F' → A <+: A' → Rc N F' A' H' μ2 → H' D0 = some (.lst vs) → F' D0 = none → D0 ∉ A' → N.H0 D0 = none → Reps N.K F' vs ys → Q (.ref D0) H') :
    tLc (tI N W δ μ ds μ1) (tGd N f ix) tt te (own.map (·.2)) σ H Q :=
  ⟨F, A, R, fun J F1 A1 H1 e1 p1 R1 y D0 hD => lc_go hds R1 y hD hix P hl hP fun F' A' H' vs e p r a b c d => hq D0 F' A' H' vs (e1.trans e) (p1.trans p) r a b c (R1.rc.fresh hD).1 d⟩
theorem hP0 (g : Go X N W n) : ∀ (N' : En) F A σ2 H2 δt μt r μu (Q : Option V → Hp → Prop), N'.K = N.K → Rl N' F A H2 σ2 δt μt → El0 X N.K n scope elt δt μt r μu →
      (∀ v F' A' H', Same F F' → A <+: A' → Rl N' F' A' H' σ2 δt μu → (match r, v with | some y, some v => Rep N.K F' v y | none, none => True | _, _ => False) → Q v H') →
      tYes σ2 H2 fun b H3 => if b = true then teB X N.K n scope elt σ2 H3 fun v H4 => Q (some v) H4 else Q none H3 := by
  intro N' F A σ2 H2 δt μt r μu Q hK R ⟨y, e, hd⟩ k
  subst e
  show if true = true then teB X N.K n scope elt σ2 H2 (fun v H4 => Q (some v) H4) else Q none H2
  exact iteT ⟨N', F, A, δt, μt, y, μu, hK, R, hd, fun v F' A' H' a b c d => k (some v) F' A' H' a b c d⟩
theorem hP1 (g : Go X N W n) : ∀ (N' : En) F A σ2 H2 δt μt r μu (Q : Option V → Hp → Prop), N'.K = N.K → Rl N' F A H2 σ2 δt μt → El1 X N.K n scope c elt δt μt r μu →
      (∀ v F' A' H', Same F F' → A <+: A' → Rl N' F' A' H' σ2 δt μu → (match r, v with | some y, some v => Rep N.K F' v y | none, none => True | _, _ => False) → Q v H') →
      ttB X N.K n scope c σ2 H2 fun b H3 => if b = true then teB X N.K n scope elt σ2 H3 fun v H4 => Q (some v) H4 else Q none H3 := by
  intro N' F A σ2 H2 δt μt r μu Q hK R ⟨μ', ht, hd⟩ k
  refine ⟨N', F, A, δt, μt, r.isSome, μ', hK, R, ht, fun F1 A1 H1 e1 p1 R1 => ?_⟩
  cases r with
  | some y => exact iteT ⟨N', F1, A1, δt, μ', y, μu, hK, R1, hd, fun v F' A' H' a b c d => k (some v) F' A' H' (e1.trans a) (p1.trans b) c d⟩
  | none =>
    have e : μu = μ' := hd
    subst e
    exact iteF (k none F1 A1 H1 e1 p1 R1 trivial)
/-- the new list is frozen -/
theorem lc_frz {σ : L2.St} {F : Hp} {A : List Addr} {H : Hp} {Q : VK} (R : Rl N F A H σ δ μ) (k : EndE N W σ δ F A μ2 Q (.v (.p (.lst ys)))) :
    ∀ D0 F' A' H' vs, Same F F' → A <+: A' → Rc N F' A' H' μ2 → H' D0 = some (.lst vs) → F' D0 = none → D0 ∉ A' → N.H0 D0 = none → Reps N.K F' vs ys → Q (.ref D0) H' := by
  intro D0 F' A' H' vs e p r a b c h0 d
  have sm := same_updN (o := .lst vs) b
  exact k (.ref D0) _ A' H' (e.trans sm) p (R.to (e.trans sm) p (r.adopt b c h0 a)) (.lst upd_same (d.mono sm))
/-- .. or goes on changing -/
theorem lc_mut {σ : L2.St} {F : Hp} {A : List Addr} {H : Hp} {Q : VK} (R : Rl N F A H σ δ μ) (k : EndE N W σ δ F A (μ2 ++ [.lst ys]) Q (.v (.l μ2.length))) :
    ∀ D0 F' A' H' vs, Same F F' → A <+: A' → Rc N F' A' H' μ2 → H' D0 = some (.lst vs) → F' D0 = none → D0 ∉ A' → N.H0 D0 = none → Reps N.K F' vs ys → Q (.ref D0) H' := by
  intro D0 F' A' H' vs e p r a b c h0 d
  have pp : A' <+: A' ++ [D0] := List.prefix_append _ _
  refine k (.ref D0) F' (A' ++ [D0]) H' e (p.trans pp) (R.to e (p.trans pp) (r.adoptM b c h0 ⟨vs, a, d⟩)) ⟨D0, rfl, ?_⟩
  rw [← r.len]; simp
theorem de_lc (g : Go X N W n) (own : List (Str × Nat)) (hi : DI X N W δ μ tg iter ds μ1) (hg : ∀ s H C cl fp, DG (blkX X scope s H C cl fp) N tg f ix) (hl : CmpL (El0 X N.K n scope elt) f (wipeD δ (own.map (·.2))) ds μ1 ys μ2)
    (ok : BlkOk X.N X.env.scope scope own := by exact blkOk_by (by decide +kernel)) (hds : ds.length < sizeLine := by first | (show _ < sizeLine; decide) | (simp; decide)) (hix : ∀ i ∈ ix, i ∈ own.map (·.2) := by decide) (hs : ∀ x, foldedSetIterable iter X.env x = pure x := by intro _; rfl) :
    DE X N W δ μ (.ListComp elt [⟨tg, iter, [], 0⟩] scope pos) (.v (.p (.lst ys))) μ2 :=
  PE.imp (pe_lc (own := own) g.calm g.nd hi ok hg (fun _ _ _ _ _ => pts_nil) (fun s H C cl fp => pe_teB g) hs) fun σ H Q ⟨F, A, R, k⟩ => lc_read g _ hds hix hl (hP0 g) R (lc_frz (W := W) R k)
theorem de_lcIf (g : Go X N W n) (own : List (Str × Nat)) (hi : DI X N W δ μ tg iter ds μ1) (hg : ∀ s H C cl fp, DG (blkX X scope s H C cl fp) N tg f ix) (hl : CmpL (El1 X N.K n scope c elt) f (wipeD δ (own.map (·.2))) ds μ1 ys μ2)
    (ok : BlkOk X.N X.env.scope scope own := by exact blkOk_by (by decide +kernel)) (hds : ds.length < sizeLine := by first | (show _ < sizeLine; decide) | (simp; decide)) (hix : ∀ i ∈ ix, i ∈ own.map (·.2) := by decide) (hs : ∀ x, foldedSetIterable iter X.env x = pure x := by intro _; rfl) :
    DE X N W δ μ (.ListComp elt [⟨tg, iter, [c], 0⟩] scope pos) (.v (.p (.lst ys))) μ2 :=
  PE.imp (pe_lc (own := own) g.calm g.nd hi ok hg (fun _ _ _ _ _ => pts_one (pt_ttB g)) (fun s H C cl fp => pe_teB g) hs) fun σ H Q ⟨F, A, R, k⟩ => lc_read g _ hds hix hl (hP1 g) R (lc_frz (W := W) R k)
/-- name = [..] -/
theorem ds_setLc (i : Nat) {x : Str} {py spos : Pos} (g : Go X N W n) (own : List (Str × Nat)) (hi : DI X N W δ μ tg iter ds μ1) (hg : ∀ s H C cl fp, DG (blkX X scope s H C cl fp) N tg f ix) (hl : CmpL (El0 X N.K n scope elt) f (wipeD δ (own.map (·.2))) ds μ1 ys μ2)
    (hsw : swapsWith (.ListComp elt [⟨tg, iter, [], 0⟩] scope pos) (some (.Name x py)) spos.line X.env = pure true := by exact sw_true rfl rfl rfl (by decide +kernel)) (hy : X.N[i]? = some x := by rfl) (hyl : X.env.scope.names.lookup x = some .local := by rfl)
    (ok : BlkOk X.N X.env.scope scope own := by exact blkOk_by (by decide +kernel)) (hds : ds.length < sizeLine := by first | (show _ < sizeLine; decide) | (simp; decide)) (hix : ∀ i ∈ ix, i ∈ own.map (·.2) := by decide) (hs : ∀ x, foldedSetIterable iter X.env x = pure x := by intro _; rfl) :
    DS X N W δ μ (.Assign [.Name x py] (.ListComp elt [⟨tg, iter, [], 0⟩] scope pos) spos) (.nx (δ.set i (some (.p (.lst ys)))) μ2) :=
  PS.imp (ps_setLc (own := own) g.calm g.nd hy hyl hsw hi ok hg (fun _ _ _ _ _ => pts_nil) (fun s H C cl fp => pe_teB g) hs) fun K σ H ⟨F, A, R, k⟩ =>
    lc_read g _ hds hix hl (hP0 g) R (lc_frz (W := W) R (show EndE N W σ δ F A μ2 _ (.v (.p (.lst ys))) from fun v F' A' H' e p R' rv => k _ F' A' H' e p (R'.set rv)))
theorem CmpL.of_map {fy : D → D} (h : ∀ d ∈ ds, ∃ δt, f d δ = some δt ∧ DEB X N.K n scope elt δt μ (fy d) μ) : CmpL (El0 X N.K n scope elt) f δ ds μ (ds.map fy) μ := by
  induction ds with
  | nil => exact .nil
  | cons d ds ih =>
    obtain ⟨δt, h1, h2⟩ := h d List.mem_cons_self
    exact .keep h1 ⟨_, rfl, h2⟩ (ih fun d hd => h d (List.mem_cons_of_mem _ hd))
end
end Dl
set_option Elab.async false
set_option linter.all false
set_option maxRecDepth 100000
set_option maxHeartbeats 4000000
set_option autoImplicit false
namespace Dl
open PySem PySem.Spec PyProof.Rows L2
/-! ### what type a datum has -/
section
variable {X : Cx} {N : En} {W : WX} {n : Nat} {δ δ' δ1 δ2 : List (Option S)} {μ μ' μ1 μ2 μ3 : List M} {e a b c o : Expr} {es : List Expr} {ss : List S} {pos p apos : Pos} {d : D} {s s1 s2 : S} {r : Rx} {R : Rel} {k : Nat} {x m f : Str} {dd : List D} {C : Addr}
/-- two expressions, then what is done with both -/
theorem two_then {σ : L2.St} {H : Hp} {pins : List (Addr × Obj)} {sh : Shared} {F : Hp} {A : List Addr} {α : Type} {Q : α → Shared → Prop} {fn : Value → Value → Sem α} (ha : DE X N W δ μ a (.v s1) μ1) (hb : DE X N W δ μ1 b (.v s2) μ2) (I : Inv X pins σ H sh) (R0 : Rl N F A H σ δ μ)
    (h : ∀ v u s3 x y H2 F2 A2, Inv X pins σ H2 s3 → RelV x v → RelV y u → Same F F2 → A <+: A2 → Rl N F2 A2 H2 σ δ μ2 → RepS N.K F2 A2 x s1 → RepS N.K F2 A2 y s2 → wpAny (model X.prog X.w) X.A (fn v u) Q X.xe s3) :
    wpAny (model X.prog X.w) X.A (eval a X.env) (fun v s₁ => wpAny (model X.prog X.w) X.A (eval b X.env) (fun u s₂ => wpAny (model X.prog X.w) X.A (fn v u) Q X.xe s₂) X.xe s₁) X.xe sh :=
  bin ha hb (R := fun x y H2 => ∃ F2 A2, Same F F2 ∧ A <+: A2 ∧ Rl N F2 A2 H2 σ δ μ2 ∧ RepS N.K F2 A2 x s1 ∧ RepS N.K F2 A2 y s2) I
    ⟨F, A, R0, fun x F1 A1 H1 e1 p1 R1 rx => ⟨F1, A1, R1, fun y F2 A2 H2 e2 p2 R2 ry => ⟨F2, A2, e1.trans e2, p1.trans p2, R2, rx.mono e2 p2, ry⟩⟩⟩
    fun v u s3 x y H2 I2 rx ry ⟨F2, A2, e2, p2, R2, h1, h2⟩ => h v u s3 x y H2 F2 A2 I2 rx ry e2 p2 R2 h1 h2
/-! ### == and != by an own __eq__ -/
end
end Dl
set_option Elab.async false
set_option linter.all false
set_option maxRecDepth 100000
set_option maxHeartbeats 4000000
set_option autoImplicit false
namespace Dl
open PySem PySem.Spec PyProof.Rows L2
section
variable {K : PySem.W.Frag} {F : Hp} {A : List Addr} {v : V}
theorem rs_int {i : Int} (h : RepS K F A v (.p (.int i))) : v = .int i := by cases (show Rep K F v (.int i) from h); rfl
theorem rs_str {i : Str} (h : RepS K F A v (.p (.str i))) : v = .str i := by cases (show Rep K F v (.str i) from h); rfl
theorem rs_bl {i : Bool} (h : RepS K F A v (.p (.bl i))) : v = .bl i := by cases (show Rep K F v (.bl i) from h); rfl
theorem rs_non (h : RepS K F A v (.p .non)) : v = .non := by cases (show Rep K F v .non from h); rfl
theorem rs_adr {n : Addr} (h : RepS K F A v (.p (.adr n))) : v = .ref n := by cases (show Rep K F v (.adr n) from h); rfl
theorem reps_ints : ∀ {vs : List V} {ns : List Int}, Reps K F vs (ns.map D.int) → vs = ns.map V.int
  | _, [], .nil => rfl
  | _, n :: ns, .cons a b => by cases a; rw [reps_ints b]; rfl
theorem reps_bls : ∀ {vs : List V} {ns : List Bool}, Reps K F vs (ns.map D.bl) → vs = ns.map V.bl
  | _, [], .nil => rfl
  | _, n :: ns, .cons a b => by cases a; rw [reps_bls b]; rfl
theorem reps_strs : ∀ {vs : List V} {ns : List Str}, Reps K F vs (ns.map D.str) → vs = ns.map V.str
  | _, [], .nil => rfl
  | _, n :: ns, .cons a b => by cases a; rw [reps_strs b]; rfl
theorem of_strs : ∀ {ns : List Str}, Reps K F (ns.map V.str) (ns.map D.str)
  | [] => .nil
  | n :: ns => .cons (.str n) of_strs
end
section
variable {X : Cx} {N : En} {W : WX} {n : Nat} {δ δ' δ1 δ2 : List (Option S)} {μ μ' μ1 μ2 μ3 : List M} {e a b c o : Expr} {es : List Expr} {ss : List S} {pos p apos : Pos} {d : D} {s s1 s2 : S} {r : Rx}
/-! ### ints -/
theorem o_int {f : Value → Value → Sem Value} {g : Int → Int → Int} (h : OpR X f (rI0 fun i j => .int (g i j))) {i j : Int} : OpOk X N W f μ (.p (.int i)) (.p (.int j)) (.v (.p (.int (g i j)))) μ :=
  ⟨_, h, fun σ δ F A H x y Q R rx ry k => ⟨i, j, rs_int rx, rs_int ry, k.here R (.int _)⟩⟩
theorem o_intC {f : Value → Value → Sem Value} {C : Int → Int → Prop} {g : Int → Int → Int} (h : OpR X f (rI C fun i j => .int (g i j))) {i j : Int} (hc : C i j) : OpOk X N W f μ (.p (.int i)) (.p (.int j)) (.v (.p (.int (g i j)))) μ :=
  ⟨_, h, fun σ δ F A H x y Q R rx ry k => ⟨i, j, rs_int rx, rs_int ry, hc, k.here R (.int _)⟩⟩
theorem o_cmp {f : Value → Value → Sem Value} {g : Int → Int → Bool} (h : OpR X f (rI0 fun i j => .bl (g i j))) {i j : Int} : OpOk X N W f μ (.p (.int i)) (.p (.int j)) (.v (.p (.bl (g i j)))) μ :=
  ⟨_, h, fun σ δ F A H x y Q R rx ry k => ⟨i, j, rs_int rx, rs_int ry, k.here R (.bl _)⟩⟩
theorem o_add {i j : Int} : OpOk X N W (binaryOp .Add) μ (.p (.int i)) (.p (.int j)) (.v (.p (.int (i + j)))) μ := o_int op_add
theorem o_sub {i j : Int} : OpOk X N W (binaryOp .Sub) μ (.p (.int i)) (.p (.int j)) (.v (.p (.int (i - j)))) μ := o_int op_sub
theorem o_mul {i j : Int} (hc : CMul i j) : OpOk X N W (binaryOp .Mult) μ (.p (.int i)) (.p (.int j)) (.v (.p (.int (i * j)))) μ := o_intC op_mul hc
theorem o_div {i j : Int} (hc : CDiv i j) : OpOk X N W (binaryOp .FloorDiv) μ (.p (.int i)) (.p (.int j)) (.v (.p (.int (i / j)))) μ := o_intC op_fdiv hc
theorem o_mod {i j : Int} (hc : 0 < j) : OpOk X N W (binaryOp .Mod) μ (.p (.int i)) (.p (.int j)) (.v (.p (.int (i % j)))) μ := o_intC op_mod hc
theorem op_powW : OpR X (binaryOp .Pow) (rI (fun i j => 0 ≤ j ∧ (Builtin.Int.intBits i : Int) * j ≤ 2 ^ 27) fun i j => .int (i ^ j.toNat)) := opI fun _ _ _ _ _ _ _ hc q => pow_int hc.1 hc.2 q
theorem o_pow {i j : Int} (hc : 0 ≤ j ∧ (Builtin.Int.intBits i : Int) * j ≤ 2 ^ 27) : OpOk X N W (binaryOp .Pow) μ (.p (.int i)) (.p (.int j)) (.v (.p (.int (i ^ j.toNat)))) μ := o_intC op_powW hc
theorem o_lt {i j : Int} : OpOk X N W (compareOp .Lt) μ (.p (.int i)) (.p (.int j)) (.v (.p (.bl (decide (i < j))))) μ := o_cmp op_lt
theorem o_le {i j : Int} : OpOk X N W (compareOp .LtE) μ (.p (.int i)) (.p (.int j)) (.v (.p (.bl (decide (i ≤ j))))) μ := o_cmp op_le
theorem o_gt {i j : Int} : OpOk X N W (compareOp .Gt) μ (.p (.int i)) (.p (.int j)) (.v (.p (.bl (decide (j < i))))) μ := o_cmp op_gt
theorem o_ge {i j : Int} : OpOk X N W (compareOp .GtE) μ (.p (.int i)) (.p (.int j)) (.v (.p (.bl (decide (j ≤ i))))) μ := o_cmp op_ge
theorem o_eqI {i j : Int} : OpOk X N W (compareOp .Eq) μ (.p (.int i)) (.p (.int j)) (.v (.p (.bl (decide (i = j))))) μ :=
  ⟨_, op_eq, fun σ δ F A H x y Q R rx ry k => by
    cases rs_int rx; cases rs_int ry
    exact ⟨rfl, k.here R (by rw [show decide (V.int i = V.int j) = decide (i = j) from by rw [dec_int]; exact Bool.beq_eq_decide_eq ..]; exact .bl _)⟩⟩
theorem o_neI {i j : Int} : OpOk X N W (compareOp .NotEq) μ (.p (.int i)) (.p (.int j)) (.v (.p (.bl (!decide (i = j))))) μ :=
  ⟨_, op_ne, fun σ δ F A H x y Q R rx ry k => by
    cases rs_int rx; cases rs_int ry
    exact ⟨rfl, k.here R (by rw [show decide (V.int i = V.int j) = decide (i = j) from by rw [dec_int]; exact Bool.beq_eq_decide_eq ..]; exact .bl _)⟩⟩
theorem o_eqS {i j : Str} : OpOk X N W (compareOp .Eq) μ (.p (.str i)) (.p (.str j)) (.v (.p (.bl (decide (i = j))))) μ :=
  ⟨_, op_eq, fun σ δ F A H x y Q R rx ry k => by
    cases rs_str rx; cases rs_str ry
    exact ⟨rfl, k.here R (by rw [show decide (V.str i = V.str j) = decide (i = j) from by rw [dec_str]; exact Bool.beq_eq_decide_eq ..]; exact .bl _)⟩⟩
theorem o_neS {i j : Str} : OpOk X N W (compareOp .NotEq) μ (.p (.str i)) (.p (.str j)) (.v (.p (.bl (!decide (i = j))))) μ :=
  ⟨_, op_ne, fun σ δ F A H x y Q R rx ry k => by
    cases rs_str rx; cases rs_str ry
    exact ⟨rfl, k.here R (by rw [show decide (V.str i = V.str j) = decide (i = j) from by rw [dec_str]; exact Bool.beq_eq_decide_eq ..]; exact .bl _)⟩⟩
theorem u_neg {i : Int} : UnOk X N W (unaryOp .USub) μ (.p (.int i)) (.v (.p (.int (-i)))) μ :=
  ⟨_, un_neg, fun σ δ F A H x Q R rx k => ⟨i, rs_int rx, k.here R (.int _)⟩⟩
/-! ### texts -/
theorem o_addS {i j : Str} (hl : i.length + j.length ≤ sizeLine) : OpOk X N W (binaryOp .Add) μ (.p (.str i)) (.p (.str j)) (.v (.p (.str (i ++ j)))) μ :=
  ⟨_, op_add_str, fun σ δ F A H x y Q R rx ry k => ⟨i, j, rs_str rx, rs_str ry, hl, k.here R (.str _)⟩⟩
theorem o_inS {c : Nat} {z : Str} : OpOk X N W (compareOp .In) μ (.p (.str ⟨#[c]⟩)) (.p (.str z)) (.v (.p (.bl (decide (c ∈ z.cps.toList))))) μ :=
  ⟨_, op_in_sign, fun σ δ F A H x y Q R rx ry k => ⟨c, z, rs_str rx, rs_str ry, k.here R (.bl _)⟩⟩
theorem op_mulS1 : OpR X (binaryOp .Mult) (fun x y H Q => ∃ (z : Str) (k : Bool), x = .str z ∧ y = .int (if k then 1 else 0) ∧ Q (.str (if k then z else Str.empty)) H) := by
  intro pins s σ H x y v u Q I rx ry h
  obtain ⟨z, k, rfl, rfl, q⟩ := h
  obtain ⟨t, rfl⟩ := rx
  obtain ⟨t', rfl⟩ := ry
  cases k with
  | false => exact PySem.P.mul_str_none (by decide) (by decide) ⟨.str _, H, I.tok _, ⟨_, rfl⟩, q⟩
  | true =>
    refine PySem.P.mul_str (by decide) (fun _ h => by simp at h) (fun _ h => by simp at h) ?_
    show (if (1 : Int) < 1 then _ else if ((1 : Int) == 1 || z.length == 0) = true then _ else _ : Made).post _ _
    rw [if_neg (by decide), if_pos (by simp)]
    exact ⟨.str z, H, I, ⟨t, rfl⟩, q⟩
theorem o_mulS {z : Str} {k : Bool} : OpOk X N W (binaryOp .Mult) μ (.p (.str z)) (.p (.int (if k then 1 else 0))) (.v (.p (.str (if k then z else Str.empty)))) μ :=
  ⟨_, op_mulS1, fun σ δ F A H x y Q R rx ry q => ⟨z, k, rs_str rx, rs_int ry, q.here R (.str _)⟩⟩
/-! ### builtins -/
theorem one_of {K : PySem.W.Frag} {F : Hp} {A : List Addr} {vs : List V} (h : RepSs K F A vs [s]) : ∃ v, vs = [v] ∧ RepS K F A v s := by
  cases h with
  | cons a b => cases b; exact ⟨_, rfl, a⟩
theorem two_of {K : PySem.W.Frag} {F : Hp} {A : List Addr} {vs : List V} (h : RepSs K F A vs [s1, s2]) : ∃ v w, vs = [v, w] ∧ RepS K F A v s1 ∧ RepS K F A w s2 := by
  cases h with
  | cons a b => cases b with
    | cons b c => cases c; exact ⟨_, _, rfl, a, b⟩
theorem c_int {i : Int} : CallOk X N W (.type "int") μ [.p (.int i)] (.v (.p (.int i))) μ :=
  ⟨_, call_int1, fun σ δ F A H vs Q R rv k => by
    obtain ⟨v, rfl, h⟩ := one_of rv
    exact .inl ⟨i, by rw [rs_int h], k.here R (.int _)⟩⟩
theorem c_intB {i : Bool} : CallOk X N W (.type "int") μ [.p (.bl i)] (.v (.p (.int (if i then 1 else 0)))) μ :=
  ⟨_, call_int1, fun σ δ F A H vs Q R rv k => by
    obtain ⟨v, rfl, h⟩ := one_of rv
    exact .inr ⟨i, by rw [rs_bl h], k.here R (.int _)⟩⟩
theorem c_abs {i : Int} : CallOk X N W (.builtin "abs") μ [.p (.int i)] (.v (.p (.int (if i < 0 then -i else i)))) μ :=
  ⟨_, call_abs, fun σ δ F A H vs Q R rv k => by
    obtain ⟨v, rfl, h⟩ := one_of rv
    exact ⟨i, by rw [rs_int h], k.here R (.int _)⟩⟩
theorem c_max2 (g : Go X N W n) {i j : Int} : CallOk X N W (.builtin "max") μ [.p (.int i), .p (.int j)] (.v (.p (.int (if j > i then j else i)))) μ :=
  ⟨_, call_max2 g.calm, fun σ δ F A H vs Q R rv k => by
    obtain ⟨v, w, rfl, h, h'⟩ := two_of rv
    exact ⟨i, j, by rw [rs_int h, rs_int h'], k.here R (.int _)⟩⟩
theorem c_min2 (g : Go X N W n) {i j : Int} : CallOk X N W (.builtin "min") μ [.p (.int i), .p (.int j)] (.v (.p (.int (if j < i then j else i)))) μ :=
  ⟨_, call_min2 g.calm, fun σ δ F A H vs Q R rv k => by
    obtain ⟨v, w, rfl, h, h'⟩ := two_of rv
    exact ⟨i, j, by rw [rs_int h, rs_int h'], k.here R (.int _)⟩⟩
theorem c_lenS {z : Str} (hl : z.length ≤ sizeLine) : CallOk X N W (.builtin "len") μ [.p (.str z)] (.v (.p (.int z.length))) μ :=
  ⟨_, call_len, fun σ δ F A H vs Q R rv k => by
    obtain ⟨v, rfl, h⟩ := one_of rv
    exact ⟨.str z, z.length, by rw [rs_str h], ⟨hl, rfl⟩, k.here R (.int _)⟩⟩
theorem c_lenL (g : Go X N W n) {ds : List D} : CallOk X N W (.builtin "len") μ [.p (.lst ds)] (.v (.p (.int ds.length))) μ :=
  ⟨_, call_len, fun σ δ F A H vs Q R rv k => by
    obtain ⟨v, rfl, h⟩ := one_of rv
    obtain ⟨a, ws, rfl, h1, h2⟩ := rep_lst h
    exact ⟨.ref a, ds.length, rfl, .inl ⟨ws, SqL.of (R.rc.sub _ _ h1), h2.length.symm⟩, k.here R (.int _)⟩⟩
theorem c_lenM {j : Nat} {ds : List D} (hj : μ[j]? = some (.lst ds)) : CallOk X N W (.builtin "len") μ [.l j] (.v (.p (.int ds.length))) μ :=
  ⟨_, call_len, fun σ δ F A H vs Q R rv k => by
    obtain ⟨v, rfl, h⟩ := one_of rv
    obtain ⟨a, rfl, ha⟩ := h
    obtain ⟨ws, h1, h2⟩ := R.rc.mus j a _ ha hj
    exact ⟨.ref a, ds.length, rfl, .inl ⟨ws, SqL.of h1, h2.length.symm⟩, k.here R (.int _)⟩⟩
theorem c_all (g : Go X N W n) {ns : List Bool} : CallOk X N W (.builtin "all") μ [.p (.lst (ns.map D.bl))] (.v (.p (.bl (ns.all id)))) μ :=
  ⟨_, cr_all g.calm, fun σ δ F A H vs Q R rv k => by
    obtain ⟨v, rfl, h⟩ := one_of rv
    obtain ⟨a, ws, rfl, h1, h2⟩ := rep_lst h
    rw [reps_bls h2] at h1
    exact ⟨a, ns, rfl, SqL.of (R.rc.sub _ _ h1), k.here R (.bl _)⟩⟩
/-! ### methods of texts -/
theorem m_removeprefix {z y : Str} (hl : z.length ≤ sizeLine) : MtOk X N W "str" "str.removeprefix" μ μ (.p (.str z)) [.p (.str y)] (.v (.p (.str (Txt.removeprefix z y)))) μ :=
  ⟨_, mt_removeprefix, fun σ δ F A H x R rx => by rw [rs_str rx]; rfl, fun σ δ F A H x vs Q R rx rv k => by
    obtain ⟨v, rfl, h⟩ := one_of rv
    exact ⟨z, y, rs_str rx, by rw [rs_str h], hl, k.here R (.str _)⟩⟩
theorem m_startswith {z y : Str} : MtOk X N W "str" "str.startswith" μ μ (.p (.str z)) [.p (.str y)] (.v (.p (.bl (Txt.startswith z y)))) μ :=
  ⟨_, mt_startswith, fun σ δ F A H x R rx => by rw [rs_str rx]; rfl, fun σ δ F A H x vs Q R rx rv k => by
    obtain ⟨v, rfl, h⟩ := one_of rv
    exact ⟨z, y, rs_str rx, by rw [rs_str h], k.here R (.bl _)⟩⟩
theorem m_join {z : Str} {ys : List Str} (hl : (ys.map (·.length)).sum + ys.length * z.length ≤ 16777216) : MtOk X N W "str" "str.join" μ μ1 (.p (.str z)) [.p (.lst (ys.map D.str))] (.v (.p (.str (Txt.join z ys)))) μ1 :=
  ⟨_, mt_join, fun σ δ F A H x R rx => by rw [rs_str rx]; rfl, fun σ δ F A H x vs Q R rx rv k => by
    obtain ⟨v, rfl, h⟩ := one_of rv
    obtain ⟨a, ws, rfl, h1, h2⟩ := rep_lst h
    rw [reps_strs h2] at h1
    exact ⟨z, a, ys, rs_str rx, rfl, .inl (SqL.of (R.rc.sub _ _ h1)), hl, k.here R (.str _)⟩⟩
/-! ### items -/
theorem atI_rep {K : PySem.W.Frag} {F : Hp} {vs : List V} {ds : List D} {i : Int} (r : Reps K F vs ds) (h : atI ds i = some d) : ∃ v, atI vs i = some v ∧ Rep K F v d := by
  unfold atI at h ⊢
  rw [r.length]
  obtain ⟨j, h1, h2⟩ := Option.bind_eq_some_iff.mp h
  obtain ⟨v, h3, h4⟩ := r.get h2
  exact ⟨v, by rw [h1]; exact h3, h4⟩
theorem i_lst (g : Go X N W n) {ds : List D} {i : Int} (h : atI ds i = some d) : IxOk X N W μ (.p (.lst ds)) (.p (.int i)) (.v (.p d)) μ :=
  ⟨_, ix_list, fun σ δ F A H x y Q R rx ry k => by
    obtain ⟨a, ws, rfl, h1, h2⟩ := rep_lst rx
    obtain ⟨v, h3, h4⟩ := atI_rep h2 h
    exact ⟨a, ws, i, v, rfl, rs_int ry, SqL.of (R.rc.sub _ _ h1), h3, k.here R h4⟩⟩
theorem i_tup (g : Go X N W n) {ds : List D} {i : Int} (h : atI ds i = some d) : IxOk X N W μ (.p (.tup ds)) (.p (.int i)) (.v (.p d)) μ :=
  ⟨_, ix_tup, fun σ δ F A H x y Q R rx ry k => by
    obtain ⟨a, ws, rfl, h1, h2⟩ := rep_tup rx
    obtain ⟨v, h3, h4⟩ := atI_rep h2 h
    exact ⟨a, ws, i, v, rfl, rs_int ry, by rw [← g.hK]; exact same_sqT R.rc.sub h1, h3, k.here R h4⟩⟩
theorem i_lstM {j : Nat} {ds : List D} {i : Int} (hj : μ[j]? = some (.lst ds)) (h : atI ds i = some d) : IxOk X N W μ (.l j) (.p (.int i)) (.v (.p d)) μ :=
  ⟨_, ix_list, fun σ δ F A H x y Q R rx ry k => by
    obtain ⟨a, rfl, ha⟩ := rx
    obtain ⟨ws, h1, h2⟩ := R.rc.mus j a _ ha hj
    obtain ⟨v, h3, h4⟩ := atI_rep h2 h
    exact ⟨a, ws, i, v, rfl, rs_int ry, SqL.of h1, h3, k.here R h4⟩⟩
theorem i_str {z : Str} {i : Int} {c : Nat} (hl : z.length ≤ sizeLine) (h : atI z.cps.toList i = some c) : IxOk X N W μ (.p (.str z)) (.p (.int i)) (.v (.p (.str ⟨#[c]⟩))) μ :=
  ⟨_, ix_str, fun σ δ F A H x y Q R rx ry k => ⟨z, i, c, rs_str rx, rs_int ry, hl, h, k.here R (.str _)⟩⟩
/-! ### lists that change -/
theorem ds_setM {j : Nat} {ds : List D} {i : Int} {k : Nat} (hv : DE X N W δ μ e (.v (.p d)) μ1) (ho : DE X N W δ μ1 o (.v (.l j)) μ1) (hb : DE X N W δ μ1 b (.v (.p (.int i))) μ1) (hj : μ1[j]? = some (.lst ds)) (hk : ixN ds.length i = some k)
    (hs : swapsWithSole [.Subscript o b p] e pos.line X.env = pure false := by rfl) (hw : swappedStores [.Subscript o b p] e X.env = pure none := by rfl)
    (h1 : (assignEach [.Subscript o b p] X.env).map (·.2) = [assign (.Subscript o b p) X.env] := by rfl)
    (ha : ∀ v, assign (.Subscript o b p) X.env v = (do
      let ov ← holding [v] (eval o X.env)
      let iv ← holding [v, ov] (eval b X.env)
      standAt p
      holding [v, ov, iv] (setItem ov iv v)
      release [v, ov, iv] []) := by intro _; rfl) : DS X N W δ μ (.Assign [.Subscript o b p] e pos) (.nx δ (μ1.set j (.lst (ds.set k d)))) :=
  PS.imp (ps_asg hv (pg_sub ho hb set_list ha) hs hw h1) fun K σ H ⟨F, A, R, q⟩ => ⟨F, A, R, fun v F1 A1 H1 e1 p1 R1 rv => ⟨F1, A1, R1, fun ov F2 A2 H2 e2 p2 R2 ro => ⟨F2, A2, R2, fun iv F3 A3 H3 e3 p3 R3 ri => by
    obtain ⟨a, rfl, ha⟩ := ro
    have rv3 : Rep N.K F3 v d := Rep.mono (e2.trans e3) rv
    have ha3 := getElem?_pre p3 ha
    obtain ⟨ws, h1, h2⟩ := R3.rc.mus j a _ ha3 hj
    refine ⟨a, ws, i, k, rfl, rs_int ri, h1, by rw [h2.length]; exact hk, ?_⟩
    exact q σ F3 A3 _ ((e1.trans e2).trans e3) ((p1.trans p2).trans p3) (R3.to (Same.refl _) (List.prefix_refl _) (R3.rc.write ha3 hj trivial ⟨_, upd_same, h2.set rv3 k⟩))⟩⟩⟩
end
end Dl
set_option Elab.async false
set_option linter.all false
set_option maxRecDepth 100000
set_option maxHeartbeats 4000000
set_option autoImplicit false
namespace Dl
open PySem PySem.Spec PyProof.Rows L2
section
variable {prog : Program} {w : World} {A : Around} {E : Value → Shared → Prop} {s : Shared}
theorem nextOf_ascii {it : Addr} {x : Str} {t : Tok} {i c : Nat} {Q : Value → Shared → Prop} (hit : s.heap.IsStrIter it "str_ascii_iterator" x t i) (hx : x.cps[i]? = some c)
    (hQ : ∀ h', h'.IsStrIter it "str_ascii_iterator" x t (i + 1) → Heap.SameBut it s.heap h' → Q (.str ⟨#[c]⟩ s.toks) { s with heap := h', toks := s.toks + 1 }) :
    wpAny (model prog w) A (Builtin.SmallTypes.nextOf (.ref it)) Q E s := by
  obtain ⟨o, ho, hc, hd⟩ := id hit
  unfold Builtin.SmallTypes.nextOf
  refine wpAny_bind (wpAny_callSpecial?_slot (name := Str.ofString "__next__") hit.typeIs F.slot_str_ascii_iterator_next
    (wpAny_call_entry F.slot_str_ascii_iterator_next hit.typeIs F.entry_str_ascii_iterator_next ?_ (F.args_str_ascii_iterator_next_1 _)))
  show wpAny _ _ (field (.ref it) 0 >>= _) _ _ s
  refine wpAny_bind (wpAny_field ho hd (x := .str x t) rfl ?_)
  show wpAny _ _ (field (.ref it) 1 >>= _) _ _ s
  refine wpAny_bind (wpAny_field ho hd (x := .int i 0) rfl ?_)
  simp only [Int.toNat_natCast, hx]
  refine wpAny_bind (wpAny_setField ho hd (by simp) (wpAny_bind (wpAny_mkStr (wpAny_pure ⟨_, rfl, wpAny_pure (hQ _ ?_ (Heap.SameBut.update ..))⟩) (by show 1 ≤ sizeLine; decide))))
  exact ⟨_, Heap.get?_update_self _ ho (Obj.isFreed_of_fields (Obj.data_mapFields hd _)), (Obj.cls_mapFields ..).trans hc, by
    rw [Obj.data_mapFields hd]; simp [rawInt]⟩
theorem nextOf_wide {it : Addr} {x : Str} {t : Tok} {i c : Nat} {Q : Value → Shared → Prop} (hit : s.heap.IsStrIter it "str_iterator" x t i) (hx : x.cps[i]? = some c)
    (hQ : ∀ h', h'.IsStrIter it "str_iterator" x t (i + 1) → Heap.SameBut it s.heap h' → Q (.str ⟨#[c]⟩ s.toks) { s with heap := h', toks := s.toks + 1 }) :
    wpAny (model prog w) A (Builtin.SmallTypes.nextOf (.ref it)) Q E s := by
  obtain ⟨o, ho, hc, hd⟩ := id hit
  unfold Builtin.SmallTypes.nextOf
  refine wpAny_bind (wpAny_callSpecial?_slot (name := Str.ofString "__next__") hit.typeIs F.slot_str_iterator_next
    (wpAny_call_entry F.slot_str_iterator_next hit.typeIs F.entry_str_iterator_next ?_ (F.args_str_iterator_next_1 _)))
  show wpAny _ _ (field (.ref it) 0 >>= _) _ _ s
  refine wpAny_bind (wpAny_field ho hd (x := .str x t) rfl ?_)
  show wpAny _ _ (field (.ref it) 1 >>= _) _ _ s
  refine wpAny_bind (wpAny_field ho hd (x := .int i 0) rfl ?_)
  simp only [Int.toNat_natCast, hx]
  refine wpAny_bind (wpAny_setField ho hd (by simp) (wpAny_bind (wpAny_mkStr (wpAny_pure ⟨_, rfl, wpAny_pure (hQ _ ?_ (Heap.SameBut.update ..))⟩) (by show 1 ≤ sizeLine; decide))))
  exact ⟨_, Heap.get?_update_self _ ho (Obj.isFreed_of_fields (Obj.data_mapFields hd _)), (Obj.cls_mapFields ..).trans hc, by
    rw [Obj.data_mapFields hd]; simp [rawInt]⟩
theorem nextOf_ascii_end {it : Addr} {x : Str} {t : Tok} {i : Nat} {Q : Value → Shared → Prop} (hh : A.handled = none) (hit : s.heap.IsStrIter it "str_ascii_iterator" x t i) (hx : x.cps[i]? = none)
    (hE : ∀ h' e, Heap.ExtBut it s.heap h' → (∃ o, h'.get? e = some o ∧ o.cls = .type "StopIteration") → E (.ref e) { s with heap := h' }) : wpAny (model prog w) A (Builtin.SmallTypes.nextOf (.ref it)) Q E s := by
  obtain ⟨o, ho, hc, hd⟩ := id hit
  unfold Builtin.SmallTypes.nextOf
  refine wpAny_bind (wpAny_callSpecial?_slot (name := Str.ofString "__next__") hit.typeIs F.slot_str_ascii_iterator_next
    (wpAny_call_entry F.slot_str_ascii_iterator_next hit.typeIs F.entry_str_ascii_iterator_next ?_ (F.args_str_ascii_iterator_next_1 _)))
  show wpAny _ _ (field (.ref it) 0 >>= _) _ _ s
  refine wpAny_bind (wpAny_field ho hd (x := .str x t) rfl ?_)
  show wpAny _ _ (field (.ref it) 1 >>= _) _ _ s
  refine wpAny_bind (wpAny_field ho hd (x := .int i 0) rfl ?_)
  simp only [Int.toNat_natCast, hx]
  refine wpAny_bind (wpAny_rule (wpAny_bind (wpAny_setField ho hd (by simp) (wpAny_bind (wpAny_letGo ?_)))))
  show wpAny _ _ (newExc (.type "StopIteration") [] >>= _) _ _ _
  refine wpAny_bind ?_
  simp only [newExc, newTuple]
  refine wpAny_bind (wpAny_newObj_type ?_ (by size_fits))
  refine wpAny_bind (m := firstArgMember _ _) (wpAny_of_eq (a := Value.none) (by first | rfl | (simp only [firstArgMember]; rfl)) ?_)
  refine wpAny_newObj_type ?_ (by size_fits)
  simp only [raiseNew]
  refine wpAny_bind (wpAny_handled ?_)
  rw [show A.in1.handled = none from hh]
  refine wpAny_bind (wpAny_pure (wpAny_throw ?_))
  exact hE _ _ (((Heap.SameBut.update ..).extBut.push _).push _) ⟨_, Heap.get?_push_size _ rfl, rfl⟩
theorem nextOf_wide_end {it : Addr} {x : Str} {t : Tok} {i : Nat} {Q : Value → Shared → Prop} (hh : A.handled = none) (hit : s.heap.IsStrIter it "str_iterator" x t i) (hx : x.cps[i]? = none)
    (hE : ∀ h' e, Heap.ExtBut it s.heap h' → (∃ o, h'.get? e = some o ∧ o.cls = .type "StopIteration") → E (.ref e) { s with heap := h' }) : wpAny (model prog w) A (Builtin.SmallTypes.nextOf (.ref it)) Q E s := by
  obtain ⟨o, ho, hc, hd⟩ := id hit
  unfold Builtin.SmallTypes.nextOf
  refine wpAny_bind (wpAny_callSpecial?_slot (name := Str.ofString "__next__") hit.typeIs F.slot_str_iterator_next
    (wpAny_call_entry F.slot_str_iterator_next hit.typeIs F.entry_str_iterator_next ?_ (F.args_str_iterator_next_1 _)))
  show wpAny _ _ (field (.ref it) 0 >>= _) _ _ s
  refine wpAny_bind (wpAny_field ho hd (x := .str x t) rfl ?_)
  show wpAny _ _ (field (.ref it) 1 >>= _) _ _ s
  refine wpAny_bind (wpAny_field ho hd (x := .int i 0) rfl ?_)
  simp only [Int.toNat_natCast, hx]
  refine wpAny_bind (wpAny_rule (wpAny_bind (wpAny_setField ho hd (by simp) (wpAny_bind (wpAny_letGo ?_)))))
  show wpAny _ _ (newExc (.type "StopIteration") [] >>= _) _ _ _
  refine wpAny_bind ?_
  simp only [newExc, newTuple]
  refine wpAny_bind (wpAny_newObj_type ?_ (by size_fits))
  refine wpAny_bind (m := firstArgMember _ _) (wpAny_of_eq (a := Value.none) (by first | rfl | (simp only [firstArgMember]; rfl)) ?_)
  refine wpAny_newObj_type ?_ (by size_fits)
  simp only [raiseNew]
  refine wpAny_bind (wpAny_handled ?_)
  rw [show A.in1.handled = none from hh]
  refine wpAny_bind (wpAny_pure (wpAny_throw ?_))
  exact hE _ _ (((Heap.SameBut.update ..).extBut.push _).push _) ⟨_, Heap.get?_push_size _ rfl, rfl⟩
end
/-- an iterator that a zip draws from: at it; what it leans on stands at dep; its i-th value -/
structure ItC (it : Addr) (dep : List Addr) (len : Nat) (val : Nat → Value → Prop) (tn : Nat → Heap → Prop) : Prop where
  obj : ∀ i h, tn i h → ∃ o, h.get? it = some o ∧ ∀ v, o.data ≠ .cell v
  keep : ∀ i h h', tn i h → (∀ b o, b = it ∨ b ∈ dep → h.get? b = some o → h'.get? b = some o) → tn i h'
  item : ∀ (prog : Program) (w : World) (A : Around) (E : Value → Shared → Prop) (s : Shared) (Q : Value → Shared → Prop) (i : Nat), i < len → tn i s.heap → (∀ x h' tk, val i x → tn (i + 1) h' → Heap.SameBut it s.heap h' → Q x { s with heap := h', toks := tk }) →
    wpAny (model prog w) A (Builtin.SmallTypes.nextOf (.ref it)) Q E s
  stop : ∀ (prog : Program) (w : World) (A : Around) (E : Value → Shared → Prop) (s : Shared) (Q : Value → Shared → Prop), A.handled = none → tn len s.heap → (∀ h' e, Heap.ExtBut it s.heap h' → (∃ o, h'.get? e = some o ∧ o.cls = .type "StopIteration") → E (.ref e) { s with heap := h' }) →
    wpAny (model prog w) A (Builtin.SmallTypes.nextOf (.ref it)) Q E s
theorem itc_list {it l : Addr} {its : List Value} : ItC it [l] its.length (fun i x => its[i]? = some x) (fun i h => h.IsListIter it l i ∧ h.IsList l its.toArray) where
  obj := fun i h ⟨⟨o, e, _, d⟩, _⟩ => ⟨o, e, fun v z => by rw [d] at z; cases z⟩
  keep := fun i h h' ⟨a, b⟩ k => ⟨a.at fun o e => k it o (.inl rfl) e, by
    obtain ⟨o, e, r⟩ := b
    exact ⟨o, k l o (.inr (by simp)) e, r⟩⟩
  item := fun prog w A E s Q i hi ⟨a, b⟩ hq => wpAny_nextOf_list_item a b (x := its[i]) (by simp [hi]) fun h' a' sb => hq _ h' s.toks (by simp [hi]) ⟨a', by
    obtain ⟨o, e, r⟩ := b
    have ne : l ≠ it := fun z => by
      obtain ⟨o', e', c', _⟩ := a
      rw [← z, e] at e'; cases e'
      obtain ⟨c, _⟩ := r
      rw [c] at c'
      exact absurd c' (by decide)
    exact ⟨o, (sb.2 l ne).trans e, r⟩⟩ sb
  stop := fun prog w A E s Q hh ⟨a, b⟩ he => wpAny_nextOf_list_end hh a b (by simp) he
theorem itc_tup {it l : Addr} {its : List Value} : ItC it [l] its.length (fun i x => its[i]? = some x) (fun i h => h.IsTupleIter it l i ∧ h.IsTuple l its.toArray) where
  obj := fun i h ⟨⟨o, e, _, d⟩, _⟩ => ⟨o, e, fun v z => by rw [d] at z; cases z⟩
  keep := fun i h h' ⟨a, b⟩ k => ⟨a.at fun o e => k it o (.inl rfl) e, by
    obtain ⟨o, e, r⟩ := b
    exact ⟨o, k l o (.inr (by simp)) e, r⟩⟩
  item := fun prog w A E s Q i hi ⟨a, b⟩ hq => RZ.nextOf_tuple_item a b (x := its[i]) (by simp [hi]) fun h' a' sb => hq _ h' s.toks (by simp [hi]) ⟨a', by
    obtain ⟨o, e, r⟩ := b
    have ne : l ≠ it := fun z => by
      obtain ⟨o', e', c', _⟩ := a
      rw [← z, e] at e'; cases e'
      obtain ⟨c, _⟩ := r
      rw [c] at c'
      exact absurd c' (by decide)
    exact ⟨o, (sb.2 l ne).trans e, r⟩⟩ sb
  stop := fun prog w A E s Q hh ⟨a, b⟩ he => RZ.nextOf_tuple_end hh a b (by simp) he
theorem itc_str {it : Addr} {z : Str} {t : Tok} {ty : String} (hty : ty = "str_ascii_iterator" ∨ ty = "str_iterator") : ItC it [] z.cps.size (fun i x => ∃ c u, z.cps[i]? = some c ∧ x = .str ⟨#[c]⟩ u) (fun i h => h.IsStrIter it ty z t i) where
  obj := fun i h ⟨o, e, _, d⟩ => ⟨o, e, fun v z => by rw [d] at z; cases z⟩
  keep := fun i h h' st k => let ⟨o, ho, r⟩ := st; ⟨o, k it o (.inl rfl) ho, r⟩
  item := fun prog w A E s Q i hi st hq => by
    rcases hty with e | e
    · subst e; exact nextOf_ascii st (c := z.cps[i]) (by simp [hi]) fun h' a' sb => hq _ h' _ ⟨_, _, by simp [hi], rfl⟩ a' sb
    · subst e; exact nextOf_wide st (c := z.cps[i]) (by simp [hi]) fun h' a' sb => hq _ h' _ ⟨_, _, by simp [hi], rfl⟩ a' sb
  stop := fun prog w A E s Q hh st he => by
    rcases hty with e | e
    · subst e; exact nextOf_ascii_end hh st (by simp) he
    · subst e; exact nextOf_wide_end hh st (by simp) he
/-- all of a zip's own objects and what it leans on stand apart -/
structure ZAp (z TI TO i1 i2 : Addr) (d1 d2 : List Addr) : Prop where
  TIz : TI ≠ z
  TOz : TO ≠ z
  i1z : i1 ≠ z
  i2z : i2 ≠ z
  TITO : TI ≠ TO
  TIi1 : TI ≠ i1
  TIi2 : TI ≠ i2
  TOi1 : TO ≠ i1
  TOi2 : TO ≠ i2
  i12 : i1 ≠ i2
  dz : ∀ b ∈ d1 ++ d2, b ≠ z ∧ b ≠ TO ∧ b ≠ i1 ∧ b ≠ i2
section
variable {prog : Program} {w : World} {A : Around} {E : Value → Shared → Prop} {s : Shared} {z TI TO i1 i2 : Addr} {d1 d2 : List Addr} {n1 n2 : Nat} {v1 v2 : Nat → Value → Prop} {t1 t2 : Nat → Heap → Prop} {a b : Value} {k : Nat}
theorem zip_itemG {Q : Value → Shared → Prop} (D : ZAp z TI TO i1 i2 d1 d2) (C1 : ItC i1 d1 n1 v1 t1) (C2 : ItC i2 d2 n2 v2 t2)
    (hz : IsZip s.heap z TI TO .none) (hTI : IsPair s.heap TI (.ref i1) (.ref i2)) (hTO : IsPair s.heap TO a b) (h1 : t1 k s.heap) (h2 : t2 k s.heap) (l1 : k < n1) (l2 : k < n2)
    (hQ : ∀ h' tk x y, v1 k x → v2 k y → IsZip h' z TI TO (rawInt s.heap.objs.size) → IsPair h' TO x y → t1 (k + 1) h' → t2 (k + 1) h' → IsPair h' s.heap.objs.size x y → h'.objs.size = s.heap.objs.size + 1 →
      (∀ c o, c ≠ z → c ≠ TO → c ≠ i1 → c ≠ i2 → s.heap.get? c = some o → h'.get? c = some o) → Q (.ref s.heap.objs.size) { s with heap := h', toks := tk }) :
    wpAny (model prog w) A (Builtin.«zip.__next__» ⟨[.ref z], []⟩) (fun fin s' => ∃ v, fin = .done (.ret v) ∧ Q v s') E s := by
  have dd1 : ∀ b ∈ d1, b ≠ z ∧ b ≠ TO ∧ b ≠ i1 ∧ b ≠ i2 := fun b h => D.dz b (List.mem_append_left _ h)
  have dd2 : ∀ b ∈ d2, b ≠ z ∧ b ≠ TO ∧ b ≠ i1 ∧ b ≠ i2 := fun b h => D.dz b (List.mem_append_right _ h)
  have K1 : ∀ {i h h' c}, t1 i h → Heap.ExtBut c h h' → c = z ∨ c = TO ∨ c = i2 → t1 i h' := fun {i h h' c} st hs hc => C1.keep i h h' st fun b o hb e => hs b o (by
    rcases hb with rfl | hb
    · rcases hc with rfl | rfl | rfl
      · exact D.i1z
      · exact D.TOi1.symm
      · exact D.i12
    · rcases hc with rfl | rfl | rfl
      · exact (dd1 b hb).1
      · exact (dd1 b hb).2.1
      · exact (dd1 b hb).2.2.2) e
  have K2 : ∀ {i h h' c}, t2 i h → Heap.ExtBut c h h' → c = z ∨ c = TO ∨ c = i1 → t2 i h' := fun {i h h' c} st hs hc => C2.keep i h h' st fun b o hb e => hs b o (by
    rcases hb with rfl | hb
    · rcases hc with rfl | rfl | rfl
      · exact D.i2z
      · exact D.TOi2.symm
      · exact D.i12.symm
    · rcases hc with rfl | rfl | rfl
      · exact (dd2 b hb).1
      · exact (dd2 b hb).2.1
      · exact (dd2 b hb).2.2.1) e
  show wpAny _ _ (field (.ref z) 2 >>= _) _ _ _
  refine wpAny_bind (wpAny_field hz rfl (x := .bool false) rfl ?_)
  show wpAny _ _ (field (.ref z) 3 >>= _) _ _ _
  refine wpAny_bind (wpAny_field hz rfl (x := .ref TI) rfl ?_)
  refine wpAny_bind (wpAny_seqItems hTI rfl ?_)
  show wpAny _ _ (Builtin.SmallTypes.ownedTupleIsFree (.ref z) >>= _) _ _ _
  refine wpAny_bind ?_
  unfold Builtin.SmallTypes.ownedTupleIsFree
  refine wpAny_bind (wpAny_field hz rfl (x := .none) rfl (wpAny_pure ?_))
  simp only [if_true]
  refine wpAny_bind (wpAny_rule ?_)
  refine wpAny_bind (wpAny_field hz rfl (x := .ref TO) rfl ?_)
  refine wpAny_bind (wpAny_setField_rec hz (by simp) fun h₁ hz₁ hs₁ => ?_)
  replace hz₁ : IsZip h₁ z TI TO .ellipsis := hz₁
  refine wpAny_bind ?_
  simp only [List.zipIdx_cons, List.zipIdx_nil, List.forIn_cons, List.forIn_nil]
  refine wpAny_bind (wpAny_bind (wpAny_onRaise ?_))
  show wpAny _ _ (Builtin.SmallTypes.nextOf (.ref i1) >>= _) _ _ _
  refine wpAny_bind (C1.item prog w _ _ { s with heap := h₁ } _ k l1 (K1 h1 hs₁.extBut (.inl rfl)) fun x h₂ tk₂ hx h1₂ hs₂ => wpAny_pure ?_)
  have hTO₂ : IsPair h₂ TO a b := hs₂.extBut _ _ D.TOi1 (hs₁.extBut _ _ D.TOz hTO)
  refine wpAny_bind (wpAny_seqItems hTO₂ rfl ?_)
  refine wpAny_bind (wpAny_updateSeq_pair hTO₂ fun h₃ hTO₃ hs₃ => ?_)
  replace hTO₃ : IsPair h₃ TO x b := hTO₃
  refine wpAny_bind (wpAny_letGo (wpAny_pure ?_))
  refine wpAny_bind (wpAny_bind (wpAny_onRaise ?_))
  show wpAny _ _ (Builtin.SmallTypes.nextOf (.ref i2) >>= _) _ _ _
  refine wpAny_bind (C2.item prog w _ _ { s with heap := h₃, toks := tk₂ } _ k l2 (K2 (K2 (K2 h2 hs₁.extBut (.inl rfl)) hs₂.extBut (.inr (.inr rfl))) hs₃.extBut (.inr (.inl rfl))) fun y h₄ tk₄ hy h2₄ hs₄ => wpAny_pure ?_)
  have hTO₄ : IsPair h₄ TO x b := hs₄.extBut _ _ D.TOi2 hTO₃
  refine wpAny_bind (wpAny_seqItems hTO₄ rfl ?_)
  refine wpAny_bind (wpAny_updateSeq_pair hTO₄ fun h₅ hTO₅ hs₅ => ?_)
  replace hTO₅ : IsPair h₅ TO x y := hTO₅
  refine wpAny_bind (wpAny_letGo (wpAny_pure (wpAny_pure ?_)))
  refine wpAny_bind (wpAny_seqItems hTO₅ rfl ?_)
  refine wpAny_bind (wpAny_newTuple ?_)
  have hsz : h₅.objs.size = s.heap.objs.size := by rw [hs₅.1, hs₄.1, hs₃.1, hs₂.1, hs₁.1]
  have hz₅ : IsZip h₅ z TI TO .ellipsis := hs₅.extBut _ _ D.TOz.symm (hs₄.extBut _ _ D.i2z.symm (hs₃.extBut _ _ D.TOz.symm (hs₂.extBut _ _ D.i1z.symm hz₁)))
  have hk₅ : ∀ c o, c ≠ z → c ≠ TO → c ≠ i1 → c ≠ i2 → s.heap.get? c = some o → h₅.get? c = some o := fun c o c1 c2 c3 c4 e =>
    hs₅.extBut _ _ c2 (hs₄.extBut _ _ c4 (hs₃.extBut _ _ c2 (hs₂.extBut _ _ c3 (hs₁.extBut _ _ c1 e))))
  have h1₅ : t1 (k + 1) h₅ := K1 (K1 (K1 h1₂ hs₃.extBut (.inr (.inl rfl))) hs₄.extBut (.inr (.inr rfl))) hs₅.extBut (.inr (.inl rfl))
  have h2₅ : t2 (k + 1) h₅ := K2 h2₄ hs₅.extBut (.inr (.inl rfl))
  have hzlt : z < h₅.objs.size := Heap.lt_size hz₅
  show wpAny _ _ (Builtin.SmallTypes.ownedTupleHandOut (.ref z) (.ref h₅.objs.size) >>= _) _ _ _
  refine wpAny_bind ?_
  unfold Builtin.SmallTypes.ownedTupleHandOut
  have hz₆ : IsZip (h₅.push { cls := .type "tuple", data := .seq #[x, y] }) z TI TO .ellipsis := Heap.get?_push_of_some _ hz₅
  refine wpAny_bind (wpAny_setField_rec hz₆ (by simp) fun h₇ hz₇ hs₇ => ?_)
  replace hz₇ : IsZip h₇ z TI TO (rawInt h₅.objs.size) := hz₇
  refine wpAny_setField_rec hz₇ (by simp) fun h₈ hz₈ hs₈ => ?_
  replace hz₈ : IsZip h₈ z TI TO (rawInt h₅.objs.size) := hz₈
  have up : ∀ c o, c ≠ z → h₅.get? c = some o → h₈.get? c = some o := fun c o c1 e => hs₈.extBut _ _ c1 (hs₇.extBut _ _ c1 (Heap.get?_push_of_some _ e))
  have hT₈ : IsPair h₈ h₅.objs.size x y := hs₈.extBut _ _ (Nat.ne_of_gt hzlt) (hs₇.extBut _ _ (Nat.ne_of_gt hzlt) (Heap.get?_push_size _ rfl))
  have hz8 : h₈.objs.size = h₅.objs.size + 1 := by rw [hs₈.1, hs₇.1, Heap.size_push]
  rw [hsz] at hz₈ hT₈ hz8
  refine wpAny_pure ⟨_, rfl, ?_⟩
  show Q (.ref h₅.objs.size) _
  rw [hsz]
  exact hQ h₈ tk₄ x y hx hy hz₈ (up _ _ D.TOz hTO₅) (K1 h1₅ (c := z) (fun c o c1 e => up c o c1 e) (.inl rfl)) (K2 h2₅ (c := z) (fun c o c1 e => up c o c1 e) (.inl rfl)) hT₈ hz8 fun c o c1 c2 c3 c4 e => up c o c1 (hk₅ c o c1 c2 c3 c4 e)
theorem zip_endG {Q : Fin → Shared → Prop} (hh : A.handled = none) (D : ZAp z TI TO i1 i2 d1 d2) (C1 : ItC i1 d1 n1 v1 t1) (C2 : ItC i2 d2 n2 v2 t2)
    (hz : IsZip s.heap z TI TO .none) (hTI : IsPair s.heap TI (.ref i1) (.ref i2)) (hTO : IsPair s.heap TO a b) (h1 : t1 k s.heap) (h2 : t2 k s.heap) (hend : k = n1 ∨ (k < n1 ∧ k = n2))
    (hE : ∀ h' tk e, (∀ c o, c ≠ z → c ≠ TO → c ≠ i1 → c ≠ i2 → s.heap.get? c = some o → h'.get? c = some o) → (∃ o, h'.get? e = some o ∧ o.cls = .type "StopIteration") → E (.ref e) { s with heap := h', toks := tk }) :
    wpAny (model prog w) A (Builtin.«zip.__next__» ⟨[.ref z], []⟩) Q E s := by
  have dd1 : ∀ b ∈ d1, b ≠ z ∧ b ≠ TO ∧ b ≠ i1 ∧ b ≠ i2 := fun b h => D.dz b (List.mem_append_left _ h)
  have dd2 : ∀ b ∈ d2, b ≠ z ∧ b ≠ TO ∧ b ≠ i1 ∧ b ≠ i2 := fun b h => D.dz b (List.mem_append_right _ h)
  have K1 : ∀ {i h h' c}, t1 i h → Heap.ExtBut c h h' → c = z ∨ c = TO ∨ c = i2 → t1 i h' := fun {i h h' c} st hs hc => C1.keep i h h' st fun b o hb e => hs b o (by
    rcases hb with rfl | hb
    · rcases hc with rfl | rfl | rfl
      · exact D.i1z
      · exact D.TOi1.symm
      · exact D.i12
    · rcases hc with rfl | rfl | rfl
      · exact (dd1 b hb).1
      · exact (dd1 b hb).2.1
      · exact (dd1 b hb).2.2.2) e
  have K2 : ∀ {i h h' c}, t2 i h → Heap.ExtBut c h h' → c = z ∨ c = TO ∨ c = i1 → t2 i h' := fun {i h h' c} st hs hc => C2.keep i h h' st fun b o hb e => hs b o (by
    rcases hb with rfl | hb
    · rcases hc with rfl | rfl | rfl
      · exact D.i2z
      · exact D.TOi2.symm
      · exact D.i12.symm
    · rcases hc with rfl | rfl | rfl
      · exact (dd2 b hb).1
      · exact (dd2 b hb).2.1
      · exact (dd2 b hb).2.2.1) e
  show wpAny _ _ (field (.ref z) 2 >>= _) _ _ _
  refine wpAny_bind (wpAny_field hz rfl (x := .bool false) rfl ?_)
  show wpAny _ _ (field (.ref z) 3 >>= _) _ _ _
  refine wpAny_bind (wpAny_field hz rfl (x := .ref TI) rfl ?_)
  refine wpAny_bind (wpAny_seqItems hTI rfl ?_)
  show wpAny _ _ (Builtin.SmallTypes.ownedTupleIsFree (.ref z) >>= _) _ _ _
  refine wpAny_bind ?_
  unfold Builtin.SmallTypes.ownedTupleIsFree
  refine wpAny_bind (wpAny_field hz rfl (x := .none) rfl (wpAny_pure ?_))
  simp only [if_true]
  refine wpAny_bind (wpAny_rule ?_)
  refine wpAny_bind (wpAny_field hz rfl (x := .ref TO) rfl ?_)
  refine wpAny_bind (wpAny_setField_rec hz (by simp) fun h₁ hz₁ hs₁ => ?_)
  replace hz₁ : IsZip h₁ z TI TO .ellipsis := hz₁
  refine wpAny_bind ?_
  simp only [List.zipIdx_cons, List.zipIdx_nil, List.forIn_cons, List.forIn_nil]
  refine wpAny_bind (wpAny_bind (wpAny_onRaise ?_))
  show wpAny _ _ (Builtin.SmallTypes.nextOf (.ref i1) >>= _) _ _ _
  rcases hend with hk | ⟨l1, hk⟩
  · subst hk
    refine wpAny_bind (C1.stop prog w _ _ { s with heap := h₁ } _ hh (K1 h1 hs₁.extBut (.inl rfl)) fun h₂ e hs₂ he => ?_)
    obtain ⟨oe, hoe, hce⟩ := he
    have hz₂ : IsZip h₂ z TI TO .ellipsis := hs₂ _ _ D.i1z.symm hz₁
    have hez : e ≠ z := fun x => by subst x; rw [hz₂] at hoe; cases hoe; simp at hce
    refine wpAny_setField_rec hz₂ (by simp) fun h₃ _ hs₃ => hE h₃ s.toks e (fun c o c1 _ c3 _ x => hs₃.extBut _ _ c1 (hs₂ _ _ c3 (hs₁.extBut _ _ c1 x))) ⟨oe, hs₃.extBut _ _ hez hoe, hce⟩
  · subst hk
    refine wpAny_bind (C1.item prog w _ _ { s with heap := h₁ } _ _ l1 (K1 h1 hs₁.extBut (.inl rfl)) fun x h₂ tk₂ hx h1₂ hs₂ => wpAny_pure ?_)
    have hTO₂ : IsPair h₂ TO a b := hs₂.extBut _ _ D.TOi1 (hs₁.extBut _ _ D.TOz hTO)
    refine wpAny_bind (wpAny_seqItems hTO₂ rfl ?_)
    refine wpAny_bind (wpAny_updateSeq_pair hTO₂ fun h₃ hTO₃ hs₃ => ?_)
    refine wpAny_bind (wpAny_letGo (wpAny_pure ?_))
    refine wpAny_bind (wpAny_bind (wpAny_onRaise ?_))
    show wpAny _ _ (Builtin.SmallTypes.nextOf (.ref i2) >>= _) _ _ _
    refine wpAny_bind (C2.stop prog w _ _ { s with heap := h₃, toks := tk₂ } _ hh (K2 (K2 (K2 h2 hs₁.extBut (.inl rfl)) hs₂.extBut (.inr (.inr rfl))) hs₃.extBut (.inr (.inl rfl))) fun h₄ e hs₄ he => ?_)
    obtain ⟨oe, hoe, hce⟩ := he
    have hz₄ : IsZip h₄ z TI TO .ellipsis := hs₄ _ _ D.i2z.symm (hs₃.extBut _ _ D.TOz.symm (hs₂.extBut _ _ D.i1z.symm hz₁))
    have hez : e ≠ z := fun x => by subst x; rw [hz₄] at hoe; cases hoe; simp at hce
    refine wpAny_setField_rec hz₄ (by simp) fun h₅ _ hs₅ => hE h₅ tk₂ e (fun c o c1 c2 c3 c4 x => hs₅.extBut _ _ c1 (hs₄ _ _ c4 (hs₃.extBut _ _ c2 (hs₂.extBut _ _ c3 (hs₁.extBut _ _ c1 x))))) ⟨oe, hs₅.extBut _ _ hez hoe, hce⟩
theorem pyNext_zipG {Q : Option Value → Shared → Prop} (D : ZAp z TI TO i1 i2 d1 d2) (C1 : ItC i1 d1 n1 v1 t1) (C2 : ItC i2 d2 n2 v2 t2)
    (hz : IsZip s.heap z TI TO .none) (hTI : IsPair s.heap TI (.ref i1) (.ref i2)) (hTO : IsPair s.heap TO a b) (h1 : t1 k s.heap) (h2 : t2 k s.heap) (l1 : k < n1) (l2 : k < n2)
    (hQ : ∀ h' tk x y, v1 k x → v2 k y → IsZip h' z TI TO (rawInt s.heap.objs.size) → IsPair h' TO x y → t1 (k + 1) h' → t2 (k + 1) h' → IsPair h' s.heap.objs.size x y → h'.objs.size = s.heap.objs.size + 1 →
      (∀ c o, c ≠ z → c ≠ TO → c ≠ i1 → c ≠ i2 → s.heap.get? c = some o → h'.get? c = some o) → Q (some (.ref s.heap.objs.size)) { s with heap := h', toks := tk }) :
    wpAny (model prog w) A (pyNext (.ref z)) Q E s := by
  have hT : s.TypeIs (.ref z) "zip" := ⟨_, hz, rfl⟩
  unfold pyNext
  exact wpAny_bind (wpAny_attempt (wpAny_callSpecial?_slot (name := Str.ofString "__next__") hT F.slot_zip_next
    (wpAny_call_entry F.slot_zip_next hT F.entry_zip_next
      (zip_itemG D C1 C2 hz hTI hTO h1 h2 l1 l2 fun h' tk x y hx hy a1 a2 a3 a4 a5 a6 a7 => wpAny_pure (hQ h' tk x y hx hy a1 a2 a3 a4 a5 a6 a7)) (F.args_zip_next_1 _))))
theorem pyNext_zipG_end {Q : Option Value → Shared → Prop} (hh : A.handled = none) (D : ZAp z TI TO i1 i2 d1 d2) (C1 : ItC i1 d1 n1 v1 t1) (C2 : ItC i2 d2 n2 v2 t2)
    (hz : IsZip s.heap z TI TO .none) (hTI : IsPair s.heap TI (.ref i1) (.ref i2)) (hTO : IsPair s.heap TO a b) (h1 : t1 k s.heap) (h2 : t2 k s.heap) (hend : k = n1 ∨ (k < n1 ∧ k = n2))
    (hQ : ∀ h' tk, (∀ c o, c ≠ z → c ≠ TO → c ≠ i1 → c ≠ i2 → s.heap.get? c = some o → h'.get? c = some o) → Q none { s with heap := h', toks := tk }) : wpAny (model prog w) A (pyNext (.ref z)) Q E s := by
  have hT : s.TypeIs (.ref z) "zip" := ⟨_, hz, rfl⟩
  unfold pyNext
  refine wpAny_bind (wpAny_attempt (wpAny_callSpecial?_slot (name := Str.ofString "__next__") hT F.slot_zip_next
    (wpAny_call_entry F.slot_zip_next hT F.entry_zip_next (zip_endG hh D C1 C2 hz hTI hTO h1 h2 hend fun h' tk e hk he => ?_) (F.args_zip_next_1 _))))
  obtain ⟨o, ho, hc⟩ := he
  refine wpAny_bind (wpAny_isInstance (T := "StopIteration") (b := true) ⟨o, ho, hc⟩ isSubtype_stop ?_)
  exact wpAny_pure (hQ _ _ hk)
/-! ### a zip is made -/
/-- pyIter of u: one new object -/
structure Mki (u : Value) (o : Obj) (c : Heap → Prop) : Prop where
  run : ∀ (prog : Program) (w : World) (A : Around) (E : Value → Shared → Prop) (s : Shared) (Q : Value → Shared → Prop), c s.heap → Q (.ref s.heap.objs.size) { s with heap := s.heap.push o } → wpAny (model prog w) A (pyIter u) Q E s
  push : ∀ h o', c h → c (h.push o')
  nf : o.isFreed = false
theorem mki_str {x : Str} {t : Tok} : ∃ ty, (ty = "str_ascii_iterator" ∨ ty = "str_iterator") ∧ Mki (.str x t) { cls := .type ty, data := .fields #[.str x t, .int 0 0] } (fun _ => True) := by
  cases ha : x.cps.all (· < 128)
  · exact ⟨"str_iterator", .inr rfl, ⟨fun prog w A E s Q _ h => wpAny_pyIter_wide ha h, fun _ _ _ => trivial, rfl⟩⟩
  · exact ⟨"str_ascii_iterator", .inl rfl, ⟨fun prog w A E s Q _ h => wpAny_pyIter_ascii ha h, fun _ _ _ => trivial, rfl⟩⟩
theorem mki_list {l : Addr} {items : Array Value} : Mki (.ref l) { cls := .type "list_iterator", data := .fields #[.ref l, .int 0 0] } (fun h => h.IsList l items) :=
  ⟨fun prog w A E s Q c h => wpAny_pyIter_list c h, fun h o c => c.push o, rfl⟩
theorem mki_tup {l : Addr} {items : Array Value} : Mki (.ref l) { cls := .type "tuple_iterator", data := .fields #[.ref l, .int 0 0] } (fun h => h.IsTuple l items) :=
  ⟨fun prog w A E s Q c h => wpAny_pyIter_tuple c h, fun h o c => by
    obtain ⟨ob, e, r⟩ := c
    exact ⟨ob, Heap.get?_push_of_some _ e, r⟩, rfl⟩
abbrev zH2 (h : Heap) (o1 o2 : Obj) : Heap := (h.push o1).push o2
abbrev zH3 (h : Heap) (o1 o2 : Obj) : Heap := (zH2 h o1 o2).push { cls := .type "tuple", data := .seq #[.ref h.objs.size, .ref (h.push o1).objs.size] }
abbrev zH4 (h : Heap) (o1 o2 : Obj) : Heap := (zH3 h o1 o2).push { cls := .type "tuple", data := .seq #[.none, .none] }
abbrev zH5 (h : Heap) (o1 o2 : Obj) : Heap := (zH4 h o1 o2).push { cls := .type "zip", data := .fields #[.none, .bool false, .bool false, .ref (zH2 h o1 o2).objs.size, .ref (zH3 h o1 o2).objs.size] }
theorem meets_zipG {u1 u2 : Value} {o1 o2 : Obj} {c1 c2 : Heap → Prop} (m1 : Mki u1 o1 c1) (m2 : Mki u2 o2 c2) :
    Meets (Builtin.«zip.__new__» ⟨[.type "zip", u1, u2], []⟩) (fun _ R s => c1 s.heap ∧ c2 s.heap ∧ R (.ok (.ret (.ref (zH4 s.heap o1 o2).objs.size))) { s with heap := zH5 s.heap o1 o2 }) :=
  .of_wp fun prog w A R s h => by
    obtain ⟨hp, g, d, tk, os⟩ := s
    obtain ⟨hl1, hl2, h⟩ := h
    have hsub := sub_zip
    have hL2 : c2 (hp.push o1) := m2.push _ _ hl2
    wp_walk using m1.run _ _ _ _ _ _ hl1, m2.run _ _ _ _ _ _ hL2
    exact ⟨_, rfl, h⟩
end
end Dl
set_option Elab.async false
set_option linter.all false
set_option maxRecDepth 100000
set_option maxHeartbeats 4000000
set_option autoImplicit false
namespace Dl
open PySem PySem.Spec PyProof.Rows L2
theorem dep_ne {X : Cx} {pins : List (Addr × Obj)} {σ : L2.St} {H : Hp} {sh : Shared} {l b : Addr} {vs : List V} (I : Inv X pins σ H sh) (h : SqT X.K H l vs) (f : FpOk X pins H b) : l ≠ b := by
  rintro rfl
  rcases h with h | ⟨o, its, n, hk, _⟩
  · rcases h with h | ⟨o, h⟩ <;> (rw [f.1] at h; cases h)
  · have e := I.mod.kin l o hk
    have e0 := (I.ok.bs l o e).1
    rcases f.2.2.2.1 with q | q
    · exact I.ok.noex l o e q
    · exact absurd (Nat.lt_of_lt_of_le (Heap.lt_size e0) q) (Nat.lt_irrefl _)
/-- one side of a zip: the iterator at it, over the items ds -/
structure Src (K : PySem.W.Frag) (F : Hp) (it : Addr) (ds : List D) (st : Nat → Heap → Prop) : Prop where
  obj : ∀ i h, st i h → ∃ o, h.get? it = some o ∧ ∀ v, o.data ≠ .cell v
  keep : ∀ i h h', st i h → (∀ o, h.get? it = some o → h'.get? it = some o) → st i h'
  here : ∀ (X : Cx) (pins : List (Addr × Obj)) (σ : L2.St) (H : Hp) (s : Shared), X.K = K → Inv X pins σ H s → Same F H → ∃ (dep : List Addr) (val : Nat → Value → Prop) (c : Heap → Prop), c s.heap ∧ ItC it dep ds.length val (fun i h => st i h ∧ c h) ∧
    (∀ b ∈ dep, ∀ b', FpOk X pins H b' → b ≠ b') ∧ ∀ i x, val i x → ∃ v d, RelV v x ∧ ds[i]? = some d ∧ Rep K F v d
theorem src_str {K : PySem.W.Frag} {F : Hp} {it : Addr} {z : Str} {t : Tok} {ty : String} (hty : ty = "str_ascii_iterator" ∨ ty = "str_iterator") : Src K F it (chars z) (fun i h => h.IsStrIter it ty z t i) where
  obj := (itc_str hty).obj
  keep := fun i h h' st k => let ⟨o, ho, r⟩ := st; ⟨o, k o ho, r⟩
  here := fun X pins σ H s hK I sm => by
    have C := itc_str (it := it) (z := z) (t := t) hty
    refine ⟨[], fun i x => ∃ c u, z.cps[i]? = some c ∧ x = .str ⟨#[c]⟩ u, fun _ => True, trivial, ⟨fun i h st => C.obj i h st.1, fun i h h' st k => ⟨C.keep i h h' st.1 k, trivial⟩, ?_, ?_⟩, (fun b hb => nomatch hb), fun i x ⟨c, u, h1, h2⟩ => ⟨.str ⟨#[c]⟩, .str ⟨#[c]⟩, ⟨u, h2⟩, ?_, .str _⟩⟩
    · intro prog w A E s Q i hi st hq
      exact C.item prog w A E s Q i (by simpa [chars] using hi) st.1 fun x h' tk hv st' sb => hq x h' tk hv ⟨st', trivial⟩ sb
    · intro prog w A E s Q hh st he
      refine C.stop prog w A E s Q hh ?_ he
      have := st.1
      rwa [show (chars z).length = z.cps.size from by simp [chars]] at this
    · rw [chars, List.getElem?_map, Array.getElem?_toList, h1]; rfl
theorem src_tup {K : PySem.W.Frag} {F : Hp} {it l : Addr} {vs : List V} {ds : List D} (h1 : SqT K F l vs) (h2 : Reps K F vs ds) : Src K F it ds (fun i h => h.IsTupleIter it l i) where
  obj := fun i h ⟨o, e, _, d⟩ => ⟨o, e, fun v z => by rw [d] at z; cases z⟩
  keep := fun i h h' st k => st.at fun o e => k o e
  here := fun X pins σ H s hK I sm => by
    subst hK
    have h3 := same_sqT sm h1
    obtain ⟨its, rv, p, _⟩ := I.tuple h3
    have hl : its.length = ds.length := by rw [← h2.length, ← rv.length]
    have C := itc_tup (it := it) (l := l) (its := its)
    refine ⟨[l], fun i x => its[i]? = some x, fun h => h.IsTuple l its.toArray, p, ?_, fun b hb b' hf => ?_, fun i x hx => ?_⟩
    · rw [← hl]; exact C
    · rw [List.mem_singleton] at hb; subst hb; exact dep_ne I h3 hf
    · have hi := (List.getElem?_eq_some_iff.mp hx).1
      have hv : i < vs.length := by rw [rv.length]; exact hi
      obtain ⟨u, hu, ru⟩ := rv.get (List.getElem?_eq_getElem hv)
      rw [hx] at hu; cases hu
      obtain ⟨d, hd, rd⟩ := h2.get' (List.getElem?_eq_getElem hv)
      exact ⟨vs[i], d, ru, hd, rd⟩
theorem src_lst {K : PySem.W.Frag} {F : Hp} {it l : Addr} {vs : List V} {ds : List D} (h1 : F l = some (.lst vs)) (h2 : Reps K F vs ds) : Src K F it ds (fun i h => h.IsListIter it l i) where
  obj := fun i h ⟨o, e, _, d⟩ => ⟨o, e, fun v z => by rw [d] at z; cases z⟩
  keep := fun i h h' st k => st.at fun o e => k o e
  here := fun X pins σ H s hK I sm => by
    subst hK
    have h3 := sm _ _ h1
    obtain ⟨its, rv, p, _⟩ := I.list (SqL.of h3)
    have hl : its.length = ds.length := by rw [← h2.length, ← rv.length]
    have C := itc_list (it := it) (l := l) (its := its)
    refine ⟨[l], fun i x => its[i]? = some x, fun h => h.IsList l its.toArray, p.isList, ?_, fun b hb b' hf => ?_, fun i x hx => ?_⟩
    · rw [← hl]; exact C
    · rw [List.mem_singleton] at hb; subst hb
      rintro rfl
      rw [hf.1] at h3; cases h3
    · have hi := (List.getElem?_eq_some_iff.mp hx).1
      have hv : i < vs.length := by rw [rv.length]; exact hi
      obtain ⟨u, hu, ru⟩ := rv.get (List.getElem?_eq_getElem hv)
      rw [hx] at hu; cases hu
      obtain ⟨d, hd, rd⟩ := h2.get' (List.getElem?_eq_getElem hv)
      exact ⟨vs[i], d, ru, hd, rd⟩
/-- pairs of the items of both -/
def ItzG (K : PySem.W.Frag) (F : Hp) (ds es : List D) : It :=
  ⟨fun i H => Same F H ∧ i < ds.length ∧ i < es.length,
   fun i H v H' => ∃ T x y d e, v = .ref T ∧ H T = none ∧ H' = upd H T (.tup [x, y]) ∧ ds[i]? = some d ∧ es[i]? = some e ∧ Rep K F x d ∧ Rep K F y e,
   fun i H => Same F H ∧ (i = ds.length ∨ (i < ds.length ∧ i = es.length))⟩
theorem turn_zipG {P : Program} {w : World} {K : PySem.W.Frag} {F : Hp} {ds es : List D} {elts : List Expr} {kk : Nat} {tpos : Pos} {z TI TO i1 i2 : Addr} {st1 st2 : Nat → Heap → Prop} (hTIz : TI ≠ z) (hTOz : TO ≠ z) (hi1z : i1 ≠ z) (hi2z : i2 ≠ z) (hTITO : TI ≠ TO) (hTIi1 : TI ≠ i1) (hTIi2 : TI ≠ i2) (hTOi1 : TO ≠ i1) (hTOi2 : TO ≠ i2) (hi12 : i1 ≠ i2)
    (S1 : Src K F i1 ds st1) (S2 : Src K F i2 es st2) :
    Turn P w K (.Tuple elts kk tpos) (ItzG K F ds es) [z, TI, TO, i1, i2] z (fun i h => IsZip h z TI TO .none ∧ IsPair h TI (.ref i1) (.ref i2) ∧ (∃ x y, IsPair h TO x y) ∧ st1 i h ∧ st2 i h) where
  mem := by simp
  obj := fun i h st c hc => by
    obtain ⟨hz, hTI, ⟨x, y, hTO⟩, h1, h2⟩ := st
    have e' : c = z ∨ c = TI ∨ c = TO ∨ c = i1 ∨ c = i2 := by simpa using hc
    rcases e' with q | q | q | q | q
    · rw [q]; exact ⟨_, hz, fun v q => nomatch q⟩
    · rw [q]; exact ⟨_, hTI, fun v q => nomatch q⟩
    · rw [q]; exact ⟨_, hTO, fun v q => nomatch q⟩
    · rw [q]; exact S1.obj i h h1
    · rw [q]; exact S2.obj i h h2
  keep := fun i h h' st k => by
    obtain ⟨hz, hTI, ⟨x, y, hTO⟩, h1, h2⟩ := st
    exact ⟨k z (by simp) _ hz, k TI (by simp) _ hTI, ⟨x, y, k TO (by simp) _ hTO⟩, S1.keep i h h' h1 fun o q => k i1 (by simp) o q, S2.keep i h h' h2 fun o q => k i2 (by simp) o q⟩
  item := by
    intro X hP hw hK hc i pins s σ H E I hf st hg
    subst hP hw hK
    obtain ⟨hz, hTI, ⟨x0, y0, hTO⟩, h1, h2⟩ := st
    obtain ⟨sm, l1, l2⟩ := hg
    obtain ⟨dep1, val1, c1, hc1, C1, n1, r1⟩ := S1.here X pins σ H s rfl I sm
    obtain ⟨dep2, val2, c2, hc2, C2, n2, r2⟩ := S2.here X pins σ H s rfl I sm
    have Dz : ZAp z TI TO i1 i2 dep1 dep2 := ⟨hTIz, hTOz, hi1z, hi2z, hTITO, hTIi1, hTIi2, hTOi1, hTOi2, hi12, fun b hb => by
      have key : ∀ b', FpOk X pins H b' → b ≠ b' := fun b' hf' => (List.mem_append.mp hb).elim (fun q => n1 b q b' hf') fun q => n2 b q b' hf'
      exact ⟨key z (hf z (by simp)), key TO (hf TO (by simp)), key i1 (hf i1 (by simp)), key i2 (hf i2 (by simp))⟩⟩
    have hzl : z < s.heap.objs.size := Heap.lt_size hz
    refine pyNext_zipG Dz C1 C2 hz hTI hTO ⟨h1, hc1⟩ ⟨h2, hc2⟩ l1 l2 fun h' tk x y hx hy z' TO' h1' h2' hT hsz hk => ?_
    obtain ⟨v1, d1, rv1, hd1, rp1⟩ := r1 i x hx
    obtain ⟨v2, d2, rv2, hd2, rp2⟩ := r2 i y hy
    refine ⟨_, rfl, wpAny_letOwnedTupleGo_zip (s := { s with heap := h', toks := tk }) z' fun h'' z'' sb => ?_⟩
    have hT2 : h''.get? s.heap.objs.size = some { cls := .type "tuple", data := .seq #[x, y] } := (sb.2 _ (Nat.ne_of_gt hzl)).trans hT
    have new : ObjOk X.prog X.w (upd H s.heap.objs.size (.tup [v1, v2])) h'' s.heap.objs.size (.tup [v1, v2]) :=
      ⟨by show 2 ≤ sizeLine; decide, [x, y], .cons rv1 (.cons rv2 .nil), ⟨_, hT2, rfl, _, rfl⟩⟩
    have I1 : Inv X pins σ (upd H s.heap.objs.size (.tup [v1, v2])) { s with heap := h'', toks := tk } :=
      I.turnedNew (t' := tk) (ch := [z, TI, TO, i1, i2]) (fun c o hb q => (sb.2 c (fun q' => hb (by simp [q']))).trans (hk c o (fun q' => hb (by simp [q'])) (fun q' => hb (by simp [q'])) (fun q' => hb (by simp [q'])) (fun q' => hb (by simp [q'])) q)) hf (Nat.le_refl _) new
    refine ⟨.ref s.heap.objs.size, _, I1, rfl, ⟨_, v1, v2, d1, d2, rfl, I.hok.fresh (Nat.le_refl _), rfl, hd1, hd2, rp1, rp2⟩, ⟨z'', ?_, ⟨x, y, ?_⟩, ?_, ?_⟩, fun c hcm => ?_⟩
    · exact (sb.2 _ hTIz).trans (hk _ _ hTIz hTITO hTIi1 hTIi2 hTI)
    · exact (sb.2 _ hTOz).trans TO'
    · exact S1.keep _ _ _ h1'.1 fun o q => (sb.2 _ hi1z).trans q
    · exact S2.keep _ _ _ h2'.1 fun o q => (sb.2 _ hi2z).trans q
    · have hlt : c < s.heap.objs.size := by
        have e' : c = z ∨ c = TI ∨ c = TO ∨ c = i1 ∨ c = i2 := by simpa using hcm
        rcases e' with q | q | q | q | q
        · rw [q]; exact hzl
        · rw [q]; exact Heap.lt_size hTI
        · rw [q]; exact Heap.lt_size hTO
        · rw [q]; obtain ⟨_, e1, _⟩ := S1.obj i _ h1; exact Heap.lt_size e1
        · rw [q]; obtain ⟨_, e2, _⟩ := S2.obj i _ h2; exact Heap.lt_size e2
      rw [upd_ne (Nat.ne_of_lt hlt)]
      exact (hf c hcm).1
  done := by
    intro X hP hw hK hc i pins s σ H E I hf st hg
    subst hP hw hK
    obtain ⟨hz, hTI, ⟨x0, y0, hTO⟩, h1, h2⟩ := st
    obtain ⟨sm, hend⟩ := hg
    obtain ⟨dep1, val1, c1, hc1, C1, n1, r1⟩ := S1.here X pins σ H s rfl I sm
    obtain ⟨dep2, val2, c2, hc2, C2, n2, r2⟩ := S2.here X pins σ H s rfl I sm
    have Dz : ZAp z TI TO i1 i2 dep1 dep2 := ⟨hTIz, hTOz, hi1z, hi2z, hTITO, hTIi1, hTIi2, hTOi1, hTOi2, hi12, fun b hb => by
      have key : ∀ b', FpOk X pins H b' → b ≠ b' := fun b' hf' => (List.mem_append.mp hb).elim (fun q => n1 b q b' hf') fun q => n2 b q b' hf'
      exact ⟨key z (hf z (by simp)), key TO (hf TO (by simp)), key i1 (hf i1 (by simp)), key i2 (hf i2 (by simp))⟩⟩
    exact pyNext_zipG_end (I.ok.hd hc) Dz C1 C2 hz hTI hTO ⟨h1, hc1⟩ ⟨h2, hc2⟩ hend fun h' tk hk => ⟨rfl, I.turnedL (t' := tk) (ch := [z, TI, TO, i1, i2]) (fun c o hb q =>
      hk c o (fun q' => hb (by simp [q'])) (fun q' => hb (by simp [q'])) (fun q' => hb (by simp [q'])) (fun q' => hb (by simp [q'])) q) hf⟩
  self := fun A i s Q E st h => wpAny_pyIter_zip st.1 h
/-- what may stand in a zip: its items -/
inductive ZSrc : D → List D → Prop
  | str (z) : ZSrc (.str z) (chars z)
  | tup (ds) : ZSrc (.tup ds) ds
  | lst (ds) : ZSrc (.lst ds) ds
theorem zsrc_here {X : Cx} {pins : List (Addr × Obj)} {σ : L2.St} {H F : Hp} {sh : Shared} {d : D} {ds : List D} {v : V} {u : Value} (zs : ZSrc d ds) (I : Inv X pins σ H sh) (sm : Same F H) (rp : Rep X.K F v d) (ru : RelV v u) :
    ∃ (o : Obj) (c : Heap → Prop), Mki u o c ∧ c sh.heap ∧ ∀ it : Addr, ∃ st, Src X.K F it ds st ∧ ∀ h : Heap, h.get? it = some o → st 0 h := by
  cases zs with
  | str z =>
    cases rp
    obtain ⟨t, rfl⟩ := ru
    obtain ⟨ty, hty, m⟩ := mki_str (x := z) (t := t)
    exact ⟨_, _, m, trivial, fun it => ⟨_, src_str hty, fun h e => ⟨_, e, rfl, rfl⟩⟩⟩
  | tup ds =>
    obtain ⟨a, vs, rfl, h1, h2⟩ := rep_tup rp
    cases ru
    obtain ⟨its, _, p, _⟩ := I.tuple (same_sqT sm h1)
    exact ⟨_, _, mki_tup (l := a) (items := its.toArray), p, fun it => ⟨_, src_tup h1 h2, fun h e => ⟨_, e, rfl, rfl⟩⟩⟩
  | lst ds =>
    obtain ⟨a, vs, rfl, h1, h2⟩ := rep_lst rp
    cases ru
    obtain ⟨its, _, p, _⟩ := I.list (SqL.of (sm _ _ h1))
    exact ⟨_, _, mki_list (l := a) (items := its.toArray), p.isList, fun it => ⟨_, src_lst h1 h2, fun h e => ⟨_, e, rfl, rfl⟩⟩⟩
theorem yl_zip {K : PySem.W.Frag} {F : Hp} {ds es : List D} : Yl K (ItzG K F ds es) F (ds.zipWith (fun a b => .tup [a, b]) es) := by
  refine ⟨fun i H hi h => ⟨h, ?_⟩, fun H h => ⟨h, ?_⟩, fun i H x H' hi h y => ?_⟩
  · rw [List.length_zipWith] at hi; omega
  · rw [List.length_zipWith]; omega
  · obtain ⟨T, a, b, d, e, h1, h2, h3, h4, h5, h6, h7⟩ := y
    exact ⟨.tup [d, e], by rw [List.getElem?_zipWith, h4, h5], .inr ⟨T, [a, b], [d, e], h1, h2, h3, rfl, .cons h6 (.cons h7 .nil)⟩⟩
theorem nn {a b c : Nat} (h : b ≠ c) : (a + b : Nat) ≠ a + c := fun z => h (Nat.add_left_cancel z)
theorem n0 {a c : Nat} (h : 0 ≠ c) : (a : Nat) ≠ a + c := fun z => h (Nat.add_left_cancel (n := a) (by rw [Nat.add_zero]; exact z))
theorem call_zipG {prog : Program} {w : World} {A : Around} {E : Value → Shared → Prop} {s : Shared} {u1 u2 : Value} {o1 o2 : Obj} {c1 c2 : Heap → Prop} (m1 : Mki u1 o1 c1) (m2 : Mki u2 o2 c2) {Q : Value → Shared → Prop} (hl1 : c1 s.heap) (hl2 : c2 s.heap)
    (h : ∀ h', IsZip h' (s.heap.objs.size + 4) (s.heap.objs.size + 2) (s.heap.objs.size + 3) .none → IsPair h' (s.heap.objs.size + 2) (.ref s.heap.objs.size) (.ref (s.heap.objs.size + 1)) →
      IsPair h' (s.heap.objs.size + 3) .none .none → (o1.isFreed = false → h'.get? s.heap.objs.size = some o1) → (o2.isFreed = false → h'.get? (s.heap.objs.size + 1) = some o2) → h'.objs.size = s.heap.objs.size + 5 →
      (∀ c o, s.heap.get? c = some o → h'.get? c = some o) → Q (.ref (s.heap.objs.size + 4)) { s with heap := h' }) :
    wpAny (model prog w) A (call (.type "zip") [u1, u2]) Q E s := by
  refine callType_new F.called_zip (by decide) (F.typeCall_zip_2 _ _) (F.newCall_zip_2 _ _) (fun obj => F.args_object_init_3 obj _ _) F.entry_zip_new
    (meets_zipG m1 m2) ⟨hl1, hl2, ?_⟩
  have z1 : (s.heap.push o1).objs.size = s.heap.objs.size + 1 := Heap.size_push ..
  have z2 : (zH2 s.heap o1 o2).objs.size = s.heap.objs.size + 2 := by rw [Heap.size_push, z1]
  have z3 : (zH3 s.heap o1 o2).objs.size = s.heap.objs.size + 3 := by rw [Heap.size_push, z2]
  have z4 : (zH4 s.heap o1 o2).objs.size = s.heap.objs.size + 4 := by rw [Heap.size_push, z3]
  have z5 : (zH5 s.heap o1 o2).objs.size = s.heap.objs.size + 5 := by rw [Heap.size_push, z4]
  have g5 : (zH5 s.heap o1 o2).get? (zH4 s.heap o1 o2).objs.size = some _ := Heap.get?_push_size _ rfl
  have g4 : (zH5 s.heap o1 o2).get? (zH3 s.heap o1 o2).objs.size = some _ := Heap.get?_push_of_some _ (Heap.get?_push_size _ rfl)
  have g3 : (zH5 s.heap o1 o2).get? (zH2 s.heap o1 o2).objs.size = some _ := Heap.get?_push_of_some _ (Heap.get?_push_of_some _ (Heap.get?_push_size _ rfl))
  have g2 : o2.isFreed = false → (zH5 s.heap o1 o2).get? (s.heap.push o1).objs.size = some _ := fun hf => Heap.get?_push_of_some _ (Heap.get?_push_of_some _ (Heap.get?_push_of_some _ (Heap.get?_push_size _ hf)))
  have g1 : o1.isFreed = false → (zH5 s.heap o1 o2).get? s.heap.objs.size = some _ := fun hf => Heap.get?_push_of_some _ (Heap.get?_push_of_some _ (Heap.get?_push_of_some _ (Heap.get?_push_of_some _ (Heap.get?_push_size _ hf))))
  show _ ∧ _
  rw [z2, z3, z4] at g5
  rw [z1, z2] at g3
  rw [z3] at g4
  rw [z1] at g2
  rw [z4]
  exact ⟨⟨_, g5, rfl⟩, h _ g5 g3 g4 g1 g2 z5 fun c o x => Heap.get?_push_of_some _ (Heap.get?_push_of_some _ (Heap.get?_push_of_some _ (Heap.get?_push_of_some _ (Heap.get?_push_of_some _ x))))⟩
section
variable {X : Cx} {N : En} {W : WX} {n : Nat} {δ : List (Option S)} {μ μ1 : List M} {e e2 : Expr} {d1 d2 : D} {ds es : List D} {elts : List Expr} {kk : Nat} {p pos tpos : Pos}
theorem di_zip (g : Go X N W n) (ha : DA X N W δ μ [e, e2] [.p d1, .p d2] μ1) (z1 : ZSrc d1 ds) (z2 : ZSrc d2 es) (hm : X.mg "zip" = none) (hg : Gl X "zip" := by rfl)
    (hs : starEach [e, e2] X.env = (false, eval e X.env) :: starEach [e2] X.env := by rfl) (hpl : (backTo pos (starEach [e2] X.env)).any (·.1) = false := by rfl) :
    DI X N W δ μ (.Tuple elts kk tpos) (.Call (.Name "zip" p) [e, e2] [] pos) (ds.zipWith (fun a b => .tup [a, b]) es) μ1 := by
  refine ⟨fun pins s σ H Rk I ⟨F, A, R0, k⟩ => ?_⟩
  refine Call_ (ld_blt I hg hm PyProof.Rows.boot_zip (PyProof.Rows.callWith_type1 (thn (ha.run pos pins s σ H (fun vs H' => ∃ F' A', Same F F' ∧ A <+: A' ∧ Rl N F' A' H' σ δ μ1 ∧ RepSs N.K F' A' vs [.p d1, .p d2]) I ⟨F, A, R0, fun vs F' A' H' h1 h2 h3 h4 => ⟨F', A', h1, h2, h3, h4⟩⟩) fun us s1 ⟨vs, H1, I1, r1, F1, A1, e1, p1, R1, rv⟩ => ?_) hs hpl))
  obtain ⟨v, u, rfl, rp1, rp2⟩ := two_of rv
  have hK := g.hK
  rw [hK] at rp1 rp2
  cases r1 with
  | cons ru1 rr =>
    cases rr with
    | cons ru2 rr =>
      cases rr
      obtain ⟨o1, c1, m1, h1, q1⟩ := zsrc_here z1 I1 R1.rc.sub (show Rep X.K F1 v d1 from rp1) ru1
      obtain ⟨o2, c2, m2, h2, q2⟩ := zsrc_here z2 I1 R1.rc.sub (show Rep X.K F1 u d2 from rp2) ru2
      refine call_zipG m1 m2 h1 h2 fun h' hz hTI hTO f1 f2 hsz hk => wpAny_pyIter_zip hz ?_
      have I2 : Inv X pins σ H1 { s1 with heap := h' } := I1.kept (t' := s1.toks) hk
      obtain ⟨st1, S1, b1⟩ := q1 s1.heap.objs.size
      obtain ⟨st2, S2, b2⟩ := q2 (s1.heap.objs.size + 1)
      have g1 := f1 m1.nf
      have g2 := f2 m2.nf
      have st10 := b1 h' g1
      have st20 := b2 h' g2
      have T := turn_zipG (P := X.prog) (w := X.w) (K := X.K) (F := F1) (ds := ds) (es := es) (elts := elts) (kk := kk) (tpos := tpos) (z := s1.heap.objs.size + 4) (TI := s1.heap.objs.size + 2) (TO := s1.heap.objs.size + 3) (i1 := s1.heap.objs.size) (i2 := s1.heap.objs.size + 1)
        (nn (by decide)) (nn (by decide)) (n0 (by decide)) (nn (by decide)) (nn (by decide)) (n0 (by decide)).symm (nn (by decide)) (n0 (by decide)).symm (nn (by decide)) (n0 (by decide)) S1 S2
      refine ⟨s1.heap.objs.size + 4, [s1.heap.objs.size + 4, s1.heap.objs.size + 2, s1.heap.objs.size + 3, s1.heap.objs.size, s1.heap.objs.size + 1], _, _, H1, rfl, I2, T, ⟨hz, hTI, ⟨_, _, hTO⟩, st10, st20⟩, fun c hcm => ?_, ?_⟩
      · have e' : c = s1.heap.objs.size + 4 ∨ c = s1.heap.objs.size + 2 ∨ c = s1.heap.objs.size + 3 ∨ c = s1.heap.objs.size ∨ c = s1.heap.objs.size + 1 := by simpa using hcm
        have hle : s1.heap.objs.size ≤ c := by
          rcases e' with z | z | z | z | z
          · rw [z]; exact Nat.le_add_right _ _
          · rw [z]; exact Nat.le_add_right _ _
          · rw [z]; exact Nat.le_add_right _ _
          · rw [z]; exact Nat.le_refl _
          · rw [z]; exact Nat.le_add_right _ _
        exact I1.fpOk hle (I1.hok.fresh hle)
      · have y := yl_zip (K := X.K) (F := F1) (ds := ds) (es := es)
        rw [← hK] at y ⊢
        exact k _ F1 A1 H1 e1 p1 R1 y
end
end Dl
set_option Elab.async false
set_option linter.all false
set_option maxRecDepth 100000
set_option maxHeartbeats 4000000
set_option autoImplicit false
namespace Dl
open PySem PySem.Spec PyProof.Rows L2
/-! ## isinstance -/
structure ClsI (K : PySem.W.Frag) (C : Addr) : Prop where
  cl : Cls K C
  ha : PySem.W.findIn K (.ref C) "__class__" = some (some (.builtin "object.__class__"))
  hn : PySem.W.specialIn K (.builtin "object.__class__") "__get__" = some (some (.builtin "getset_descriptor.__get__"))
  ht : PySem.W.takesIn K (.builtin "object.__class__") = some true
  hm : PySem.W.mroIn K C (.type "object") = some true
inductive TyI (K : PySem.W.Frag) : D → Value → Prop
  | non : TyI K .non (.type "NoneType")
  | bl (b) : TyI K (.bl b) (.type "bool")
  | int (i) : TyI K (.int i) (.type "int")
  | str (z) : TyI K (.str z) (.type "str")
  | tup (ds) : TyI K (.tup ds) (.type "tuple")
  | lst (ds) : TyI K (.lst ds) (.type "list")
  | dic (ks ds) : TyI K (.dic ks ds) (.type "dict")
  | ins (C ns ds) : ClsI K C → TyI K (.ins C ns ds) (.ref C)
inductive ClsD : D → Value → Prop
  | ty (n) : ClsD (.ty n) (.type n)
  | adr (C) : ClsD (.adr C) (.ref C)
theorem tyX_of {K : PySem.W.Frag} {F H : Hp} {v : V} {d : D} {t : Value} (sm : Same F H) (ty : TyI K d t) (rp : Rep K F v d) : TyX K H v t := by
  cases ty with
  | non => cases rp; exact .base .non
  | bl b => cases rp; exact .base (.bl b)
  | int b => cases rp; exact .base (.int b)
  | str b => cases rp; exact .base (.str b)
  | tup ds =>
    obtain ⟨a, vs, rfl, h1, _⟩ := rep_tup rp
    rcases same_sqT sm h1 with (h | ⟨o, h⟩) | ⟨o, its, n, hk, hc, _⟩
    · exact .base (.tup h)
    · exact .fTuple h
    · exact .kTuple hk hc
  | lst ds =>
    obtain ⟨a, vs, rfl, h1, _⟩ := rep_lst rp
    exact .base (.lst (sm _ _ h1))
  | dic ks ds =>
    generalize hd : D.dic ks ds = d' at rp
    cases rp with
    | dic h1 h2 => exact .base (.dK (sm _ _ h1))
    | _ => cases hd
  | ins C ns ds c =>
    obtain ⟨a, dx, fs, rfl, h1, _⟩ := rep_ins rp
    exact .base (.ins (sm _ _ h1) c.cl c.ha c.hn c.ht c.hm)
section
variable {X : Cx} {N : En} {W : WX} {n : Nat} {δ δ' δ1 δ2 : List (Option S)} {μ μ' μ1 μ2 μ3 : List M} {e a b c o : Expr} {es : List Expr} {ss : List S} {pos p apos : Pos} {d : D} {s s1 s2 : S} {r : Rx} {R : Rel} {k : Nat} {x m f : Str} {dd : List D} {C : Addr}
theorem c_isi (g : Go X N W n) {d c : D} {t u : Value} {q : Bool} (ty : TyI X.K d t) (cl : ClsD c u) (h : PySem.W.kitOne X.K t u = some q) : CallOk X N W (.builtin "isinstance") μ [.p d, .p c] (.v (.p (.bl q))) μ :=
  ⟨_, call_isi, fun σ δ F A H vs Q R rv k => by
    obtain ⟨v, w, rfl, h1, h2⟩ := two_of rv
    have hK := g.hK
    have h1' : Rep X.K F v d := by rw [← hK]; exact h1
    have h2' : Rep X.K F w c := by rw [← hK]; exact h2
    refine ⟨v, w, t, u, q, rfl, ?_, tyX_of R.rc.sub ty h1', h, k.here R (.bl _)⟩
    cases cl with
    | ty n => cases h2'; exact .ty n
    | adr C => cases h2'; exact .own C⟩
/-- a builtin type by its name -/
theorem de_ty {x : Str} {T : String} (hm : X.mg x = none) (hv : bootBuiltins x = some (.type T)) (hg : Gl X x := by rfl) (hn : x ≠ "__name__" := by decide) (hd : (x == ("__debug__" : Str)) = false := by decide) : DE X N W δ μ (.Name x pos) (.v (.p (.ty T))) μ :=
  de_c (pe_bltn (v := .ty T) hg hm hv rfl hn hd) fun _ _ => .ty T
/-! ## chains -/
theorem de_chn {op op' : CmpOp} {s3 : S} {k k' : Bool} (ha : DE X N W δ μ a (.v s1) μ1) (hb : DE X N W δ μ1 b (.v s2) μ2) (h : OpOk X N W (compareOp op) μ2 s1 s2 (.v (.p (.bl k))) μ2)
    (hc : k = true → DE X N W δ μ2 c (.v s3) μ2) (h' : k = true → OpOk X N W (compareOp op') μ2 s2 s3 (.v (.p (.bl k'))) μ2) (hm : lastMarks [op, op'] [b, c] = false := by with_unfolding_all rfl) : DE X N W δ μ (.Compare a [op, op'] [b, c] pos) (.v (.p (.bl (k && k')))) μ2 := by
  obtain ⟨rr, ho, hr⟩ := h
  cases k with
  | false =>
    refine PE.imp (pe_chain (op' := op') (r' := fun _ _ _ _ => False) ho (fun _ _ _ _ _ _ _ _ _ _ _ _ z => z.elim) ha hb (pe_no (X := X) (e := c)) hm) fun σ H Q ⟨F, A, R, q⟩ => ⟨F, A, R, fun x F1 A1 H1 e1 p1 R1 rx => ⟨F1, A1, R1, fun y F2 A2 H2 e2 p2 R2 ry => hr σ δ F2 A2 H2 x y _ R2 (rx.mono e2 p2) ry fun v F3 A3 H3 e3 p3 R3 rv => ?_⟩⟩
    have rv' : Rep N.K F3 v (.bl false) := rv
    cases rv'
    exact ⟨false, rfl, iteF (q _ F3 A3 H3 ((e1.trans e2).trans e3) ((p1.trans p2).trans p3) R3 (.bl _))⟩
  | true =>
    obtain ⟨rr', ho', hr'⟩ := h' rfl
    refine PE.imp (pe_chain ho ho' ha hb (hc rfl) hm) fun σ H Q ⟨F, A, R, q⟩ => ⟨F, A, R, fun x F1 A1 H1 e1 p1 R1 rx => ⟨F1, A1, R1, fun y F2 A2 H2 e2 p2 R2 ry => hr σ δ F2 A2 H2 x y _ R2 (rx.mono e2 p2) ry fun v F3 A3 H3 e3 p3 R3 rv => ?_⟩⟩
    have rv' : Rep N.K F3 v (.bl true) := rv
    cases rv'
    exact ⟨true, rfl, iteT ⟨F3, A3, R3, fun z F4 A4 H4 e4 p4 R4 rz => hr' σ δ F4 A4 H4 y z Q R4 ((ry.mono e3 p3).mono e4 p4) rz (EndE.to (((e1.trans e2).trans e3).trans e4) (((p1.trans p2).trans p3).trans p4) q)⟩⟩
theorem dt_chn {op op' : CmpOp} {s3 : S} {k k' : Bool} (ha : DE X N W δ μ a (.v s1) μ1) (hb : DE X N W δ μ1 b (.v s2) μ2) (h : OpOk X N W (compareOp op) μ2 s1 s2 (.v (.p (.bl k))) μ2)
    (hc : k = true → DE X N W δ μ2 c (.v s3) μ2) (h' : k = true → OpOk X N W (compareOp op') μ2 s2 s3 (.v (.p (.bl k'))) μ2) (hm : lastMarks [op, op'] [b, c] = false := by with_unfolding_all rfl) : DT X N W δ μ (.Compare a [op, op'] [b, c] pos) (k && k') μ2 := by
  obtain ⟨rr, ho, hr⟩ := h
  cases k with
  | false =>
    refine PT.imp (pt_chain (op' := op') (r' := fun _ _ _ _ => False) ho (fun _ _ _ _ _ _ _ _ _ _ _ _ z => z.elim) ha hb (pe_no (X := X) (e := c)) hm) fun σ H Q ⟨F, A, R, q⟩ => ⟨F, A, R, fun x F1 A1 H1 e1 p1 R1 rx => ⟨F1, A1, R1, fun y F2 A2 H2 e2 p2 R2 ry => hr σ δ F2 A2 H2 x y _ R2 (rx.mono e2 p2) ry fun v F3 A3 H3 e3 p3 R3 rv => ?_⟩⟩
    have rv' : Rep N.K F3 v (.bl false) := rv
    cases rv'
    exact ⟨false, rfl, iteF ⟨false, rfl, q F3 A3 H3 ((e1.trans e2).trans e3) ((p1.trans p2).trans p3) R3⟩⟩
  | true =>
    obtain ⟨rr', ho', hr'⟩ := h' rfl
    refine PT.imp (pt_chain ho ho' ha hb (hc rfl) hm) fun σ H Q ⟨F, A, R, q⟩ => ⟨F, A, R, fun x F1 A1 H1 e1 p1 R1 rx => ⟨F1, A1, R1, fun y F2 A2 H2 e2 p2 R2 ry => hr σ δ F2 A2 H2 x y _ R2 (rx.mono e2 p2) ry fun v F3 A3 H3 e3 p3 R3 rv => ?_⟩⟩
    have rv' : Rep N.K F3 v (.bl true) := rv
    cases rv'
    exact ⟨true, rfl, iteT ⟨F3, A3, R3, fun z F4 A4 H4 e4 p4 R4 rz => hr' σ δ F4 A4 H4 y z _ R4 ((ry.mono e3 p3).mono e4 p4) rz (EndE.bool fun F' A' H' e' p' R' => q F' A' H' ((((e1.trans e2).trans e3).trans e4).trans e') ((((p1.trans p2).trans p3).trans p4).trans p') R')⟩⟩
/-! ## written dicts with text keys -/
theorem de_kdIx {es : Array DictEntry} {m : Nat} {z : Str} {ad : Addr} {u : Value} (Dk : KDict X.K X.w ad es m) (ha : DE X N W δ μ a (.v (.p (.adr ad))) μ1) (hb : DE X N W δ μ1 b (.v (.p (.str z))) μ2) (h : PySem.W.nsIn X.K ad z = some (some u)) {v : V} (ru : RelV v u) (rp : ∀ K F, Rep K F v d) (hs : PlainIx b := by exact fun _ _ => rfl) :
    DE X N W δ μ (.Subscript a b pos) (.v (.p d)) μ2 := by
  refine ⟨fun pins s σ H Q I ⟨F, A, R0, q⟩ => ?_⟩
  refine Subscript_ (two_then ha hb I R0 (fn := fun v u => subscriptTail a b v u) fun v' u' s3 x y H2 F2 A2 I2 rx ry e2 p2 R2 h1 h2 => ?_)
  cases rs_adr h1
  cases rs_str h2
  cases rx
  obtain ⟨t, rfl⟩ := ry
  refine tail_any (kd_type Dk I2) PySem.F.slot_dict_getitem.lookup (op_item_kd Dk pins s3 σ H2 (.ref ad) (.str z) (.ref ad) (.str z t) Q I2 rfl ⟨t, rfl⟩ ⟨z, u, v, rfl, rfl, h, ru, q v F2 A2 H2 e2 p2 R2 (rp _ _)⟩) (by first | exact hs _ _ | with_unfolding_all rfl)
end
end Dl
set_option Elab.async false
set_option linter.all false
set_option maxRecDepth 100000
set_option maxHeartbeats 4000000
set_option autoImplicit false
namespace Dl
open PySem PySem.Spec PyProof.Rows L2
/-! ## own errors that keep their only argument -/
/-- what __init__ of such a class does with an exception that is being made -/
def spErr (K : PySem.W.Frag) : Sp := fun vs H Q _ => ∃ (a C : Addr) (y : V), vs = [.ref a, y] ∧ OexC K C ∧ PySem.W.findIn K (.ref C) "value" = some none ∧ H a = some (exo a C none) ∧
  ∀ dx, H dx = none → dx ≠ a → Q .non (upd (upd H dx (exd dx [("value", y)])) a (exo a C (some dx)))
/-- an own error class of the text, by its name -/
structure Ce (P : Program) (w : World) (K : PySem.W.Frag) (mg : Str → Option Value) (base : Heap) (k : Nat) (C : Addr) (x : Str) : Prop where
  at_ : mg x = some (.ref C)
  oc : OexC K C
  nv : PySem.W.findIn K (.ref C) "value" = some none
  ex : ∃ (f : Addr) (fd : FuncData) (ps : List Str), FnOk P w K mg base (L2.CX P w) k f fd ps (spErr K) ∧ PySem.W.findIn K (.ref C) "__init__" = some (some (.ref f)) ∧ PySem.W.typeIn K (.ref f) = some (.type "function") ∧ Binds K fd ps []
section
variable {X : Cx} {N : En} {W : WX} {n : Nat} {δ δ' δ1 δ2 : List (Option S)} {μ μ' μ1 μ2 μ3 : List M} {e a b c o : Expr} {es : List Expr} {ss : List S} {pos p apos : Pos} {d : D} {s s1 s2 : S} {r : Rx} {R : Rel} {k : Nat} {x m f : Str} {dd : List D} {C : Addr}
theorem ds_raise (g : Go X N W n) (ce : Ce X.prog X.w X.K X.mg X.base k C x) (ha : DE X N W δ μ e (.v (.p d)) μ1) (hk : k + 1 ≤ n := by decide) (hg : Gl X x := by rfl) (hdb : (x == ("__debug__" : Str)) = false := by decide) (hs : starEach (e :: []) X.env = (false, eval e X.env) :: starEach [] X.env := by rfl) (hpl : (backTo p (starEach [] X.env)).any (·.1) = false := by rfl) :
    DS X N W δ μ (.Raise (some (.Call (.Name x apos) [e] [] p)) none pos) (.xx C d δ μ1) := by
  obtain ⟨f, fd, ps, Fo, hi, ht, hb⟩ := ce.ex
  have hx : Passes (L2.CX X.prog X.w) X (fun _ _ _ => False) := fun _ _ _ _ _ _ _ c => by
    obtain ⟨_, _, _, _, _, _, _, _, _, _, _, _, z⟩ := c
    exact z.elim
  refine PS.imp (ps_raise g.calm g.tk (pmk_oex ce.oc hi ht Fo (g.room.mono hk) hb .nil hx hg ce.at_ (da_cons ha da_nil hs) hdb hs hpl)) fun K σ H ⟨F, A, R0, q⟩ => ?_
  refine ⟨F, A, R0, fun vs F1 A1 H1 e1 p1 R1 rv => ?_⟩
  obtain ⟨v, rfl, rp⟩ := one_of rv
  refine ⟨by show 1 ≤ 1000; decide, fun a na => ?_⟩
  refine ⟨a, C, v, rfl, ce.oc, ce.nv, upd_same, fun dx ndx ne => ⟨rfl, dx, [("value", v)], upd_same, ?_, ?_, ?_⟩⟩
  · rw [upd_ne ne, upd_same]
  · rw [upd_ne ne] at ndx; exact ndx
  · have ndx' : H1 dx = none := by rw [upd_ne ne] at ndx; exact ndx
    have e : upd (del (upd (upd (upd H1 a (exo a C none)) dx (exd dx [("value", v)])) a (exo a C (some dx))) a) dx (.xd [("value", v)]) = upd H1 dx (.xd [("value", v)]) := by
      funext b
      by_cases hb : b = dx
      · subst hb; rw [upd_same, upd_same]
      · rw [upd_ne hb, upd_ne hb]
        by_cases ha : b = a
        · subst ha; rw [del_same]; exact na.symm
        · rw [del_ne ha, upd_ne ha, upd_ne hb, upd_ne ha]
    rw [e]
    have sm := same_updN (o := .xd [("value", v)]) (R1.rc.fresh ndx').2.1
    exact q σ dx v _ A1 _ (e1.trans sm) p1 (R1.to sm (List.prefix_refl _) (R1.rc.frozen ndx' _)) upd_same (Rep.mono sm rp)
/-! ## statements with an expression that raises -/
/-! ## lists that change, by their methods -/
theorem m_append {j : Nat} {ds : List D} (hj : μ[j]? = some (.lst ds)) (hj0 : μ1[j]? = some (.lst ds)) (hl : ds.length < sizeLine) : MtOk X N W "list" "list.append" μ μ1 (.l j) [.p d] (.v (.p .non)) (μ1.set j (.lst (ds ++ [d]))) :=
  ⟨_, mt_append, fun σ δ F A H x R rx => by
    obtain ⟨a, rfl, ha⟩ := rx
    obtain ⟨ws, h1, h2⟩ := R.rc.mus j a _ ha hj
    exact .inl ⟨rfl, ws, SqL.of h1⟩, fun σ δ F A H x vs Q R rx rv k => by
    obtain ⟨v, rfl, h⟩ := one_of rv
    obtain ⟨a, rfl, ha⟩ := rx
    obtain ⟨ws, h1, h2⟩ := R.rc.mus j a _ ha hj0
    refine ⟨a, ws, v, rfl, rfl, h1, by rw [h2.length]; exact hl, ?_⟩
    exact k .non F A _ (Same.refl _) (List.prefix_refl _) (R.to (Same.refl _) (List.prefix_refl _) (R.rc.write ha hj0 trivial ⟨_, upd_same, h2.snoc h⟩)) .non⟩
theorem Reps.eraseIdx {K : PySem.W.Frag} {F : Hp} : ∀ {vs : List V} {ds : List D} (i : Nat), Reps K F vs ds → Reps K F (vs.eraseIdx i) (ds.eraseIdx i)
  | _, _, _, .nil => .nil
  | _, _, 0, .cons _ t => t
  | _, _, i + 1, .cons r t => .cons r (Reps.eraseIdx i t)
theorem m_popAt {j : Nat} {ds : List D} {i : Int} {q : Nat} (hj : μ[j]? = some (.lst ds)) (hj0 : μ1[j]? = some (.lst ds)) (hi : -(2 ^ 63) ≤ i ∧ i < 2 ^ 63) (hq : seqIndex? i ds.length = some q) (hd : ds[q]? = some d) : MtOk X N W "list" "list.pop" μ μ1 (.l j) [.p (.int i)] (.v (.p d)) (μ1.set j (.lst (ds.eraseIdx q))) :=
  ⟨_, mt_popAt, fun σ δ F A H x R rx => by
    obtain ⟨a, rfl, ha⟩ := rx
    obtain ⟨ws, h1, h2⟩ := R.rc.mus j a _ ha hj
    exact .inl ⟨rfl, ws, SqL.of h1⟩, fun σ δ F A H x vs Q R rx rv k => by
    obtain ⟨v, rfl, h⟩ := one_of rv
    obtain ⟨a, rfl, ha⟩ := rx
    obtain ⟨ws, h1, h2⟩ := R.rc.mus j a _ ha hj0
    obtain ⟨y, h3, h4⟩ := h2.get hd
    refine ⟨a, ws, i, q, y, rfl, by rw [rs_int h], h1, hi.1, hi.2, by rw [h2.length]; exact hq, h3, ?_⟩
    exact k y F A _ (Same.refl _) (List.prefix_refl _) (R.to (Same.refl _) (List.prefix_refl _) (R.rc.write ha hj0 trivial ⟨_, upd_same, h2.eraseIdx q⟩)) h4⟩
/-! ## lists and tuples put together -/
theorem o_catL {ds es : List D} (hl : ds.length + es.length ≤ sizeLine) : OpOk X N W (binaryOp .Add) μ (.p (.lst ds)) (.p (.lst es)) (.v (.p (.lst (ds ++ es)))) μ :=
  ⟨_, op_cat, fun σ δ F A H x y Q R rx ry k => by
    obtain ⟨a, ws, rfl, h1, h2⟩ := rep_lst rx
    obtain ⟨b, us, rfl, h3, h4⟩ := rep_lst ry
    refine ⟨a, b, ws, us, rfl, rfl, R.rc.sub _ _ h1, R.rc.sub _ _ h3, by rw [h2.length, h4.length]; exact hl, fun p np => ?_⟩
    have sm := same_updN (o := .lst (ws ++ us)) (R.rc.fresh np).2.1
    exact k (.ref p) _ A _ sm (List.prefix_refl _) (R.to sm (List.prefix_refl _) (R.rc.frozen np _)) (.lst upd_same ((h2.append h4).mono sm))⟩
/-- a list is frozen from here on -/
theorem dss_freeze {j : Nat} {ds : List D} {rest : List Stmt} {o : Os} (hj : μ[j]? = some (.lst ds)) (hA : N.A0.length ≤ j) (i : Nat) (hi : δ[i]? = some (some (.l j))) (h : DSs X N W (δ.set i (some (.p (.lst ds)))) (μ.set j .gone) rest o) : DSs X N W δ μ rest o :=
  PSs.imp h fun K σ H ⟨F, A, R, k⟩ => by
    obtain ⟨v, hv, a, rfl, ha⟩ := R.sl i _ hi
    obtain ⟨ws, h1, h2⟩ := R.rc.mus j a _ ha hj
    obtain ⟨r1, sm⟩ := R.rc.freeze ha hj trivial hA h1
    refine ⟨_, A, ⟨r1, by simp [R.len], fun i' s' e => ?_⟩, k.to sm (List.prefix_refl _)⟩
    by_cases hi' : i' = i
    · subst hi'
      have hl : i' < δ.length := (List.getElem?_eq_some_iff.mp hi).1
      rw [List.getElem?_set_self hl] at e
      cases e
      exact ⟨.ref a, hv, .lst upd_same (h2.mono sm)⟩
    · rw [List.getElem?_set_ne (Ne.symm hi')] at e
      obtain ⟨w, h3, h4⟩ := R.sl i' s' e
      exact ⟨w, h3, h4.mono sm (List.prefix_refl _)⟩
end
/-! ## the one __init__ -/
theorem fn_err {P : Program} {w : World} {K : PySem.W.Frag} {mg : Str → Option Value} {base : Heap} {st : Stmt} {f : Addr} {fd : FuncData} {x qual : Str} {p1 p2 p3 p4 : Pos} (F : Fun K x qual st f fd) (Sc : FnScope ["self", "value"] ["self", "value"] (defScope st))
    (hb : defBody st = [.Assign [.Attribute (.Name "self" p1) "value" p2] (.Name "value" p3) p4]) (hv1 : (defScope st).names.lookup ("self" : Str) = some NameKind.local) (hv2 : (defScope st).names.lookup ("value" : Str) = some NameKind.local) : FnOk P w K mg base (L2.CX P w) 1 f fd ["self", "value"] (spErr K) := by
  refine F.okX Sc (fun vs H Q E h => ?_) (fun cdv A outer s H vs Q E hr h => ?_)
  · obtain ⟨a, C, y, rfl, _⟩ := h
    rfl
  · obtain ⟨a, C, y, rfl, hC, hn, ha, k⟩ := h
    rw [hb]
    refine ⟨_, pss_one (ps_ost (pv 0 rfl (.inl hv1)) (pv 1 rfl (.inl hv2))), y, rfl, .ref a, rfl, a, C, rfl, hC, hn, .inl ⟨ha, fun dx ndx ne => k dx ndx ne⟩⟩
end Dl
set_option Elab.async false
set_option linter.all false
set_option maxRecDepth 100000
set_option maxHeartbeats 4000000
set_option autoImplicit false
namespace Dl
open PySem PySem.Spec PyProof.Rows L2
/-! ## len of own objects; a text n times; list(range(n)) -/
section
variable {X : Cx} {N : En} {W : WX} {n : Nat} {δ δ' δ1 δ2 : List (Option S)} {μ μ' μ1 μ2 μ3 : List M} {e a b c o : Expr} {es : List Expr} {ss : List S} {pos p apos : Pos} {d : D} {s s1 s2 : S} {r : Rx} {R : Rel} {k : Nat} {x m f : Str} {dd : List D} {C : Addr}
theorem op_mulSn {c : Nat} : OpR X (binaryOp .Mult) (fun x y H Q => ∃ (k : Nat), x = .str ⟨#[c]⟩ ∧ y = .int (k : Int) ∧ 1 ≤ k ∧ k ≤ 4 ∧ Q (.str ⟨(List.replicate k c).toArray⟩) H) := by
  intro pins s σ H x y v u Q I rx ry h
  obtain ⟨k, rfl, rfl, h1, h2, q⟩ := h
  obtain ⟨t, rfl⟩ := rx
  obtain ⟨t', rfl⟩ := ry
  match k, h1, h2, q with
  | 1, _, _, q =>
    refine PySem.P.mul_str (by decide) (fun _ h => by simp at h) (fun _ h => by simp at h) ?_
    show (if (1 : Int) < 1 then _ else if ((1 : Int) == 1 || _ == 0) = true then _ else _ : Made).post _ _
    rw [if_neg (by decide), if_pos (by simp)]
    exact ⟨.str ⟨#[c]⟩, H, I, ⟨t, rfl⟩, q⟩
  | 2, _, _, q =>
    refine PySem.P.mul_str (by decide) (fun _ h => by show ¬ ((1 : Nat) : Int) > _; decide) (fun _ h => by with_unfolding_all rfl) ?_
    exact ⟨by show (2 : Nat) ≤ _; decide, .str _, H, I.tok _, ⟨_, rfl⟩, q⟩
  | 3, _, _, q =>
    refine PySem.P.mul_str (by decide) (fun _ h => by show ¬ ((1 : Nat) : Int) > _; decide) (fun _ h => by with_unfolding_all rfl) ?_
    exact ⟨by show (3 : Nat) ≤ _; decide, .str _, H, I.tok _, ⟨_, rfl⟩, q⟩
  | 4, _, _, q =>
    refine PySem.P.mul_str (by decide) (fun _ h => by show ¬ ((1 : Nat) : Int) > _; decide) (fun _ h => by with_unfolding_all rfl) ?_
    exact ⟨by show (4 : Nat) ≤ _; decide, .str _, H, I.tok _, ⟨_, rfl⟩, q⟩
theorem o_mulSn {c k : Nat} (h : 1 ≤ k ∧ k ≤ 4) : OpOk X N W (binaryOp .Mult) μ (.p (.str ⟨#[c]⟩)) (.p (.int (k : Int))) (.v (.p (.str ⟨(List.replicate k c).toArray⟩))) μ :=
  ⟨_, op_mulSn, fun σ δ F A H x y Q R rx ry q => ⟨k, rs_str rx, rs_int ry, h.1, h.2, q.here R (.str _)⟩⟩
theorem de_listRg {i : Int} {p2 pos2 : Pos} (g : Go X N W n) (ha : DE X N W δ μ a (.v (.p (.int i))) μ1) (hm : X.mg "list" = none) (hm2 : X.mg "range" = none) (hi : 0 ≤ i ∧ i ≤ 16777216) (hg : Gl X "list" := by rfl) (hg2 : Gl X "range" := by rfl)
    (hs : starEach [a] X.env = (false, eval a X.env) :: starEach [] X.env := by rfl) (hs2 : starEach [.Call (.Name "range" p2) [a] [] pos2] X.env = (false, eval (.Call (.Name "range" p2) [a] [] pos2) X.env) :: starEach [] X.env := by rfl) :
    DE X N W δ μ (.Call (.Name "list" p) [.Call (.Name "range" p2) [a] [] pos2] [] pos) (.v (.p (.lst (rangeD 0 i.toNat)))) μ1 :=
  PE.imp (pe_listRg g.calm hg hm (prg_1 hg2 hm2 ha hs) hs2) fun σ H Q ⟨F, A, R0, k⟩ => ⟨F, A, R0, fun x F1 A1 H1 e1 p1 R1 rx => by
    have ex : x = .int i := rs_int rx
    subst ex
    refine ⟨i, rfl, RgOk.of_le (by omega) (by omega) (by omega) (by omega), fun q nq => ?_⟩
    have sm := same_updN (o := .lst (rgV 0 i)) (R1.rc.fresh nq).2.1
    refine k (.ref q) _ A1 _ (e1.trans sm) p1 (R1.to sm (List.prefix_refl _) (R1.rc.frozen nq _)) (.lst upd_same (Reps.mono sm ?_))
    unfold rgV rangeD
    rw [Int.sub_zero]
    generalize List.range i.toNat = l
    induction l with
    | nil => exact .nil
    | cons y ys ih => exact .cons (.int _) ih⟩
end
end Dl
set_option Elab.async false
set_option linter.all false
set_option maxRecDepth 100000
set_option maxHeartbeats 4000000
set_option autoImplicit false
namespace Dl
open PySem PySem.Spec PyProof.Rows L2
section
variable {X : Cx} {N : En} {W : WX} {n : Nat} {δ δ' δ1 δ2 : List (Option S)} {μ μ' μ1 μ2 μ3 : List M} {e a b c o : Expr} {es : List Expr} {ss : List S} {pos p apos : Pos} {d d' : D} {s s1 s2 : S} {r r' : Rx} {R : Rel} {k k' : Bool} {x m f : Str} {dd : List D} {C : Addr}
theorem dt_of (h : DT X N W δ μ e k μ1) (q : k = k') : DT X N W δ μ e k' μ1 := q ▸ h
theorem de_of (h : DE X N W δ μ e (.v (.p d)) μ1) (q : d = d') : DE X N W δ μ e (.v (.p d')) μ1 := q ▸ h
theorem dss_ifT {A B rest : List Stmt} {o oa : Os} (h : DT X N W δ μ c true μ1) (ha : DSs X N W δ μ1 A oa) (ca : Cont X N W rest oa o) : DSs X N W δ μ (.If c A B pos :: rest) o :=
  dss_cons (ds_if h (fun _ => ha) nofun) ca
theorem dss_ifF {A B rest : List Stmt} {o oa : Os} (h : DT X N W δ μ c false μ1) (ha : DSs X N W δ μ1 B oa) (ca : Cont X N W rest oa o) : DSs X N W δ μ (.If c A B pos :: rest) o :=
  dss_cons (ds_if h nofun (fun _ => ha)) ca
theorem dss_skip {A rest : List Stmt} {o : Os} (h : DT X N W δ μ c false μ1) (ca : DSs X N W δ μ1 rest o) : DSs X N W δ μ (.If c A [] pos :: rest) o :=
  dss_ifF h dss_nil ca
theorem dss_ret (h : DE X N W δ μ e (.v s) μ1) {rest : List Stmt} : DSs X N W δ μ (.Return (some e) pos :: rest) (.rt s μ1) := dss_cons (ds_ret h) cr
theorem di_of {tg iter : Expr} {ds ds' : List D} (h : DI X N W δ μ tg iter ds μ1) (q : ds = ds') : DI X N W δ μ tg iter ds' μ1 := q ▸ h
theorem of_maps {α : Type} {nn : Nat} {scope : Scope} {elt : Expr} {f : As} {gd fy : α → D} : ∀ {l : List α}, (∀ a ∈ l, ∃ δt, f (gd a) δ = some δt ∧ DEB X N.K nn scope elt δt μ (fy a) μ) → CmpL (El0 X N.K nn scope elt) f δ (l.map gd) μ (l.map fy) μ
  | [], _ => .nil
  | a :: l, h => by
    obtain ⟨δt, h1, h2⟩ := h a List.mem_cons_self
    exact .keep h1 ⟨_, rfl, h2⟩ (of_maps fun d hd => h d (List.mem_cons_of_mem _ hd))
theorem c_allm {α : Type} {l : List α} {q : α → Bool} (g : Go X N W n) : CallOk X N W (.builtin "all") μ [.p (.lst (l.map fun a => .bl (q a)))] (.v (.p (.bl (l.all q)))) μ := by
  have h := c_all (μ := μ) g (ns := l.map q)
  rw [List.map_map, List.all_map] at h
  exact h
end
/-! ## words, in plain terms -/
def st (L : List Nat) : Str := ⟨L.toArray⟩
def IXYZ : List Nat := [73, 88, 89, 90]
def third (a b : Nat) : Nat := if a = b then 73 else if a = 73 then b else if b = 73 then a else if a + b = 177 then 90 else if a + b = 178 then 89 else 88
def qt (a b : Nat) : Int := if (a = 88 ∧ b = 89) ∨ (a = 89 ∧ b = 90) ∨ (a = 90 ∧ b = 88) then 1 else if (a = 89 ∧ b = 88) ∨ (a = 90 ∧ b = 89) ∨ (a = 88 ∧ b = 90) then -1 else 0
def mk (a b : List Nat) : List Nat := List.zipWith third a b
def qs (a b : List Nat) : Int := (List.zipWith qt a b).sum
structure okL (L : List Nat) : Prop where
  one : 1 ≤ L.length
  four : L.length ≤ 4
  all : ∀ c ∈ L, c ∈ IXYZ
def sgn (L : List Nat) (s : Int) : Str := st (if s < 0 then 45 :: L else L)
def wd (C : Addr) (L : List Nat) (s : Int) : D := .ins C ["letters", "sign"] [.str (st L), .int s]
theorem st_len (L : List Nat) : (st L).length = L.length := by simp [st, Str.length]
theorem chars_st (L : List Nat) : chars (st L) = L.map fun c => D.str ⟨#[c]⟩ := by simp [chars, st]
theorem st_inj {L M : List Nat} : st L = st M ↔ L = M := by
  constructor
  · intro h
    have := congrArg (fun z : Str => z.cps.toList) h
    simpa [st] using this
  · rintro rfl; rfl
theorem st_app (L M : List Nat) : st L ++ st M = st (L ++ M) := by
  show Str.append _ _ = _
  simp [Str.append, st]
theorem size4 {n : Nat} (h : n ≤ 100) : n ≤ sizeLine := by rw [sizeLine_eq]; omega
theorem size4' {n : Nat} (h : n ≤ 100) : n < sizeLine := by rw [sizeLine_eq]; omega
end Dl
set_option Elab.async false
set_option linter.all false
set_option maxRecDepth 100000
set_option maxHeartbeats 4000000
set_option autoImplicit false
namespace Dl
open PySem PySem.Spec PyProof.Rows L2
/-! ## the script itself -/
theorem rep_sc {K : PySem.W.Frag} {F : Hp} {v : V} {ns : List Int} (h : Rep K F v (.sc ns)) : ∃ a, v = .ref a ∧ SqL K F a (ns.map V.int) := by
  generalize hd : D.sc ns = d at h
  cases h with
  | sc h1 => cases hd; exact ⟨_, rfl, h1⟩
  | _ => cases hd
section
variable {X : Cx} {N : En} {W : WX} {n : Nat} {δ : List (Option S)} {μ : List M} {ns : List Int}
theorem c_lenSc (g : Go X N W n) : CallOk X N W (.builtin "len") μ [.p (.sc ns)] (.v (.p (.int ns.length))) μ :=
  ⟨_, call_len_seq, fun σ δ F A H vs Q R rv k => by
    obtain ⟨v, rfl, h⟩ := one_of rv
    have h' : Rep N.K F v (.sc ns) := h
    obtain ⟨a, rfl, h1⟩ := rep_sc h'
    refine ⟨a, ns.map V.int, rfl, .inl (by rw [← g.hK]; exact same_sqL R.rc.sub h1), ?_⟩
    rw [List.length_map]
    exact k.here R (.int _)⟩
theorem i_sc (g : Go X N W n) {i : Nat} {c : Int} (h : ns[i]? = some c) : IxOk X N W μ (.p (.sc ns)) (.p (.int (i : Int))) (.v (.p (.int c))) μ :=
  ⟨_, ix_list, fun σ δ F A H x y Q R rx ry k => by
    have rx' : Rep N.K F x (.sc ns) := rx
    obtain ⟨a, rfl, h1⟩ := rep_sc rx'
    exact ⟨a, ns.map V.int, (i : Int), .int c, rfl, rs_int ry, by rw [← g.hK]; exact same_sqL R.rc.sub h1, atI_nat (by rw [List.getElem?_map, h]; rfl), k.here R (.int _)⟩⟩
end
end Dl
set_option Elab.async false
set_option linter.all false
set_option maxRecDepth 100000
set_option maxHeartbeats 4000000
set_option autoImplicit false
namespace Dl
open PySem PySem.Spec PyProof.Rows L2
/-! ## == and != of own objects, as tests -/
end Dl
set_option Elab.async false
set_option linter.all false
set_option maxRecDepth 100000
set_option maxHeartbeats 4000000
set_option autoImplicit false
namespace Dl
open PySem PySem.Spec PyProof.Rows L2
/-! ## an exception that is caught and kept -/
/-- a caught exception at a, of the class cls, its own dict at d -/
def KpO (cls : Value) (d : Option Addr) (a : Addr) : HO := .ext fun h => ∃ oe vs, h.get? a = some oe ∧ Zc cls d oe ∧ oe.data = .fields vs
section
variable {X : Cx} {pins : List (Addr × Obj)} {σ : L2.St} {H : Hp} {sI s : Shared} {a : Addr}
theorem kpo_ok {P : Program} {w : World} {h : Heap} {cls : Value} {d : Option Addr} {ob : Obj} {vs : Array Value} (e1 : h.get? a = some ob) (e2 : Zc cls d ob) (e3 : ob.data = .fields vs) : ObjOk P w H h a (KpO cls d a) :=
  ⟨⟨ob, vs, e1, e2, e3⟩, ⟨ob, e1⟩, fun h1 h2 ⟨o1, v1, q1, q2⟩ st => ⟨o1, v1, st o1 q1, q2⟩⟩
/-- what was not there yet when the exception was raised is told from here on -/
theorem track {o : HO} (J : Inv X pins σ H sI) (I : Inv X pins σ H s) (fa : sI.heap.get? a = none) (na : H a = none) (nL : a ≠ X.env.locals) (new : ObjOk X.prog X.w (upd H a o) s.heap a o) : Inv X pins σ (upd H a o) s where
  ok := I.ok
  os := I.os
  bare := I.bare
  base := {
    keep := I.base.keep
    slot := I.base.slot
    free := fun b ob q n hx => by
      by_cases hb : b = a
      · subst hb
        obtain ⟨ob', e⟩ := J.base.there b ob q hx
        rw [fa] at e
        cases e
      · rw [upd_ne hb]
        exact I.base.free b ob q n hx
    there := I.base.there
    tups := fun b xs q => by
      have e := I.base.tups b xs q
      rw [upd_ne (ne_of_none e na)]
      exact e
    frzs := fun b ob u q => by
      have e := I.base.frzs b ob u q
      rw [upd_ne (ne_of_none e na)]
      exact e
    tbls := fun b ps q => by
      obtain ⟨more, e⟩ := I.base.tbls b ps q
      exact ⟨more, by rw [upd_ne (ne_of_none e na)]; exact e⟩ }
  loc := I.loc
  cell := I.cell
  free := by
    rw [upd_ne (Ne.symm nL)]
    exact I.free
  freeC := fun y c hc => by
    have hb : c ≠ a := fun z => by
      obtain ⟨v, ob, e, _⟩ := J.cell y c hc
      rw [z, fa] at e
      cases e
    rw [upd_ne hb]
    exact I.freeC y c hc
  pin := fun p hp => by
    obtain ⟨q1, q2, q3, q4, q5⟩ := I.pin p hp
    have hb : p.1 ≠ a := fun z => by
      have e := (J.pin p hp).1
      rw [z, fa] at e
      cases e
    exact ⟨q1, by rw [upd_ne hb]; exact q2, q3, q4, q5⟩
  hok := I.hok.laidN (fun _ _ e => e) na new
  len := I.len
theorem into_suite (I : Inv X pins σ H s) : Inv (X.suite a (X.pn ++ pins)) [] σ H s :=
  ⟨I.ok.suite a _, I.os, I.bare, I.base, I.loc, I.cell, I.free, I.freeC, fun p hp => I.pin p (by simpa using hp), I.hok, I.len⟩
theorem out_suite {pn' : List (Addr × Obj)} (ok : X.Ok) (I : Inv (X.suite a (X.pn ++ pins)) pn' σ H s) : Inv X pins σ H s :=
  ⟨ok, I.os, I.bare, I.base, I.loc, I.cell, I.free, I.freeC, fun p hp => I.pin p (List.mem_append.mpr (.inl hp)), I.hok, I.len⟩
end
/-- the wish of the clause: it is of the class, the suite runs with the exception told -/
def wK (K : PySem.W.Frag) (c : Value) (i : Nat) (ts : Value → Option Addr → Addr → TS) (D : Ends) : WX := fun cls d σ H => PySem.W.exmOne K cls c = some true ∧ ∀ a, H a = none →
  ts cls d a { nx := fun σ' H' => D.nx (σ'.set i none) H', rt := D.rt, bk := fun σ' H' => D.bk (σ'.set i none) H', ct := fun σ' H' => D.ct (σ'.set i none) H' } (σ.set i (some (.ref a))) (upd H a (KpO cls d a))
section
variable {X : Cx} {x n : Str} {c : Value} {i : Nat} {body suite : List Stmt} {b₀ : Stmt} {np pos pos' : Pos} {tb : WX → TS} {ts : Value → Option Addr → Addr → TS}
theorem ps_keep (hs : X.stack = X.env :: X.outer) (hf : X.env.frame = some X.env.locals) (hN : X.N.Nodup) (hi : X.N[i]? = some n) (hln : X.env.kindOf n = some .local) (hc : Names X x c)
    (hb : ∀ (W : WX) (pn : List (Addr × Obj)) (xe : Value → Shared → Prop), Takes (X.tr pn xe) W → PassesOwn (model X.prog X.w) X.A X.env xe → PSs (X.tr pn xe) body (tb W))
    (hsu : ∀ (a : Addr) (cls : Value) (d : Option Addr) (pn : List (Addr × Obj)), PSs (X.suite a pn) (b₀ :: suite) (ts cls d a)) :
    PS X (.Try body [.ExceptHandler (some (.Name x np)) (some n) (b₀ :: suite) pos'] [] [] pos) (fun D σ H => tb (wK X.K c i ts D) D σ H) := by
  refine ⟨fun pins s σ H D I h => wpAny_Try_except ?_⟩
  have ok := I.ok
  refine wpAny_mono ((hb (wK X.K c i ts D) (X.pn ++ pins) (fun e t1 => wpAny (model X.prog X.w) X.A (noteFrame e X.env) (fun _ t2 => wpAny (model X.prog X.w) X.A (setFlight e none)
    (fun _ t3 => wpAny (model X.prog X.w) X.A (handleBy e X.env [.ExceptHandler (some (.Name x np)) (some n) (b₀ :: suite) pos']) (SP X pins D) X.xe t3) X.xe t2) X.xe t1)
    (fun u t air => ?_) PassesOwn.looking).run [] s σ H D (I.toTry _) h) (fun f t hsp => ?_) (fun _ _ z => z)
  · obtain ⟨a, B, sI, pins', σ', H', cls, d, rfl, J', nb, up, sky, na, os, ag, hyes, go⟩ := air
    have J : Inv X pins σ' H' sI := J'.ofTry ok
    have sky1 : Sky B (X.env :: X.outer) a (Zc cls d) X.env.locals t.heap := by
      rw [← hs]
      exact sky
    show wpAny (model X.prog X.w) X.A (noteFrame (.ref a) X.env) _ _ _
    have frm : X.A.frames = some (X.env :: X.outer) := by
      rw [ok.frames, hs]
    refine Sky.land Zc.steady frm hf sky1 fun g1 y1 u1 => ?_
    have J1 : Inv X pins σ' H' { t with heap := g1 } := J.landed nb y1.1 (up.trans u1) os ag
    have off : ∀ {g : Heap} {ob : Obj} {vs : Array Value}, g.FunFrames B (X.env :: X.outer) → g.get? a = some ob → ob.data = .fields vs → a ∉ frs (X.env :: X.outer) := fun {g ob vs} ff e q hm => by
      obtain ⟨_, ob', e', nf⟩ := ff.mem hm
      rw [e] at e'
      cases e'
      exact nf _ q
    obtain ⟨ob1, vs1, a1, z1, d1⟩ := y1.there
    have out := off y1.2.2.1 a1 d1
    have nL : a ≠ X.env.locals := fun z => out (List.mem_filterMap.mpr ⟨X.env, List.mem_cons_self, by rw [hf, z]⟩)
    have fa : sI.heap.get? a = none := by
      cases e : sI.heap.get? a with
      | none => rfl
      | some ob =>
        have z := nb a ob e (by rw [hs]; exact out)
        rw [y1.2.1] at z
        cases z
    have T1 := track (o := KpO cls d a) J J1 fa na nL (kpo_ok a1 z1 d1)
    have S1 : Inv (X.suite a (X.pn ++ pins)) [] σ' (upd H' a (KpO cls d a)) { t with heap := g1 } := into_suite T1
    refine wpAny_handleBy_cons (codeAny_handlers_test ?_) (fun q => by cases q)
    have look : PySem.W.Looks (model X.prog X.w) g1 (typeOf (.ref a)) cls := fun A' Q' E' t' k q => wpAny_typeOf_ref (k _ _ a1) (by rw [z1.1]; exact q)
    have is := PySem.W.exm_one (M := model X.prog X.w) J1.kIn look hyes
    have named : ∀ {Q' E' : Value → Shared → Prop}, Q' c { t with heap := g1 } → wpAny (model X.prog X.w) (X.A.mark (some (.ref a))) (eval (.Name x np) X.env) Q' E' { t with heap := g1 } := fun {Q' E'} q => by
      obtain ⟨q1, q2, q3 | ⟨q3, q4, q5⟩⟩ := hc
      · exact ld_glob (X := X.suite a (X.pn ++ pins)) S1 q1 q3 q q2
      · exact ld_blt (X := X.suite a (X.pn ++ pins)) S1 q1 q3 q4 q q5 q2
    refine named (is.here (codeAny_handlers_suite_as (HandSPX.lands_againZ y1 fun g2 y2 u2 => ?_)))
    have J2 : Inv X pins σ' H' { t with heap := g2 } := J.landed nb y2.1 ((up.trans u1).trans u2) os ag
    obtain ⟨ob2, vs2, a2, z2, d2⟩ := y2.there
    have S2 : Inv (X.suite a (X.pn ++ pins)) [] σ' (upd H' a (KpO cls d a)) { t with heap := g2 } := into_suite (track (o := KpO cls d a) J J2 fa na nL (kpo_ok a2 z2 d2))
    refine store_ok (X := X.suite a (X.pn ++ pins)) (v := .ref a) S2 hN hi (.inl hln) rfl (fun t5 S5 => ?_) (.inr hln)
    refine wpAny_mono ((hsu a cls d (X.pn ++ pins)).run [] t5 _ _ _ S5 (go a na)) (fun f t6 hsp => ?_) (fun _ _ z => z.elim)
    have leave : ∀ {σ6 : L2.St} {H6 : Hp} {Q' : Shared → Prop}, Inv (X.suite a (X.pn ++ pins)) [] σ6 H6 t6 → (∀ t7, Inv X pins (σ6.set i none) H6 t7 → Q' t7) → wpAny (model X.prog X.w) X.A (do
        bindName X.env n .none
        unbindBehindTheSuite X.env n pos') (fun _ t7 => Q' t7) X.xe t6 := fun {σ6 H6 Q'} S6 hq => gone_ok (out_suite ok S6) hN hi hln hq
    cases f with
    | next =>
      obtain ⟨σ6, H6, S6, q6⟩ := hsp
      exact leave S6 fun t7 J7 => ⟨_, H6, J7, q6⟩
    | brk =>
      obtain ⟨σ6, H6, S6, q6⟩ := hsp
      exact leave S6 fun t7 J7 => ⟨_, H6, J7, q6⟩
    | cont =>
      obtain ⟨σ6, H6, S6, q6⟩ := hsp
      exact leave S6 fun t7 J7 => ⟨_, H6, J7, q6⟩
    | ret u =>
      obtain ⟨v6, σ6, H6, S6, r6, q6⟩ := hsp
      exact leave S6 fun t7 J7 => ⟨v6, _, H6, J7, r6, q6⟩
  · cases f with
    | next =>
      obtain ⟨σ', H', J', q⟩ := hsp
      exact wpAny_execs_nil ⟨σ', H', J'.ofTry ok, q⟩
    | brk =>
      obtain ⟨σ', H', J', q⟩ := hsp
      exact ⟨σ', H', J'.ofTry ok, q⟩
    | cont =>
      obtain ⟨σ', H', J', q⟩ := hsp
      exact ⟨σ', H', J'.ofTry ok, q⟩
    | ret u =>
      obtain ⟨v, σ', H', J', r, q⟩ := hsp
      exact ⟨v, σ', H', J'.ofTry ok, r, q⟩
end
end Dl
set_option Elab.async false
set_option linter.all false
set_option maxRecDepth 100000
set_option maxHeartbeats 4000000
set_option autoImplicit false
namespace Dl
open PySem PySem.Spec PyProof.Rows L2
/-! ## a lambda without parameters, handed to a def -/
section
variable {X : Cx} {pins : List (Addr × Obj)} {σ : L2.St} {H : Hp} {s : Shared}
/-- it is made: its code object is one of the table, or a new one behind it -/
def Lam1 (H : Hp) (P : Addr) (ps : Array Value) (pos : Pos) (q : Str) (c' : Addr) (H1 : Hp) : Prop :=
  (H1 = H ∧ codeAmong pos ps.toList = some (.ref c')) ∨ (H c' = none ∧ H1 = upd (upd H P (.tbl (ps ++ #[rawInt pos.line, rawInt pos.col, .ref c']))) c' (LamX.CodeO c' q))
theorem lam_made {c P : Addr} {ps : Array Value} {params : Arguments} {body : Expr} {scope : Scope} {pos : Pos} {E : Value → Shared → Prop} {Q : Value → Shared → Prop} (I : Inv X pins σ H s) (TB : LamX.TabB X.base X.mg c P) (hcode : X.env.code = .ref c)
    (tabAt : H P = some (.tbl ps)) (tri : TriplesOk ps.toList) (known : ∀ (p : Pos) (v : Value), codeAmong p ps.toList = some v → ∃ b, v = .ref b ∧ H b = some (LamX.CodeO b (X.env.qual ++ "<lambda>")))
    (hdef : defaultsOf params X.env = ([], [])) (hfree : ∀ y ∈ scope.names, y.2 = .free → ∃ c, X.env.cells.lookup y.1 = some c)
    (k : ∀ (f c' : Addr) (pm ctv : Value) (H1 : Hp) (s1 : Shared), Inv X pins σ H1 s1 → Lam1 H P ps pos (X.env.qual ++ "<lambda>") c' H1 →
      s1.heap.get? f = some (PySem.W.kla_obj "<lambda>" (X.env.qual ++ "<lambda>") params body scope (cloFrom X.env.cells scope.names []) pm c' ctv) → H1 f = none → f ∉ frs X.stack → H1 c' = some (LamX.CodeO c' (X.env.qual ++ "<lambda>")) → Q (.ref f) s1) :
    wpAny (model X.prog X.w) X.A (eval (.Lambda params body scope pos) X.env) Q E s := by
  have tabH : s.heap.get? P = some { cls := .none, data := .fields ps } := I.hok P _ tabAt
  have below : ∀ f, s.heap.objs.size ≤ f → f ∉ frs X.stack := fun f big hm => by
    rcases List.mem_cons.mp (I.stkSub _ hm) with e | e
    · have lt := I.lt
      rw [← e] at lt
      exact absurd lt (Nat.not_lt.mpr big)
    · exact I.nofs big e
  refine PySem.W.kla_eval hdef ?_
  cases fnd : codeAmong pos ps.toList with
  | some v =>
    obtain ⟨b, rfl, hb⟩ := known pos v fnd
    refine PySem.W.kla_makeFunctionHit (ps := ps) (c := c) (P := P) (mg := X.mg) (closure_ok hfree) I.ok.glob (I.mod.glob.keeps I.bk) hcode (TB.code.keeps I.bk) tabH tri fnd (TB.bm.keeps I.bk) fun ctv g tk kept grown => ?_
    refine k g.objs.size b ((X.mg "__name__").getD .none) ctv H _ ?_ (.inl ⟨rfl, fnd⟩) (Heap.get?_push_size _ rfl) (I.hok.fresh grown) (below _ grown) hb
    exact I.kept fun d o e => Heap.get?_push_of_some _ (kept d o e)
  | none =>
    refine PySem.W.kla_makeFunction (ps := ps) (c := c) (P := P) (mg := X.mg) (closure_ok hfree) I.ok.glob (I.mod.glob.keeps I.bk) hcode (TB.code.keeps I.bk) tabH tri fnd TB.gP (TB.bm.keeps I.bk) fun c' ctv g tk but big small rec_ tabG => ?_
    obtain ⟨_, oc, vs, t, ec, hoc, hd, hv⟩ := rec_
    cases ec
    have newC : H c' = none := I.hok.fresh big
    have grown : s.heap.objs.size ≤ g.objs.size := Nat.le_of_lt (Nat.lt_of_le_of_lt big small)
    have newF : H g.objs.size = none := I.hok.fresh grown
    have J := LamX.inv_table (q := X.env.qual ++ "<lambda>") (t' := tk) (more := #[rawInt pos.line, rawInt pos.col, .ref c']) (h' := g.push (PySem.W.kla_obj "<lambda>" (X.env.qual ++ "<lambda>") params body scope (cloFrom X.env.cells scope.names []) ((X.mg "__name__").getD .none) c' ctv))
      I tabAt (fun b o ne e => Heap.get?_push_of_some _ (but b o ne e)) (Heap.get?_push_of_some _ tabG) big ⟨oc, vs, t, Heap.get?_push_of_some _ hoc, hd, hv⟩
    refine k g.objs.size c' _ ctv _ _ J (.inr ⟨newC, rfl⟩) (Heap.get?_push_size _ rfl) ?_ (below _ grown) upd_same
    have n2 : g.objs.size ≠ P := (Nat.ne_of_lt (Nat.lt_of_lt_of_le (Heap.lt_size tabH) grown)).symm
    rw [upd_ne (Nat.ne_of_gt small), upd_ne n2]
    exact newF
end
/-- .. in terms of what is told -/
theorem rc_lam {N : En} {F : Hp} {A : List Addr} {H H1 : Hp} {μ : List M} {j : Nat} {P c' : Addr} {q : Str} {ps : Array Value} {pos : Pos} (r : Rc N F A H μ) (ha : A[j]? = some P) (hm : μ[j]? = some (.tab P q)) (tabAt : H P = some (.tbl ps)) (tri : TriplesOk ps.toList)
    (known : ∀ (p : Pos) (v : Value), codeAmong p ps.toList = some v → ∃ b, v = .ref b ∧ F b = some (LamX.CodeO b q)) (l : Lam1 H P ps pos q c' H1) : ∃ F1, Same F F1 ∧ Rc N F1 A H1 μ ∧ F1 c' = some (LamX.CodeO c' q) := by
  rcases l with ⟨rfl, fnd⟩ | ⟨nc, rfl⟩
  · obtain ⟨b, e, hb⟩ := known pos _ fnd
    cases e
    exact ⟨F, Same.refl _, r, hb⟩
  · have ne : P ≠ c' := ne_of_none tabAt nc
    have sm := same_updN (o := LamX.CodeO c' q) (r.fresh nc).2.1
    have r1 := r.frozen nc (LamX.CodeO c' q)
    have eL : (ps ++ #[rawInt pos.line, rawInt pos.col, .ref c']).toList = ps.toList ++ [rawInt pos.line, rawInt pos.col, .ref c'] := by simp
    have r2 := r1.write (m' := .tab P q) ha hm trivial (o := .tbl (ps ++ #[rawInt pos.line, rawInt pos.col, .ref c'])) ⟨rfl, _, upd_same, by rw [eL]; exact PySem.TriplesOk_snoc _ _ _ _ tri, fun p v hv => by
      rw [eL] at hv
      rcases LamX.among_app _ tri hv with z | z
      · obtain ⟨b, e, hb⟩ := known p v z
        exact ⟨b, e, sm _ _ hb⟩
      · exact ⟨c', z, upd_same⟩⟩
    refine ⟨_, sm, ?_, upd_same⟩
    have es : μ.set j (.tab P q) = μ := by
      obtain ⟨h1, h2⟩ := List.getElem?_eq_some_iff.mp hm
      rw [← h2]
      exact List.set_getElem_self h1
    have eH : upd (upd H c' (LamX.CodeO c' q)) P (.tbl (ps ++ #[rawInt pos.line, rawInt pos.col, .ref c'])) = upd (upd H P (.tbl (ps ++ #[rawInt pos.line, rawInt pos.col, .ref c']))) c' (LamX.CodeO c' q) := by
      funext b
      by_cases h1 : b = P
      · subst h1
        rw [upd_same, upd_ne ne, upd_same]
      · rw [upd_ne h1]
        by_cases h2 : b = c'
        · subst h2
          rw [upd_same, upd_same]
        · rw [upd_ne h2, upd_ne h2, upd_ne h1]
    rw [es, eH] at r2
    exact r2
end Dl
set_option Elab.async false
set_option linter.all false
set_option maxRecDepth 100000
set_option maxHeartbeats 4000000
set_option autoImplicit false
namespace Dl
open PySem PySem.Spec PyProof.Rows L2
section
variable {X : Cx} {pins : List (Addr × Obj)} {σ : L2.St} {H : Hp} {s : Shared}
abbrev lamQ (X : Cx) : Str := X.env.qual ++ "<lambda>"
abbrev lamO (X : Cx) (params : Arguments) (body : Expr) (scope : Scope) (pm : Value) (c' : Addr) (ctv : Value) : Obj := PySem.W.kla_obj "<lambda>" (lamQ X) params body scope (cloFrom X.env.cells scope.names []) pm c' ctv
end
end Dl
set_option Elab.async false
set_option linter.all false
set_option maxRecDepth 100000
set_option maxHeartbeats 4000000
set_option autoImplicit false
namespace Dl
open PySem PySem.Spec PyProof.Rows L2
/-! ## a def whose code object is named: a maker of lambdas -/
theorem fn_Dc {P : Program} {w : World} {K : PySem.W.Frag} {mg : Str → Option Value} {base : Heap} {x qual : Str} {st : Stmt} {f cA : Addr} {oc kV doc pm ct : Value} {od an : Option Addr} {osl : Array (Option Value)} {Nn ps : List Str} {k : Nat} {R : Rel}
    (lk : K.lookup f = some ⟨oc, od, .func (PySem.W.fnOf x qual (defArgs st) (defBody st) (defScope st) .none kV doc pm an (.ref cA) ct), osl⟩) (hcd : PySem.W.codeIn K (.ref cA) qual = true) (Sc : FnScope Nn ps (defScope st)) (hlen : ∀ ss μ r μ', R ss μ r μ' → ss.length = ps.length)
    (body : ∀ (A : Around) (outer : List Env) (s : Shared) (H : Hp) (E : XK) (N : En) (W : WX) (ss : List S) (μ : List M) (r : Rx) (μ' : List M), Go (cxOf (L2.CX P w) P w K mg base Nn qual (defScope st) f (.ref cA) A outer s H E) N W k → N.A0.length = μ.length → R ss μ r μ' →
      ∃ o, DSs (cxOf (L2.CX P w) P w K mg base Nn qual (defScope st) f (.ref cA) A outer s H E) N W (starts Nn ss) μ (defBody st) o ∧ Fit μ.length o r μ') :
    FnOk P w K mg base (L2.CX P w) (k + 1) f (PySem.W.fnOf x qual (defArgs st) (defBody st) (defScope st) .none kV doc pm an (.ref cA) ct) ps (spD K R) := by
  refine fn_of lk hcd Sc (fun vs H Q E h => ?_) (fun A outer s H vs Q E hr h => ?_)
  · obtain ⟨F0, A0, ss, μ, r, μ', hR, _, rv, _⟩ := h
    rw [rv.length]
    exact hlen _ _ _ _ hR
  · obtain ⟨F0, A0, ss, μ, r, μ', hR, rc, rv, hq⟩ := h
    have g : Go (cxOf (L2.CX P w) P w K mg base Nn qual (defScope st) f (.ref cA) A outer s H E) ⟨K, H, F0, A0⟩ (fun cls d _ H => E cls d H) k :=
      ⟨takes_of rfl rfl rfl rfl, rfl, rfl, hr, passes_of rfl, Sc.nd⟩
    have h0 : A0.length = μ.length := rc.len
    obtain ⟨o, hd, fit⟩ := body A outer s H E ⟨K, H, F0, A0⟩ _ ss μ r μ' g h0 hR
    refine ⟨_, hd, F0, A0, ⟨rc, (start_slots (N := ⟨K, H, F0, A0⟩) Nn rv).1, (start_slots (N := ⟨K, H, F0, A0⟩) Nn rv).2⟩, ?_⟩
    · cases fit with
      | rt => exact fun v F' A' H' e p rc' rv' => hq v F' A' H' rc' rv'
      | rtT hn => exact fun v F' A' H' e p rc' rv' => hq v F' _ H' (rc'.trim (by show A0.length ≤ _; omega)) rv'
      | nx => exact fun σ' F' A' H' e p R' => hq .non F' A' H' R'.rc .non
      | nxT hn => exact fun σ' F' A' H' e p R' => hq .non F' _ H' (R'.rc.trim (by show A0.length ≤ _; omega)) .non
      | xx => exact fun σ' dx v F' A' H' e p R' h1 h2 => hq dx v F' A' H' R'.rc h1 h2
      | xxT hn => exact fun σ' dx v F' A' H' e p R' h1 h2 => hq dx v F' _ H' (R'.rc.trim (by show A0.length ≤ _; omega)) h1 h2
/-! ## what was heard: (None, what came back) or (the error, None) -/
theorem EndE.imp {N : En} {W W' : WX} {σ : L2.St} {δ : List (Option S)} {F : Hp} {A : List Addr} {μ : List M} {Q Q' : VK} {r : Rx} (k : EndE N W σ δ F A μ Q r) (hW : ∀ c d σ H, W c d σ H → W' c d σ H) (hQ : ∀ v H, Q v H → Q' v H) : EndE N W' σ δ F A μ Q' r := by
  cases r with
  | v s => exact fun v F' A' H' e p R' rv => hQ _ _ (k v F' A' H' e p R' rv)
  | x C d => exact fun dx v F' A' H' e p R' h1 h2 => hW _ _ _ _ (k dx v F' A' H' e p R' h1 h2)
inductive HR (K : PySem.W.Frag) (CK : Addr) : Rx → D → Prop
  | v (d) : HR K CK (.v (.p d)) (.tup [.non, d])
  | x {C d} : PySem.W.exmOne K (.ref C) (.ref CK) = some true → HR K CK (.x C d) (.tup [.exc C d, .non])
end Dl
set_option Elab.async false
set_option linter.all false
set_option maxRecDepth 100000
set_option maxHeartbeats 4000000
set_option autoImplicit false
namespace Dl
open PySem PySem.Spec PyProof.Rows L2
/-! ## kept exceptions: their class, their value -/
structure XC (K : PySem.W.Frag) (C : Addr) : Prop where
  hga : PySem.W.findIn K (.ref C) "__getattribute__" = some (some (.builtin "BaseException.__getattribute__"))
  hgt : PySem.W.findIn K (.ref C) "__getattr__" = some none
  hsub : PySem.W.subIn K (.ref C) (.type "BaseException") = some true
  hd : PySem.W.hasDictIn K C = true
  ha : PySem.W.findIn K (.ref C) "__class__" = some (some (.builtin "object.__class__"))
  hn : PySem.W.specialIn K (.builtin "object.__class__") "__get__" = some (some (.builtin "getset_descriptor.__get__"))
  htk : PySem.W.takesIn K (.builtin "object.__class__") = some true
  hm : PySem.W.mroIn K C (.type "object") = some true
  nv : PySem.W.findIn K (.ref C) "value" = some none
theorem XC.cl {K : PySem.W.Frag} {C : Addr} (c : XC K C) : (PySem.W.clsIn K C).isSome = true := by
  have h := c.hd
  unfold PySem.W.hasDictIn at h
  cases e : PySem.W.clsIn K C with
  | none => rw [e] at h; cases h
  | some x => rfl
/-! ## == at depth -/
mutual
inductive PyD : D → PyData → Prop
  | non : PyD .non .none
  | bl (b) : PyD (.bl b) (.bool b)
  | int (i) : PyD (.int i) (.int i)
  | str (z) : PyD (.str z) (.str z)
  | tup {ds ps} : PyDs ds ps → PyD (.tup ds) (.tuple ps)
  | lst {ds ps} : PyDs ds ps → PyD (.lst ds) (.list ps)
inductive PyDs : List D → List PyData → Prop
  | nil : PyDs [] []
  | cons {d q ds qs} : PyD d q → PyDs ds qs → PyDs (d :: ds) (q :: qs)
end
mutual
theorem PyD.dp {K : PySem.W.Frag} {F H : Hp} (sm : Same F H) : ∀ {d : D} {q : PyData} {v : V}, PyD d q → Rep K F v d → Dp K H v q
  | _, _, _, .non, h => by cases h; exact .non
  | _, _, _, .bl b, h => by cases h; exact .bl b
  | _, _, _, .int i, h => by cases h; exact .int i
  | _, _, _, .str z, h => by cases h; exact .str z
  | _, _, _, .tup hs, h => by
    obtain ⟨a, ws, rfl, h1, h2⟩ := rep_tup h
    exact .tup (same_sqT sm h1) (PyDs.dp sm hs h2)
  | _, _, _, .lst hs, h => by
    obtain ⟨a, ws, rfl, h1, h2⟩ := rep_lst h
    exact .lst (SqL.of (sm _ _ h1)) (PyDs.dp sm hs h2)
theorem PyDs.dp {K : PySem.W.Frag} {F H : Hp} (sm : Same F H) : ∀ {ds : List D} {qs : List PyData} {vs : List V}, PyDs ds qs → Reps K F vs ds → DpAll K H vs qs
  | _, _, _, .nil, h => by cases h; exact .nil
  | _, _, _, .cons h1 h2, h => by
    cases h with
    | cons r1 r2 => exact .cons (PyD.dp sm h1 r1) (PyDs.dp sm h2 r2)
end
section
variable {X : Cx} {N : En} {W : WX} {n : Nat} {δ δ' δ1 δ2 : List (Option S)} {μ μ' μ1 μ2 μ3 : List M} {e a b c o : Expr} {es : List Expr} {ss : List S} {pos p apos : Pos} {d : D} {s s1 s2 : S} {r : Rx} {R : Rel} {k : Nat} {x m f : Str} {dd : List D} {C : Addr}
/-- where it stands -/
theorem exc_at {pins : List (Addr × Obj)} {σ : L2.St} {H F : Hp} {sh : Shared} {v : V} (I : Inv X pins σ H sh) (sm : Same F H) (h : Rep X.K F v (.exc C d)) : ∃ (ad dx : Addr) (w : V) (oe : Obj) (od : Obj) (u : Value), v = .ref ad ∧ Rep X.K F w d ∧ PySem.W.InstAt sh.heap ad oe C (some od) ∧ PySem.W.lookIn "value" od = some (some u) ∧ RelV w u := by
  obtain ⟨ad, dx, w, rfl, h1, h2, h3⟩ := rep_exc h
  obtain ⟨⟨oe, vs, q1, q2, q3⟩, _⟩ := I.hok ad _ (sm _ _ h1)
  have hx : ObjOk X.prog X.w H sh.heap dx (.xd [("value", w)]) := I.hok dx _ (sm _ _ h2)
  obtain ⟨mA, ns, hr⟩ := hx
  obtain ⟨od, ho, hl⟩ := lookIn_ns ns
  have l : List.lookup ("value" : Str) [(("value" : Str), w)] = some w := by simp [List.lookup]
  obtain ⟨u, hu, ru⟩ := RelO.some_of (v := w) (o := mA "value") (by rw [← l]; exact hr "value")
  exact ⟨ad, dx, w, oe, od, u, rfl, h3, ⟨q1, q2.1, by unfold PySem.W.notCls; rw [q3] <;> rfl, by rw [q2.2]; exact ho⟩, by rw [hl, hu], ru⟩
theorem c_isiX {Dc : Addr} {q : Bool} (g : Go X N W n) (xc : XC X.K C) (h : PySem.W.kitOne X.K (.ref C) (.ref Dc) = some q) : CallOk X N W (.builtin "isinstance") μ [.p (.exc C d), .p (.adr Dc)] (.v (.p (.bl q))) μ := by
  refine ⟨fun xs H Q => ∃ F v, Same F H ∧ Rep X.K F v (.exc C d) ∧ xs = [v, .ref Dc] ∧ Q (.bl q) H, fun pins s σ H xs us Q I r ⟨F, v, sm, rp, e, qq⟩ => ?_, fun σ δ F A H vs Q R rv kk => ?_⟩
  · subst e
    cases r with
    | cons r1 r2 =>
      cases r2 with
      | cons r2 r3 =>
        cases r3
        obtain ⟨ad, dx, w, oe, od, u, rfl, _, J, _, _⟩ := exc_at I sm rp
        cases r1
        cases r2
        exact PySem.W.kia_one (PySem.W.kitx_exc xc.cl xc.hga xc.hgt xc.hsub xc.ha xc.hn xc.htk xc.hm) I.kIn J h (by intro z; cases z) fun tk => ⟨.bl q, H, I.kept (t' := tk) fun _ _ z => z, rfl, qq⟩
  · obtain ⟨v, w, rfl, h1, h2⟩ := two_of rv
    cases rs_adr h2
    exact ⟨F, v, R.rc.sub, by rw [← g.hK]; exact h1, rfl, kk.here R (.bl _)⟩
theorem de_excVal (g : Go X N W n) (xc : XC X.K C) (ho : DE X N W δ μ e (.v (.p (.exc C d))) μ1) (hb : attributeBase e "value" X.env (eval e X.env) = eval e X.env := by rfl) : DE X N W δ μ (.Attribute e "value" pos) (.v (.p d)) μ1 := by
  refine ⟨fun pins s σ H Q I ⟨F, A, R0, q⟩ => attr_of hb (thn (ho.run pins s σ H (fun v H' => ∃ F' A', Same F F' ∧ A <+: A' ∧ Rl N F' A' H' σ δ μ1 ∧ RepS N.K F' A' v (.p (.exc C d))) I ⟨F, A, R0, fun v F' A' H' h1 h2 h3 h4 => ⟨F', A', h1, h2, h3, h4⟩⟩) fun u0 s1 ⟨v, H1, I1, r1, F1, A1, e1, p1, R1, rp⟩ => ?_)⟩
  obtain ⟨ad, dx, w, oe, od, u, rfl, h3, J, hl, ru⟩ := exc_at I1 R1.rc.sub (by rw [← g.hK]; exact rp)
  obtain rfl : u0 = Value.ref ad := r1
  exact HandSPX.exc_get I1.kIn J xc.hga xc.hgt xc.hsub (PySem.W.findObj_own xc.hd xc.nv rfl hl) (handed_of ru) ⟨w, H1, I1.tok _, ru, q w F1 A1 H1 e1 p1 R1 (by rw [g.hK]; exact h3)⟩
/-! ## is None -/
def isNon : D → Bool
  | .non => true
  | _ => false
theorem rep_isNon {K : PySem.W.Frag} {F : Hp} {v : V} (h : Rep K F v d) : decide (v = .non) = isNon d := by
  cases h <;> first | rfl | simp [isNon]
theorem o_isN : OpOk X N W (compareOp .Is) μ (.p d) (.p .non) (.v (.p (.bl (isNon d)))) μ :=
  ⟨_, op_isN, fun σ δ F A H x y Q R rx ry k => ⟨rs_non ry, by rw [rep_isNon (show Rep N.K F x d from rx)]; exact k.here R (.bl _)⟩⟩
theorem o_notN : OpOk X N W (compareOp .IsNot) μ (.p d) (.p .non) (.v (.p (.bl (!isNon d)))) μ :=
  ⟨_, op_notN, fun σ δ F A H x y Q R rx ry k => ⟨rs_non ry, by rw [rep_isNon (show Rep N.K F x d from rx)]; exact k.here R (.bl _)⟩⟩
/-! ## tuples and lists -/
theorem o_catT (g : Go X N W n) {ds es : List D} (hl : ds.length + es.length ≤ sizeLine) : OpOk X N W (binaryOp .Add) μ (.p (.tup ds)) (.p (.tup es)) (.v (.p (.tup (ds ++ es)))) μ :=
  ⟨_, op_catA, fun σ δ F A H x y Q R rx ry k => by
    obtain ⟨a, ws, rfl, h1, h2⟩ := rep_tup (show Rep N.K F x (.tup ds) from rx)
    obtain ⟨b, us, rfl, h3, h4⟩ := rep_tup (show Rep N.K F y (.tup es) from ry)
    refine ⟨a, b, ws, us, rfl, rfl, by rw [← g.hK]; exact same_sqT R.rc.sub h1, by rw [← g.hK]; exact same_sqT R.rc.sub h3, by rw [h2.length, h4.length]; exact hl, fun z => ?_, fun _ z => ?_, fun _ _ p np => ?_⟩
    · subst z
      cases h2
      exact k.here R (.tup h3 h4)
    · subst z
      cases h4
      exact k.here R (.tup h1 (by rw [List.append_nil]; exact h2))
    · have sm := same_updN (o := .tup (ws ++ us)) (R.rc.fresh np).2.1
      exact k (.ref p) _ A _ sm (List.prefix_refl _) (R.to sm (List.prefix_refl _) (R.rc.frozen np _)) (.tup (.inl (.inl upd_same)) ((h2.append h4).mono sm))⟩
theorem c_tupL {ds : List D} : CallOk X N W (.type "tuple") μ [.p (.lst ds)] (.v (.p (.tup ds))) μ :=
  ⟨_, call_tuple_of, fun σ δ F A H vs Q R rv k => by
    obtain ⟨v, rfl, h⟩ := one_of rv
    obtain ⟨a, ws, rfl, h1, h2⟩ := rep_lst (show Rep N.K F v (.lst ds) from h)
    refine ⟨a, ws, rfl, .inl ⟨SqL.of (R.rc.sub _ _ h1), fun p np => ?_⟩⟩
    have sm := same_updN (o := .tup ws) (R.rc.fresh np).2.1
    exact k (.ref p) _ A _ sm (List.prefix_refl _) (R.to sm (List.prefix_refl _) (R.rc.frozen np _)) (.tup (.inl (.inl upd_same)) (h2.mono sm))⟩
theorem o_eqD (g : Go X N W n) {d1 d2 : D} {p1 p2 : PyData} {q : Bool} (h1 : PyD d1 p1) (h2 : PyD d2 p2) (s1 : SeqAt.shaped p1 = true) (s2 : SeqAt.shaped p2 = true) (hq : PyData.eqv p1 p2 = q) : OpOk X N W (compareOp .Eq) μ (.p d1) (.p d2) (.v (.p (.bl q))) μ :=
  ⟨_, op_eqD (by have := g.room.un; omega), fun σ δ F A H x y Q R rx ry k => ⟨p1, p2, by rw [← g.hK]; exact h1.dp R.rc.sub rx, by rw [← g.hK]; exact h2.dp R.rc.sub ry, s1, s2, by rw [hq]; exact k.here R (.bl _)⟩⟩
end
end Dl
set_option Elab.async false
set_option linter.all false
set_option maxRecDepth 100000
set_option maxHeartbeats 4000000
set_option autoImplicit false
namespace Dl
open PySem PySem.Spec PyProof.Rows L2
/-! ## a text cut: x[:i], x[i:] -/
section
variable {X : Cx} {N : En} {W : WX} {δ : List (Option S)} {μ μ1 μ2 : List M} {e b : Expr} {p2 pos : Pos} {z : Str} {i : Int}
/-- x[:i] -/
theorem de_cutTo (he : DE X N W δ μ e (.v (.p (.str z))) μ1) (hb : DE X N W δ μ1 b (.v (.p (.int i))) μ2) (hz : z.length ≤ sizeLine) : DE X N W δ μ (.Subscript e (.Slice none (some b) none p2) pos) (.v (.p (.str (Txt.slice z none (some i))))) μ2 :=
  PE.imp (pe_slice C8.sl_txt he po_none (po_some hb)) fun σ H Q ⟨F, A, R0, k⟩ => ⟨F, A, R0, fun v F1 A1 H1 e1 a1 R1 rv => by
    cases (show Rep N.K F1 v (.str z) from rv)
    refine ⟨F1, A1, R1, fun v2 F2 A2 H2 e2 a2 R2 rv2 => ?_⟩
    cases (show Rep N.K F2 v2 (.int i) from rv2)
    exact ⟨i, rfl, z, rfl, hz, k _ F2 A2 H2 (e1.trans e2) (a1.trans a2) R2 (.str _)⟩⟩
/-- x[i:] -/
theorem de_cutFrom (he : DE X N W δ μ e (.v (.p (.str z))) μ1) (hb : DE X N W δ μ1 b (.v (.p (.int i))) μ2) (hz : z.length ≤ sizeLine) : DE X N W δ μ (.Subscript e (.Slice (some b) none none p2) pos) (.v (.p (.str (Txt.slice z (some i) none)))) μ2 :=
  PE.imp (pe_slice C8.sl_txt he (po_some hb) po_none) fun σ H Q ⟨F, A, R0, k⟩ => ⟨F, A, R0, fun v F1 A1 H1 e1 a1 R1 rv => by
    cases (show Rep N.K F1 v (.str z) from rv)
    refine ⟨F1, A1, R1, fun v2 F2 A2 H2 e2 a2 R2 rv2 => ?_⟩
    cases (show Rep N.K F2 v2 (.int i) from rv2)
    exact ⟨i, rfl, z, rfl, hz, k _ F2 A2 H2 (e1.trans e2) (a1.trans a2) R2 (.str _)⟩⟩
end
end Dl
set_option Elab.async false
set_option linter.all false
set_option maxRecDepth 100000
set_option maxHeartbeats 4000000
set_option autoImplicit false
namespace Dl
open PySem PySem.Spec PyProof.Rows L2
/-! ## enumerate(list) -/
def enumD : Nat → List D → List D
  | _, [] => []
  | k, d :: ds => .tup [.int (k : Int), d] :: enumD (k + 1) ds
theorem enumD_len : ∀ {ds : List D} {k : Nat}, (enumD k ds).length = ds.length
  | [], _ => rfl
  | _ :: ds, k => congrArg Nat.succ (enumD_len (ds := ds))
theorem enumD_at : ∀ {ds : List D} {k i : Nat} {d : D}, ds[i]? = some d → (enumD k ds)[i]? = some (.tup [.int ((k + i : Nat) : Int), d])
  | [], _, i, _, h => by simp at h
  | d0 :: ds, k, 0, d, h => by
    have : d0 = d := by simpa using h
    subst this
    rfl
  | d0 :: ds, k, i + 1, d, h => by
    have h' : ds[i]? = some d := by simpa using h
    have := enumD_at (k := k + 1) h'
    rw [show k + 1 + i = k + (i + 1) by omega] at this
    simpa [enumD] using this
section
variable {X : Cx} {N : En} {W : WX} {n : Nat} {δ : List (Option S)} {μ μ1 μ2 μ3 : List M} {e a b o iter tg : Expr} {es : List Expr} {pos p p2 tpos : Pos} {ds : List D} {elts : List Expr} {kk : Nat} {d : D}
theorem yl_enum {K : PySem.W.Frag} {F : Hp} {a : Addr} {vs : List V} (h : F a = some (.lst vs)) (r : Reps K F vs ds) : Yl K (Ite K a) F (enumD 0 ds) := by
  unfold Yl
  rw [enumD_len, ← r.length]
  refine Walk.mono (walk_enum (xs := vs)) (fun H e => SqL.of (e _ _ h)) fun i H x H' _ _ ⟨T, u, v, h1, h2, h3, h4, h5⟩ => ?_
  obtain ⟨d, h6, h7⟩ := r.get' h5
  have h4' : V.int (i : Nat) = u := by simpa using h4
  subst h4'
  refine ⟨_, enumD_at h6, .inr ⟨T, _, _, h1, h2, h3, rfl, .cons ?_ (.cons h7 .nil)⟩⟩
  rw [Nat.zero_add]
  exact .int _
theorem di_enum (g : Go X N W n) (ha : DA X N W δ μ [e] [.p (.lst ds)] μ1) (hm : X.mg "enumerate" = none) (hg : Gl X "enumerate" := by rfl) (hs : starEach [e] X.env = [(false, eval e X.env)] := by rfl) :
    DI X N W δ μ (.Tuple elts kk tpos) (.Call (.Name "enumerate" p) [e] [] pos) (enumD 0 ds) μ1 :=
  PI.imp (pi_enum hg hm ha hs) fun σ H Rk ⟨F, A, R, k⟩ => ⟨F, A, R, fun vs F1 A1 H1 e1 p1 R1 rv => by
    cases rv with
    | cons r1 r2 =>
      cases r2
      have hK := g.hK
      rw [← hK]
      obtain ⟨a, ws, rfl, h1, h2⟩ := rep_lst (show Rep N.K F1 _ (.lst ds) from r1)
      exact ⟨a, ws, rfl, SqL.of (R1.rc.sub _ _ h1), k _ F1 A1 H1 e1 p1 R1 (yl_enum h1 h2)⟩⟩
/-! ## a list taken apart -/
def asLst (fs : List As) : As := fun d δ => match d with
  | .lst ds => asAll fs ds δ
  | _ => none
theorem dg_lst {ts : List Expr} {kk : Nat} {fs : List As} {ix : List Nat} (h : DGs X N ts fs ix) (hK : N.K = X.K) (hc : X.calm = true) (hn : (assignEach ts X.env).length = fs.length := by rfl) (hst : (assignEach ts X.env).findIdx? (·.1) = none := by rfl) : DG X N (.Tuple ts kk pos) (asLst fs) ix :=
  PG.imp (pg_unl hc h hn hst) fun v σ H Q ⟨F, A, δ, μ, d, δ', R, rv, hf, k⟩ => by
    cases d with
    | lst ds =>
      obtain ⟨a, vs, rfl, h1, h2⟩ := rep_lst rv
      refine ⟨a, vs, rfl, SqL.of (R.rc.sub _ _ h1), ?_, F, A, δ, μ, ds, δ', R, h2, hf, k⟩
      rw [h2.length]
      exact asAll_len hf
    | _ => cases hf
/-! ## a dict of the module with text keys -/
theorem rep_adr {K : PySem.W.Frag} {F : Hp} {v : V} {a : Addr} (h : Rep K F v (.adr a)) : v = .ref a := by
  generalize hd : D.adr a = d at h
  cases h with
  | adr a => cases hd; rfl
  | _ => cases hd
theorem o_inKd {dt : Addr} {ents : Array DictEntry} {m : Nat} {z : Str} {r : Option Value} (D : KDict X.K X.w dt ents m) (h : PySem.W.nsIn X.K dt z = some r) : OpOk X N W (compareOp .In) μ (.p (.str z)) (.p (.adr dt)) (.v (.p (.bl r.isSome))) μ :=
  ⟨_, op_in_kd D, fun σ δ F A H x y Q R rx ry k => by
    cases (show Rep N.K F x (.str z) from rx)
    exact ⟨z, r, rfl, rep_adr ry, h, k.here R (.bl _)⟩⟩
theorem o_notInKd {dt : Addr} {ents : Array DictEntry} {m : Nat} {z : Str} {r : Option Value} (D : KDict X.K X.w dt ents m) (h : PySem.W.nsIn X.K dt z = some r) : OpOk X N W (compareOp .NotIn) μ (.p (.str z)) (.p (.adr dt)) (.v (.p (.bl (!r.isSome)))) μ :=
  ⟨_, op_notIn_kd D, fun σ δ F A H x y Q R rx ry k => by
    cases (show Rep N.K F x (.str z) from rx)
    exact ⟨z, r, rfl, rep_adr ry, h, k.here R (.bl _)⟩⟩
theorem reps_all {K : PySem.W.Frag} {F : Hp} {A : List Addr} : ∀ {vs : List V} {ds : List D}, Reps K F vs ds → RepSs K F A vs (ds.map S.p)
  | _, _, .nil => .nil
  | _, _, .cons h t => .cons h (reps_all t)
/-! ## [*xs, ..] -/
theorem dp_star {ds es' : List D} {es : List Expr} (h : DE X N W δ μ e (.v (.p (.lst ds))) μ1) (h' : DP X N W δ μ1 es es' μ2) (hK : N.K = X.K) (hs : starEach (.Starred e p :: es) X.env = (true, eval e X.env) :: starEach es X.env := by rfl) : DP X N W δ μ (.Starred e p :: es) (ds ++ es') μ2 :=
  PA.imp (StX.pa_star h h' hs) fun σ H Q ⟨F, A, R, k⟩ => ⟨F, A, R, fun v F1 A1 H1 e1 p1 R1 rv => by
    obtain ⟨a, vs, rfl, h1, h2⟩ := rep_lst rv
    have hK' := hK
    rw [← hK]
    refine ⟨a, vs, rfl, .inr (SqL.of (R1.rc.sub _ _ h1)), F1, A1, R1, fun ws F2 A2 H2 e2 p2 R2 rw2 => ?_⟩
    exact k (vs ++ ws) F2 A2 H2 (e1.trans e2) (p1.trans p2) R2 (by rw [List.map_append]; exact RepSs.append (reps_all (h2.mono e2)) rw2)⟩
end
end Dl
set_option Elab.async false
set_option linter.all false
set_option maxRecDepth 100000
set_option maxHeartbeats 4000000
set_option autoImplicit false
namespace Dl
open PySem PySem.Spec PyProof.Rows L2
/-! ## a, .., *rest = a list -/
theorem unp_rest {P : Program} {w : World} {A : Around} {E : Value → Shared → Prop} {s : Shared} {l : Addr} {its : Array Value} {i : Nat} {Q : List Value → Shared → Prop} (hL : s.heap.IsList l its) (hd : A.handled = none) (hi : i ≤ its.size) (few : its.size ≤ sizeLine)
    (h : ∀ (h2 : Heap) (tk : Nat), (∀ b o, s.heap.get? b = some o → h2.get? b = some o) → Q (its.toList.take i ++ [.ref h2.objs.size]) { s with heap := h2.push { cls := .type "list", data := .seq (its.toList.drop i).toArray }, toks := tk }) :
    wpAny (model P w) A (unpackItems (.ref l) (i + 1) (some i)) Q E s := by
  obtain ⟨ol, atl, rest⟩ := hL
  have hL : s.heap.IsList l its := ⟨ol, atl, rest⟩
  have old := Heap.lt_size atl
  have apart : l ≠ s.heap.objs.size := Nat.ne_of_lt old
  have cnt : (its.toList.take i).length = i := by rw [List.length_take, Array.length_toList]; omega
  unfold unpackItems notIterableAtAll
  refine wpAny_bind (wpAny_bind (wpAny_specialOf (hL.typeIs) (PySem.F.slot_list_iter.lookup) (wpAny_pure ?_)))
  rw [if_neg (by decide)]
  refine wpAny_bind (wpAny_holding (wpAny_pyIter_list hL ?_))
  refine wpAny_bind (wpAny_holding (PySem.W.kun_draw (items := its) apart i 0 _ _ ⟨_, Heap.get?_push_size _ rfl, rfl, rfl⟩ (hL.push _) (by omega) fun g1 it1 sb1 => ?_))
  rw [Nat.zero_add] at it1
  rw [List.drop_zero, if_neg (by rw [cnt]; omega)]
  have lst1 : g1.IsList l its := (hL.push _).extBut sb1.extBut apart
  have lt1 : s.heap.objs.size < g1.objs.size := by obtain ⟨o, q, _⟩ := it1; exact Heap.lt_size q
  have lt2 : l < g1.objs.size := by obtain ⟨o, q, _⟩ := lst1; exact Heap.lt_size q
  refine wpAny_bind (wpAny_holding (PySem.W.kun_collect (s := { s with heap := g1 }) (T := "list_iterator") (.inr (.inr (.inl rfl))) (Walks.list (A := A.in1) hd s.heap.objs.size l apart its) (fun j u st => st.1.typeIs) (k := i) hi ⟨it1, lst1⟩ lt1 lt2 (fun g2 tk k2 => ?_) few))
  rw [show i + 1 - 1 - i = 0 by omega, if_neg (Nat.not_lt_zero _)]
  refine wpAny_bind (wpAny_newList ?_)
  refine wpAny_pure ?_
  rw [Nat.sub_zero, List.take_of_length_le (Nat.le_refl _), List.drop_of_length_le (Nat.le_refl _), List.append_nil]
  exact h g2 tk fun b o q => k2 b o (Nat.ne_of_lt (Heap.lt_size q)) (sb1.extBut b o (Nat.ne_of_lt (Heap.lt_size q)) (Heap.get?_push_of_some _ q))
def gStr (K : PySem.W.Frag) (i : Nat) (t : TGs) : TG := fun v σ H Q => ∃ a xs, v = .ref a ∧ SqL K H a xs ∧ i ≤ xs.length ∧ ∀ p, H p = none → t (xs.take i ++ [.ref p]) σ (upd H p (.lst (xs.drop i))) Q
theorem pg_star {X : Cx} {es : List Expr} {k i : Nat} {t : TGs} {pos : Pos} (hc : X.calm = true) (h : PGs X es t) (hn : (assignEach es X.env).length = i + 1 := by rfl) (hst : (assignEach es X.env).findIdx? (·.1) = some i := by rfl) : PG X (.Tuple es k pos) (gStr X.K i t) := by
  refine ⟨fun pins s σ H v u Q I r ⟨a, xs, ev, hq, hl, hw⟩ => ?_⟩
  subst ev
  cases r
  obtain ⟨its, rv, pl, hz⟩ := I.list hq
  have hsz : its.toArray.size = xs.length := by rw [List.size_toArray, rv.length]
  rw [PyProof.Rows.assign_Tuple]
  refine wpAny_bind (wpAny_standAt ?_)
  unfold unpack
  rw [hn, hst]
  refine wpAny_bind (wpAny_holding (unp_rest pl.isList (I.ok.hd hc) (by rw [hsz]; exact hl) (by rw [hsz]; exact hz) fun h2 tk k2 => ?_))
  have I2 : Inv X pins σ H { s with heap := h2, toks := tk } := I.kept (t' := tk) k2
  have fr := I2.hok.fresh (Nat.le_refl _)
  have I3 := I2.laid (a := h2.objs.size) (o := .lst (xs.drop i)) (t' := tk) (h' := h2.push { cls := .type "list", data := .seq (its.drop i).toArray }) (fun b u q => Heap.get?_push_of_some _ q) (Nat.le_refl _) ⟨by rw [List.length_drop]; omega, _, 0, rv.drop i, Heap.get?_push_size _ rfl⟩
  exact h.run pins _ σ _ _ _ Q I3 (by
    have := rv.take i
    simpa using Vals.append this (Paired.cons (a := V.ref h2.objs.size) (b := Value.ref h2.objs.size) rfl .nil)) (hw h2.objs.size fr)
section
variable {X : Cx} {N : En} {W : WX} {n : Nat} {δ δ1 : List (Option S)} {μ μ1 μ2 μ3 : List M} {pos tpos : Pos} {e : Expr}
/-- a, .., *rest = e, e a list -/
theorem ds_star (i : Nat) {ts : List Expr} {kk : Nat} {fs : List As} {ix : List Nat} {ds : List D} (g : Go X N W n) (he : DE X N W δ μ e (.v (.p (.lst ds))) μ1) (h : DGs X N ts fs ix) (hl : i ≤ ds.length) (hf : asAll fs (ds.take i ++ [.lst (ds.drop i)]) δ = some δ1) (hn : (assignEach ts X.env).length = i + 1 := by rfl) (hst : (assignEach ts X.env).findIdx? (·.1) = some i := by rfl)
    (hs : swapsWithSole [.Tuple ts kk tpos] e pos.line X.env = pure false := by rfl) (hw : swappedStores [.Tuple ts kk tpos] e X.env = pure none := by rfl)
    (h1 : (assignEach [.Tuple ts kk tpos] X.env).map (·.2) = [assign (.Tuple ts kk tpos) X.env] := by rfl) : DS X N W δ μ (.Assign [.Tuple ts kk tpos] e pos) (.nx δ1 μ1) :=
  PS.imp (ps_asg he (pg_star g.calm h hn hst) hs hw h1) fun K σ H ⟨F, A, R, k⟩ => ⟨F, A, R, fun v F1 A1 H1 e1 p1 R1 rv => by
    obtain ⟨a, vs, rfl, h1, h2⟩ := rep_lst rv
    refine ⟨a, vs, rfl, ?_, by rw [h2.length]; exact hl, fun p np => ?_⟩
    · rw [← g.hK]; exact SqL.of (R1.rc.sub _ _ h1)
    have sm := same_updN (o := .lst (vs.drop i)) (R1.rc.fresh np).2.1
    have R2 := R1.to sm (List.prefix_refl _) (R1.rc.frozen np (.lst (vs.drop i)))
    refine ⟨_, A1, δ, μ1, _, δ1, R2, Reps.append ((h2.take i).mono sm) (.cons (.lst upd_same ((h2.drop i).mono sm)) .nil), hf, fun σ' hw R3 => ?_⟩
    exact k σ' _ A1 _ (e1.trans sm) p1 R3⟩
end
end Dl
set_option Elab.async false
set_option linter.all false
set_option maxRecDepth 100000
set_option maxHeartbeats 4000000
set_option autoImplicit false
namespace Dl
open PySem PySem.Spec PyProof.Rows L2
/-! ## lists cut: xs[lo:hi], xs[lo:hi:step] -/
def cutX {α : Type} (xs : List α) (lo hi : Option Int) : List α := (xs.drop (HT.sIx xs.length 0 lo)).take (HT.sIx xs.length xs.length hi - HT.sIx xs.length 0 lo)
theorem Reps.cut {K : PySem.W.Frag} {F : Hp} {vs : List V} {ds : List D} (r : Reps K F vs ds) (lo hi : Option Int) : Reps K F (cutV vs lo hi) (cutX ds lo hi) := by
  unfold cutV cutX
  rw [r.length]
  exact (r.drop _).take _
theorem sIx_nat (n d i : Nat) : HT.sIx n d (some (i : Int)) = min i n := by
  show (if (i : Int) < 0 then ((i : Int) + (n : Int)).toNat else min (i : Int).toNat n) = _
  rw [if_neg (by omega), Int.toNat_natCast]
theorem sIx_no (n d : Nat) : HT.sIx n d none = d := rfl
theorem cutX_from {α : Type} (xs : List α) (i : Nat) : cutX xs (some (i : Int)) none = xs.drop i := by
  unfold cutX
  rw [sIx_nat, sIx_no]
  rcases Nat.le_total i xs.length with h | h
  · rw [Nat.min_eq_left h, List.take_of_length_le (by simp)]
  · rw [Nat.min_eq_right h, List.drop_of_length_le (Nat.le_refl _), List.drop_of_length_le h]
    simp
theorem cutX_to {α : Type} (xs : List α) (i : Nat) : cutX xs none (some (i : Int)) = xs.take i := by
  unfold cutX
  rw [sIx_nat, sIx_no, List.drop_zero, Nat.sub_zero]
  rcases Nat.le_total i xs.length with h | h
  · rw [Nat.min_eq_left h]
  · rw [Nat.min_eq_right h, List.take_of_length_le (Nat.le_refl _), List.take_of_length_le h]
theorem cutX_mid {α : Type} (xs : List α) (i j : Nat) : cutX xs (some (i : Int)) (some (j : Int)) = (xs.drop i).take (j - i) := by
  unfold cutX
  rw [sIx_nat, sIx_nat]
  rcases Nat.le_total i xs.length with h | h
  · rw [Nat.min_eq_left h]
    rcases Nat.le_total j xs.length with h2 | h2
    · rw [Nat.min_eq_left h2]
    · rw [Nat.min_eq_right h2, List.take_of_length_le (by simp), List.take_of_length_le (by simp; omega)]
  · rw [Nat.min_eq_right h, List.drop_of_length_le (Nat.le_refl _), List.drop_of_length_le h]
    simp
section
variable {X : Cx} {N : En} {W : WX} {n : Nat} {δ : List (Option S)} {μ μ1 μ2 μ3 : List M} {e a b o iter tg : Expr} {es : List Expr} {pos p p2 tpos : Pos} {ds : List D} {d : D} {i j : Int} {lo hi : Option Int}
theorem end_cut {σ : L2.St} {F : Hp} {A : List Addr} {H : Hp} {Q : VK} {v : V} (g : Go X N W n) (R : Rl N F A H σ δ μ) (rv : Rep N.K F v (.lst ds)) (k : EndE N W σ δ F A μ Q (.v (.p (.lst (cutX ds lo hi))))) : rSlL X.K v lo hi H Q := by
  obtain ⟨a, vs, rfl, h1, h2⟩ := rep_lst rv
  refine ⟨a, vs, rfl, by rw [← g.hK]; exact SqL.of (R.rc.sub _ _ h1), fun p np => ?_⟩
  have sm := same_updN (o := .lst (cutV vs lo hi)) (R.rc.fresh np).2.1
  exact k (.ref p) _ A _ sm (List.prefix_refl _) (R.to sm (List.prefix_refl _) (R.rc.frozen np _)) (.lst upd_same ((h2.cut lo hi).mono sm))
/-- xs[i:] -/
theorem de_cutLf (g : Go X N W n) (he : DE X N W δ μ e (.v (.p (.lst ds))) μ1) (ha : DE X N W δ μ1 a (.v (.p (.int i))) μ2) : DE X N W δ μ (.Subscript e (.Slice (some a) none none p2) pos) (.v (.p (.lst (cutX ds (some i) none)))) μ2 :=
  PE.imp (pe_slice sl_list he (po_some ha) po_none) fun σ H Q ⟨F, A, R0, k⟩ => ⟨F, A, R0, fun v F1 A1 H1 e1 a1 R1 rv => by
    refine ⟨F1, A1, R1, fun v2 F2 A2 H2 e2 a2 R2 rv2 => ?_⟩
    cases (show Rep N.K F2 v2 (.int i) from rv2)
    exact ⟨i, rfl, end_cut g R2 (Rep.mono e2 rv) (k.to (e1.trans e2) (a1.trans a2))⟩⟩
/-- xs[:i] -/
theorem de_cutLt (g : Go X N W n) (he : DE X N W δ μ e (.v (.p (.lst ds))) μ1) (ha : DE X N W δ μ1 a (.v (.p (.int i))) μ2) : DE X N W δ μ (.Subscript e (.Slice none (some a) none p2) pos) (.v (.p (.lst (cutX ds none (some i))))) μ2 :=
  PE.imp (pe_slice sl_list he po_none (po_some ha)) fun σ H Q ⟨F, A, R0, k⟩ => ⟨F, A, R0, fun v F1 A1 H1 e1 a1 R1 rv => by
    refine ⟨F1, A1, R1, fun v2 F2 A2 H2 e2 a2 R2 rv2 => ?_⟩
    cases (show Rep N.K F2 v2 (.int i) from rv2)
    exact ⟨i, rfl, end_cut g R2 (Rep.mono e2 rv) (k.to (e1.trans e2) (a1.trans a2))⟩⟩
/-- xs[i:j] -/
theorem de_cutLm (g : Go X N W n) (he : DE X N W δ μ e (.v (.p (.lst ds))) μ1) (ha : DE X N W δ μ1 a (.v (.p (.int i))) μ2) (hb : DE X N W δ μ2 b (.v (.p (.int j))) μ3) : DE X N W δ μ (.Subscript e (.Slice (some a) (some b) none p2) pos) (.v (.p (.lst (cutX ds (some i) (some j))))) μ3 :=
  PE.imp (pe_slice sl_list he (po_some ha) (po_some hb)) fun σ H Q ⟨F, A, R0, k⟩ => ⟨F, A, R0, fun v F1 A1 H1 e1 a1 R1 rv => by
    refine ⟨F1, A1, R1, fun v2 F2 A2 H2 e2 a2 R2 rv2 => ?_⟩
    cases (show Rep N.K F2 v2 (.int i) from rv2)
    refine ⟨i, rfl, F2, A2, R2, fun v3 F3 A3 H3 e3 a3 R3 rv3 => ?_⟩
    cases (show Rep N.K F3 v3 (.int j) from rv3)
    exact ⟨j, rfl, end_cut g R3 (Rep.mono (e2.trans e3) rv) (k.to ((e1.trans e2).trans e3) ((a1.trans a2).trans a3))⟩⟩
end
/-! ## .. with a step -/
def pickX {α : Type} (xs : List α) (lo hi st : Option Int) : List α := (sliceRange (sliceBounds lo hi st xs.length).1 (sliceBounds lo hi st xs.length).2.1 (sliceBounds lo hi st xs.length).2.2).filterMap (xs[·]?)
theorem pick_arr (its : List Value) (lo hi st : Option Int) : slicePick its.toArray lo hi st = (pickX its lo hi st).toArray := by
  unfold slicePick pickX
  simp
theorem pick_rel {xs : List V} {ys : List Value} (r : Vals xs ys) (is : List Nat) : Vals (is.filterMap (xs[·]?)) (is.filterMap (ys[·]?)) := by
  induction is with
  | nil => exact .nil
  | cons i is ih =>
    rw [List.filterMap_cons, List.filterMap_cons]
    cases hx : xs[i]? with
    | none =>
      have hy : ys[i]? = none := by
        rw [List.getElem?_eq_none_iff] at hx ⊢
        rw [← r.length]
        exact hx
      simp only [hy]
      exact ih
    | some x =>
      obtain ⟨y, hy, hr⟩ := r.get hx
      simp only [hy]
      exact .cons hr ih
theorem Vals.pick {vs : List V} {us : List Value} (r : Vals vs us) (lo hi st : Option Int) : Vals (pickX vs lo hi st) (pickX us lo hi st) := by
  unfold pickX
  rw [r.length]
  exact pick_rel r _
theorem Reps.pick {K : PySem.W.Frag} {F : Hp} {vs : List V} {ds : List D} (r : Reps K F vs ds) (lo hi st : Option Int) : Reps K F (pickX vs lo hi st) (pickX ds lo hi st) := by
  unfold pickX
  rw [r.length]
  generalize sliceRange (sliceBounds lo hi st ds.length).1 (sliceBounds lo hi st ds.length).2.1 (sliceBounds lo hi st ds.length).2.2 = is
  induction is with
  | nil => exact .nil
  | cons i is ih =>
    rw [List.filterMap_cons, List.filterMap_cons]
    cases hx : vs[i]? with
    | none =>
      have hy : ds[i]? = none := by
        rw [List.getElem?_eq_none_iff] at hx ⊢
        rw [← r.length]
        exact hx
      simp only [hy]
      exact ih
    | some x =>
      obtain ⟨y, hy, hr⟩ := r.get' hx
      simp only [hy]
      exact .cons hr ih
def evens {α : Type} : List α → List α
  | [] => []
  | [a] => [a]
  | a :: _ :: r => a :: evens r
theorem evens_at {α : Type} : ∀ (xs : List α), (List.range ((xs.length + 1) / 2)).filterMap (fun k => xs[2 * k]?) = evens xs
  | [] => by simp [evens]
  | [a] => by simp [evens, List.range_succ]
  | a :: b :: r => by
    have e : ((a :: b :: r).length + 1) / 2 = (r.length + 1) / 2 + 1 := by simp; omega
    rw [e, List.range_succ_eq_map, List.filterMap_cons]
    show a :: _ = a :: evens r
    rw [List.filterMap_map]
    congr 1
    rw [← evens_at r]
    congr 1
theorem pick_even {α : Type} (xs : List α) : pickX xs none none (some 2) = evens xs := by
  unfold pickX sliceBounds sliceRange
  simp only [Option.getD_some, show (2 : Int) > 0 by decide, if_true]
  rw [← evens_at xs]
  rw [List.filterMap_map]
  have e : (if (0 : Int) < (xs.length : Int) then ((xs.length : Int) - 0 + 2 - 1) / 2 else 0).toNat = (xs.length + 1) / 2 := by
    split
    · omega
    · omega
  rw [e]
  congr 1
  funext k
  show xs[((0 : Int) + 2 * (k : Int)).toNat]? = xs[2 * k]?
  rw [show ((0 : Int) + 2 * (k : Int)).toNat = 2 * k by omega]
theorem pick_odd {α : Type} (xs : List α) : pickX xs (some 1) none (some 2) = evens (xs.drop 1) := by
  unfold pickX sliceBounds sliceRange
  simp only [Option.getD_some, show (2 : Int) > 0 by decide, if_true, show ¬ (1 : Int) < 0 by decide, if_false]
  rw [← evens_at (xs.drop 1)]
  rw [List.filterMap_map, List.length_drop]
  cases xs with
  | nil => simp
  | cons a r =>
    have m : max (0 : Int) (min 1 ((a :: r).length : Int)) = 1 := by simp; omega
    rw [m]
    have e : (if (1 : Int) < ((a :: r).length : Int) then (((a :: r).length : Int) - 1 + 2 - 1) / 2 else 0).toNat = ((a :: r).length - 1 + 1) / 2 := by
      simp only [List.length_cons]
      split
      · omega
      · omega
    rw [e]
    congr 1
    funext k
    show (a :: r)[((1 : Int) + 2 * (k : Int)).toNat]? = r[2 * k]?
    rw [show ((1 : Int) + 2 * (k : Int)).toNat = 2 * k + 1 by omega, List.getElem?_cons_succ]
section
variable {X : Cx} {e st : Expr} {te : TE} {lo hi : Option Expr} {tl th tc : TO} {pos p2 : Pos}
theorem pe_slice3 (he : PE X e te) (hl : PO X lo tl) (hu : PO X hi th) (hc : PO X (some st) tc) : PE X (.Subscript e (.Slice lo hi (some st) p2) pos) (fun σ H Q => te σ H fun x H1 => tl σ H1 fun l H2 => th σ H2 fun u H3 => tc σ H3 fun c H4 => ∃ a xs, x = .ref a ∧ SqL X.K H4 a xs ∧ c ≠ some 0 ∧ (pickX xs l u c).length ≤ sizeLine ∧ ∀ p, H4 p = none → Q (.ref p) (upd H4 p (.lst (pickX xs l u c)))) := by
  refine ⟨fun pins s σ H Q I h => ?_⟩
  refine Subscript_ (thn (he.run pins s σ H _ I h) fun v s1 ⟨x, H1, I1, r1, q1⟩ => ?_)
  refine wpAny_Slice (thn (hl.run pins s1 σ H1 _ I1 q1) fun vl s2 ⟨l, H2, I2, pl, q2⟩ => thn (hu.run pins s2 σ H2 _ I2 q2) fun vu s3 ⟨u, H3, I3, pu, q3⟩ => thn (hc.run pins s3 σ H3 _ I3 q3) fun vc s4 ⟨c, H4, I4, pc, q4⟩ => ?_)
  have I5 : Inv X pins σ H4 { s4 with heap := s4.heap.push { cls := .type "slice", data := .fields #[vl, vu, vc] } } := I4.kept (t' := s4.toks) fun b ob q => Heap.get?_push_of_some _ q
  obtain ⟨a, xs, rfl, hx, h0, hz2, q⟩ := q4
  cases r1
  obtain ⟨its, r, ht, hz⟩ := I5.list hx
  have hlen := r.length
  have z : wpAny (model X.prog X.w) X.A (getItem (.ref a) (.ref s4.heap.objs.size)) (EP X pins σ Q) X.xe { s4 with heap := s4.heap.push { cls := .type "slice", data := .fields #[vl, vu, vc] } } := by
    refine wpAny_getItem_list_slice ht.isList (Heap.IsSliceOf.new ..) pl pu pc h0 ?_ (by rw [List.size_toArray] <;> omega)
    rw [pick_arr]
    exact ⟨.ref (s4.heap.push { cls := .type "slice", data := .fields #[vl, vu, vc] }).objs.size, _, I5.laid (t' := s4.toks) (o := .lst (pickX xs l u c)) (fun b ob q => Heap.get?_push_of_some _ q) (Nat.le_refl _) ⟨hz2, _, 0, Vals.pick r l u c, Heap.get?_push_size _ rfl⟩, rfl, q _ (I5.hok.fresh (Nat.le_refl _))⟩
  show wpAny (model X.prog X.w) X.A (subscriptTail e (.Slice lo hi (some st) p2) (.ref a) (.ref s4.heap.objs.size)) (EP X pins σ Q) X.xe { s4 with heap := s4.heap.push { cls := .type "slice", data := .fields #[vl, vu, vc] } }
  exact tail_any (ops := [.ref a, .ref s4.heap.objs.size]) ht.isList.typeIs PySem.F.slot_list_getitem.lookup z (by with_unfolding_all rfl)
end
section
variable {X : Cx} {N : En} {W : WX} {n : Nat} {δ : List (Option S)} {μ μ1 : List M} {e : Expr} {pos p2 p3 p4 : Pos} {ds : List D} {k3 k4 : Nat}
theorem evens_len {α : Type} : ∀ xs : List α, (evens xs).length ≤ xs.length
  | [] => Nat.le_refl _
  | [_] => Nat.le_refl _
  | _ :: _ :: r => by
    have := evens_len r
    simp [evens]
    omega
/-- xs[::2] -/
theorem de_even (g : Go X N W n) (he : DE X N W δ μ e (.v (.p (.lst ds))) μ1) (hl : ds.length ≤ 100000) : DE X N W δ μ (.Subscript e (.Slice none none (some (.Constant (.int 2) k3 p3)) p2) pos) (.v (.p (.lst (evens ds)))) μ1 :=
  PE.imp (pe_slice3 he po_none po_none (po_some pe_int)) fun σ H Q ⟨F, A, R0, k⟩ => ⟨F, A, R0, fun v F1 A1 H1 e1 a1 R1 rv => by
    obtain ⟨a, vs, rfl, h1, h2⟩ := rep_lst rv
    have hv := evens_len vs
    have hv2 := h2.length
    refine ⟨2, rfl, a, vs, rfl, by rw [← g.hK]; exact SqL.of (R1.rc.sub _ _ h1), by decide, by rw [pick_even, sizeLine_eq]; omega, fun p np => ?_⟩
    have sm := same_updN (o := .lst (pickX vs none none (some 2))) (R1.rc.fresh np).2.1
    refine k (.ref p) _ A1 _ (e1.trans sm) a1 (R1.to sm (List.prefix_refl _) (R1.rc.frozen np _)) (.lst upd_same ?_)
    have := (Reps.pick h2 none none (some 2)).mono sm
    rw [pick_even ds] at this
    exact this⟩
/-- xs[1::2] -/
theorem de_odd (g : Go X N W n) (he : DE X N W δ μ e (.v (.p (.lst ds))) μ1) (hl : ds.length ≤ 100000) : DE X N W δ μ (.Subscript e (.Slice (some (.Constant (.int 1) k4 p4)) none (some (.Constant (.int 2) k3 p3)) p2) pos) (.v (.p (.lst (evens (ds.drop 1))))) μ1 :=
  PE.imp (pe_slice3 he (po_some pe_int) po_none (po_some pe_int)) fun σ H Q ⟨F, A, R0, k⟩ => ⟨F, A, R0, fun v F1 A1 H1 e1 a1 R1 rv => by
    obtain ⟨a, vs, rfl, h1, h2⟩ := rep_lst rv
    have hv := evens_len (vs.drop 1)
    have hv2 := h2.length
    refine ⟨1, rfl, 2, rfl, a, vs, rfl, by rw [← g.hK]; exact SqL.of (R1.rc.sub _ _ h1), by decide, by rw [pick_odd, sizeLine_eq]; rw [List.length_drop] at hv; omega, fun p np => ?_⟩
    have sm := same_updN (o := .lst (pickX vs (some 1) none (some 2))) (R1.rc.fresh np).2.1
    refine k (.ref p) _ A1 _ (e1.trans sm) a1 (R1.to sm (List.prefix_refl _) (R1.rc.frozen np _)) (.lst upd_same ?_)
    have := (Reps.pick h2 (some 1) none (some 2)).mono sm
    rw [pick_odd ds] at this
    exact this⟩
end
end Dl
set_option Elab.async false
set_option linter.all false
set_option maxRecDepth 100000
set_option maxHeartbeats 4000000
set_option autoImplicit false
namespace Dl
open PySem PySem.Spec PyProof.Rows L2
/-! ## one < other: texts, pairs of a text and an int; in a tuple of texts; range with a step -/
def sltB (a b : Str) : Bool := decide (a.cps.toList < b.cps.toList)
def pltB (p q : Str × Int) : Bool := PySem.W.DatumOrd.lt p q
theorem op_ltP {X : Cx} (hu : X.A.units + 64 < cLine) : OpR X (compareOp .Lt) (fun x y H Q => ∃ (p q : Str × Int), Dp X.K H x (.tuple [.str p.1, .int p.2]) ∧ Dp X.K H y (.tuple [.str q.1, .int q.2]) ∧ Q (.bl (pltB p q)) H) := by
  intro pins s σ H x y v u Q I rx ry ⟨p, q, h1, h2, k⟩
  obtain ⟨as, r1⟩ := Dp.reads I _ x v h1 rx
  obtain ⟨bs, r2⟩ := Dp.reads I _ y u h2 ry
  exact PySem.W.lt_datum (x := p) (y := q) ⟨as, r1⟩ ⟨bs, r2⟩ (Nat.lt_of_le_of_lt (Nat.add_le_add_left (by decide) _) hu) ⟨.bl _, H, I, rfl, k⟩
section
variable {X : Cx} {N : En} {W : WX} {n : Nat} {δ : List (Option S)} {μ μ1 : List M} {a b c tg : Expr} {p pos : Pos}
theorem o_ltS {i j : Str} : OpOk X N W (compareOp .Lt) μ (.p (.str i)) (.p (.str j)) (.v (.p (.bl (sltB i j)))) μ :=
  ⟨_, op_lt_str, fun σ δ F A H x y Q R rx ry k => by
    cases (show Rep N.K F x (.str i) from rx)
    cases (show Rep N.K F y (.str j) from ry)
    exact ⟨i, j, rfl, rfl, k.here R (.bl _)⟩⟩
def pairD (p : Str × Int) : D := .tup [.str p.1, .int p.2]
theorem o_ltP (g : Go X N W n) {p q : Str × Int} : OpOk X N W (compareOp .Lt) μ (.p (pairD p)) (.p (pairD q)) (.v (.p (.bl (pltB p q)))) μ :=
  ⟨_, op_ltP (by have := g.room.un; omega), fun σ δ F A H x y Q R rx ry k => by
    have pd : ∀ p : Str × Int, PyD (pairD p) (.tuple [.str p.1, .int p.2]) := fun p => .tup (.cons (.str _) (.cons (.int _) .nil))
    exact ⟨p, q, by rw [← g.hK]; exact (pd p).dp R.rc.sub rx, by rw [← g.hK]; exact (pd q).dp R.rc.sub ry, k.here R (.bl _)⟩⟩
/-- a text in a tuple of texts -/
theorem strs_vals {K : PySem.W.Frag} {F : Hp} : ∀ {zs : List Str} {vs : List V}, Reps K F vs (zs.map D.str) → vs = zs.map V.str
  | [], _, h => by cases h; rfl
  | z :: zs, _, h => by
    cases h with
    | cons r t =>
      cases (show Rep K F _ (.str z) from r)
      rw [strs_vals t]
      rfl
theorem inV_strs (z : Str) : ∀ zs : List Str, inV (.str z) (zs.map V.str) = decide (z ∈ zs)
  | [] => rfl
  | y :: zs => by
    have := inV_strs z zs
    unfold inV at *
    rw [List.map_cons, List.any_cons, this]
    show ((y == z) || decide (z ∈ zs)) = decide (z ∈ y :: zs)
    by_cases h : z = y
    · subst h; simp
    · have h' : ¬ y = z := fun q => h q.symm
      simp [h, h']
theorem o_inStrT (g : Go X N W n) {z : Str} {zs : List Str} : OpOk X N W (compareOp .In) μ (.p (.str z)) (.p (.tup (zs.map D.str))) (.v (.p (.bl (decide (z ∈ zs))))) μ :=
  ⟨_, op_in_seq, fun σ δ F A H x y Q R rx ry k => by
    cases (show Rep N.K F x (.str z) from rx)
    obtain ⟨a, vs, rfl, h1, h2⟩ := rep_tup (show Rep N.K F y (.tup (zs.map D.str)) from ry)
    have e := strs_vals h2
    subst e
    refine ⟨a, _, rfl, .inr (by rw [← g.hK]; exact same_sqT R.rc.sub h1), rfl, by simp [flatV], ?_⟩
    rw [inV_strs]
    exact k.here R (.bl _)⟩
def stepD (lo c : Int) (n : Nat) : List D := (List.range n).map fun i => D.int (lo + (i : Nat) * c)
theorem yl_rangeC {K : PySem.W.Frag} {F : Hp} {lo c : Int} {n : Nat} : Yl K (Itc lo c n) F (stepD lo c n) := by
  unfold Yl
  rw [show (stepD lo c n).length = n from by simp [stepD]]
  exact Walk.mono (walk_rangeC (lo := lo) (c := c) (n := n)) (fun _ _ => trivial) fun i H x H' hi _ ⟨e, hx⟩ => by
    refine ⟨.int (lo + i * c), ?_, .inl ⟨e, by rw [hx]; exact .int _⟩⟩
    rw [stepD, List.getElem?_map, List.getElem?_range hi]
    rfl
theorem di_range3 {i j k : Int} {m : Nat} (h : DA X N W δ μ [a, b, c] [.p (.int i), .p (.int j), .p (.int k)] μ1) (hm : X.mg "range" = none) (h1 : RgC i j k m) (hg : Gl X "range" := by rfl) (hs : starEach [a, b, c] X.env = (false, eval a X.env) :: starEach [b, c] X.env := by rfl) (hpl : (backTo pos (starEach [b, c] X.env)).any (·.1) = false := by rfl) : DI X N W δ μ tg (.Call (.Name "range" p) [a, b, c] [] pos) (stepD i k m) μ1 :=
  PI.imp (pi_range3 hg hm h hs hpl) fun σ H Rk ⟨F, A, R, kk⟩ => ⟨F, A, R, fun vs F1 A1 H1 e1 p1 R1 rv => by
    cases rv with
    | cons r1 r2 =>
      cases r2 with
      | cons r2 r3 =>
        cases r3 with
        | cons r3 r4 =>
          cases r4
          have r1' : Rep N.K F1 _ (.int i) := r1
          have r2' : Rep N.K F1 _ (.int j) := r2
          have r3' : Rep N.K F1 _ (.int k) := r3
          cases r1'
          cases r2'
          cases r3'
          exact ⟨i, j, k, m, rfl, h1, kk _ F1 A1 H1 e1 p1 R1 yl_rangeC⟩⟩
end
end Dl
set_option Elab.async false
set_option linter.all false
set_option maxRecDepth 100000
set_option maxHeartbeats 4000000
set_option autoImplicit false
namespace Cq
open PySem PySem.Spec PyProof.Rows L2 Dl
/-! # merging runs -/
section
variable {T : Type} [DecidableEq T] (lt : T → T → Bool)
def mrg : List T → List T → List T
  | [], ys => ys
  | x :: xs, [] => x :: xs
  | x :: xs, y :: ys => if lt x y then x :: mrg xs (y :: ys) else if x = y then y :: mrg xs ys else y :: mrg (x :: xs) ys
termination_by a b => a.length + b.length
def pairUp : List (List T) → List (List T)
  | [] => []
  | [a] => [a]
  | a :: b :: r => mrg lt a b :: pairUp r
theorem pairUp_len : ∀ l : List (List T), (pairUp lt l).length = (l.length + 1) / 2
  | [] => by simp [pairUp]
  | [_] => by simp [pairUp]
  | a :: b :: r => by
    show (pairUp lt r).length + 1 = _
    rw [pairUp_len r]
    simp only [List.length_cons]
    omega
def ascR (l : List (List T)) : List (List T) := if h : 1 < l.length then ascR (pairUp lt l) else l
termination_by l.length
decreasing_by rw [pairUp_len]; omega
def ascF (xs : List T) : List T := (ascR lt (xs.map fun x => [x])).flatten
theorem mem_mrg (z : T) : ∀ xs ys : List T, z ∈ mrg lt xs ys ↔ z ∈ xs ∨ z ∈ ys
  | [], ys => by unfold mrg; simp
  | x :: xs, [] => by unfold mrg; simp
  | x :: xs, y :: ys => by
    unfold mrg
    split
    · rw [List.mem_cons, mem_mrg z xs (y :: ys), List.mem_cons, List.mem_cons]
      constructor
      · rintro (h | h | h) <;> simp [h]
      · rintro ((h | h) | h) <;> simp [h]
    · split
      · rename_i e
        subst e
        rw [List.mem_cons, mem_mrg z xs ys, List.mem_cons, List.mem_cons]
        constructor
        · rintro (h | h | h) <;> simp [h]
        · rintro ((h | h) | h | h) <;> simp [h]
      · rw [List.mem_cons, mem_mrg z (x :: xs) ys, List.mem_cons, List.mem_cons]
        constructor
        · rintro (h | h | h) <;> simp [h]
        · rintro (h | h | h) <;> simp [h]
termination_by a b => a.length + b.length
theorem mem_pairUp (z : T) : ∀ l : List (List T), z ∈ (pairUp lt l).flatten ↔ z ∈ l.flatten
  | [] => Iff.rfl
  | [_] => Iff.rfl
  | a :: b :: r => by
    show z ∈ (mrg lt a b :: pairUp lt r).flatten ↔ _
    rw [List.flatten_cons, List.mem_append, mem_mrg, mem_pairUp z r, List.flatten_cons, List.flatten_cons, List.mem_append, List.mem_append, or_assoc]
theorem mrg_len : ∀ xs ys : List T, (mrg lt xs ys).length ≤ xs.length + ys.length
  | [], ys => by unfold mrg; simp
  | x :: xs, [] => by unfold mrg; simp
  | x :: xs, y :: ys => by
    unfold mrg
    split
    · have := mrg_len xs (y :: ys)
      simp only [List.length_cons] at *
      omega
    · split
      · have := mrg_len xs ys
        simp only [List.length_cons] at *
        omega
      · have := mrg_len (x :: xs) ys
        simp only [List.length_cons] at *
        omega
termination_by a b => a.length + b.length
theorem pairUp_sum : ∀ l : List (List T), (pairUp lt l).flatten.length ≤ l.flatten.length
  | [] => Nat.le_refl _
  | [_] => Nat.le_refl _
  | a :: b :: r => by
    have h1 := mrg_len lt a b
    have h2 := pairUp_sum r
    show (mrg lt a b :: pairUp lt r).flatten.length ≤ _
    simp only [List.flatten_cons, List.length_append]
    omega
theorem ascR_sum (l : List (List T)) : (ascR lt l).flatten.length ≤ l.flatten.length := by
  unfold ascR
  split
  · rename_i h
    have hl := pairUp_len lt l
    exact Nat.le_trans (ascR_sum (pairUp lt l)) (pairUp_sum lt l)
  · exact Nat.le_refl _
termination_by l.length
decreasing_by omega
theorem ascF_len (xs : List T) : (ascF lt xs).length ≤ xs.length := by
  refine Nat.le_trans (ascR_sum lt _) ?_
  induction xs with
  | nil => exact Nat.le_refl _
  | cons x xs ih => simp only [List.map_cons, List.flatten_cons, List.length_append, List.length_cons, List.length_nil] at *; omega
/-! ## ascending -/
variable {lt}
end
/-! ## texts in order -/
end Cq
set_option Elab.async false
set_option linter.all false
set_option maxRecDepth 100000
set_option maxHeartbeats 4000000
set_option autoImplicit false
namespace Cq
open PySem PySem.Spec PyProof.Rows L2 Dl
/-! # lines of circuits, as words of signs -/
inductive Ln where
  | ab (q : Bool) (s : Int) (L : List Nat)
  | h (a : Nat)
  | pr (k a b : Nat)
  | tn (s : Int) (L : List Nat) (ps : List (List Nat × Int))
deriving DecidableEq
abbrev wFlip : List Nat := [102, 108, 105, 112]
abbrev wQuarter : List Nat := [113, 117, 97, 114, 116, 101, 114]
abbrev wTurn : List Nat := [116, 117, 114, 110]
abbrev wBy : List Nat := [98, 121]
def pn (k : Nat) : List Nat := if k = 0 then [99, 122] else if k = 1 then [99, 120] else [115, 119, 97, 112]
def sgL (L : List Nat) (s : Int) : List Nat := if s < 0 then 45 :: L else L
def mt (i : Int) : List Nat := if i < 0 then [45, 48 + (-i).toNat] else [48 + i.toNat]
def lw : Ln → List (List Nat)
  | .ab q s L => [if q then wQuarter else wFlip, sgL L s]
  | .h a => [[104], [48 + a]]
  | .pr k a b => [pn k, [48 + a], [48 + b]]
  | .tn s L ps => wTurn :: sgL L s :: wBy :: ps.flatMap fun p => [mt p.2, p.1]
def lt (l : Ln) : List Nat := TL.joinL [32] (lw l)
def wT (w : Nat) : List Nat := [119, 105, 114, 101, 115, 32, 48 + w]
def ct (w : Nat) (ls : List Ln) : List Nat := TL.joinL [10] (wT w :: ls.map lt)
structure okNm (k : List Nat) : Prop where
  one : 1 ≤ k.length
  eight : k.length ≤ 8
  az : ∀ c ∈ k, 97 ≤ c ∧ c ≤ 122
def manys : List Int := [1, 2, 3, 4, -1, -2, -3, -4]
structure okWd (w : Nat) (s : Int) (L : List Nat) : Prop where
  okL : Dl.okL L
  pm : s = 1 ∨ s = -1
  len : L.length = w
  ne : L ≠ List.replicate w 73
def okLn (w : Nat) : Ln → Prop
  | .ab _ s L => okWd w s L
  | .h a => a < w
  | .pr k a b => k < 3 ∧ a < w ∧ b < w ∧ a ≠ b
  | .tn s L ps => okWd w s L ∧ 1 ≤ ps.length ∧ ps.length ≤ 3 ∧ (ps.map (·.1)).Nodup ∧ ∀ p ∈ ps, okNm p.1 ∧ p.2 ∈ manys
def isT : Ln → Bool
  | .tn _ _ _ => true
  | _ => false
structure okC (w : Nat) (ls : List Ln) : Prop where
  w1 : 1 ≤ w
  w4 : w ≤ 4
  ok : ∀ l ∈ ls, okLn w l
  len : ls.length ≤ 40
  six : (ls.filter isT).length ≤ 6
/-! ## signs in them -/
theorem in_IXYZ {c : Nat} (h : c ∈ IXYZ) : c = 73 ∨ c = 88 ∨ c = 89 ∨ c = 90 := by
  simpa [IXYZ] using h
def gd (c : Nat) : Prop := 33 ≤ c ∧ c ≤ 122
theorem gd_sgL {L : List Nat} {s : Int} (h : okL L) : ∀ c ∈ sgL L s, gd c := by
  intro c hc
  have hx : ∀ d ∈ L, gd d := fun d hd => by
    rcases in_IXYZ (h.all d hd) with rfl | rfl | rfl | rfl <;> exact ⟨by decide, by decide⟩
  unfold sgL at hc
  split at hc
  · rcases List.mem_cons.mp hc with rfl | hc
    · exact ⟨by decide, by decide⟩
    · exact hx c hc
  · exact hx c hc
theorem gd_mt {i : Int} (h : i ∈ manys) : ∀ c ∈ mt i, gd c := by
  have : ∀ j ∈ manys, ∀ c ∈ mt j, 33 ≤ c ∧ c ≤ 122 := by decide
  exact this i h
theorem gd_lw {w : Nat} {l : Ln} (hw : w ≤ 4) (h : okLn w l) : ∀ p ∈ lw l, p ≠ [] ∧ ∀ c ∈ p, gd c := by
  have fixed : ∀ p ∈ [wFlip, wQuarter, wTurn, wBy, [104], pn 0, pn 1, pn 2, [48], [49], [50], [51]], p ≠ [] ∧ ∀ c ∈ p, 33 ≤ c ∧ c ≤ 122 := by decide
  have dig : ∀ a, a < w → ([48 + a] : List Nat) ≠ [] ∧ ∀ c ∈ [48 + a], gd c := fun a ha => ⟨by simp, fun c hc => by
    rw [List.mem_singleton.mp hc]
    exact ⟨by omega, by omega⟩⟩
  have sg : ∀ {s : Int} {L : List Nat}, okWd w s L → sgL L s ≠ [] ∧ ∀ c ∈ sgL L s, gd c := fun {s L} o => ⟨fun e => by
    have := o.okL.one
    unfold sgL at e
    split at e
    · cases e
    · rw [e] at this; simp at this, gd_sgL o.okL⟩
  cases l with
  | ab q s L =>
    intro p hp
    rcases List.mem_cons.mp (show p ∈ [if q then wQuarter else wFlip, sgL L s] from hp) with rfl | hp
    · cases q
      · exact fixed wFlip (by simp)
      · exact fixed wQuarter (by simp)
    · rw [List.mem_singleton.mp hp]
      exact sg h
  | h a =>
    intro p hp
    rcases List.mem_cons.mp (show p ∈ [[104], [48 + a]] from hp) with rfl | hp
    · exact fixed [104] (by simp)
    · rw [List.mem_singleton.mp hp]
      exact dig a h
  | pr k a b =>
    intro p hp
    rcases List.mem_cons.mp (show p ∈ [pn k, [48 + a], [48 + b]] from hp) with rfl | hp
    · have h1 : k < 3 := h.1
      match k, h1 with
      | 0, _ => exact fixed (pn 0) (by simp)
      | 1, _ => exact fixed (pn 1) (by simp)
      | 2, _ => exact fixed (pn 2) (by simp)
    · rcases List.mem_cons.mp hp with rfl | hp
      · exact dig a h.2.1
      · rw [List.mem_singleton.mp hp]
        exact dig b h.2.2.1
  | tn s L ps =>
    intro p hp
    rcases List.mem_cons.mp (show p ∈ wTurn :: sgL L s :: wBy :: _ from hp) with rfl | hp
    · exact fixed wTurn (by simp)
    rcases List.mem_cons.mp hp with rfl | hp
    · exact sg h.1
    rcases List.mem_cons.mp hp with rfl | hp
    · exact fixed wBy (by simp)
    obtain ⟨x, hx, hp⟩ := List.mem_flatMap.mp hp
    obtain ⟨o1, o2⟩ := h.2.2.2.2 x hx
    rcases List.mem_cons.mp hp with rfl | hp
    · refine ⟨fun e => ?_, gd_mt o2⟩
      unfold mt at e
      split at e <;> cases e
    · rw [List.mem_singleton.mp hp]
      refine ⟨fun e => ?_, fun c hc => ?_⟩
      · have := o1.one
        rw [e] at this; simp at this
      · have := o1.az c hc
        exact ⟨by omega, this.2⟩
theorem mem_joinL {c : Nat} {S : List Nat} : ∀ {ps : List (List Nat)}, c ∈ TL.joinL S ps → c ∈ S ∨ ∃ p ∈ ps, c ∈ p
  | [], h => by cases h
  | [p], h => .inr ⟨p, by simp, h⟩
  | p :: q :: r, h => by
    rcases List.mem_append.mp (show c ∈ p ++ (S ++ TL.joinL S (q :: r)) from h) with h | h
    · exact .inr ⟨p, by simp, h⟩
    · rcases List.mem_append.mp h with h | h
      · exact .inl h
      · rcases mem_joinL h with h | ⟨z, h1, h2⟩
        · exact .inl h
        · exact .inr ⟨z, by simp [h1], h2⟩
theorem lt_signs {w : Nat} {l : Ln} (hw : w ≤ 4) (h : okLn w l) : ∀ c ∈ lt l, 32 ≤ c ∧ c ≤ 122 := by
  intro c hc
  rcases mem_joinL hc with h1 | ⟨p, h1, h2⟩
  · rw [List.mem_singleton.mp h1]; decide
  · have := (gd_lw hw h p h1).2 c h2
    exact ⟨by have := this.1; omega, this.2⟩
theorem lw_ne (l : Ln) : lw l ≠ [] := by cases l <;> simp [lw]
theorem split_lt {w : Nat} {l : Ln} (hw : w ≤ 4) (h : okLn w l) : TL.spl [32] 0 [] (lt l) = lw l :=
  TL.spl_join (lw_ne l) fun p hp hc => by
    have := ((gd_lw hw h p hp).2 32 hc).1
    omega
theorem split_ct {w : Nat} {ls : List Ln} (h : okC w ls) : TL.spl [10] 0 [] (ct w ls) = wT w :: ls.map lt :=
  TL.spl_join (by simp) fun p hp hc => by
    rcases List.mem_cons.mp hp with rfl | hp
    · have hw := h.w4
      simp only [wT, List.mem_cons, List.not_mem_nil, or_false] at hc
      omega
    · obtain ⟨l, hl, rfl⟩ := List.mem_map.mp hp
      have := (lt_signs h.w4 (h.ok l hl) 10 hc).1
      omega
/-! ## lengths -/
theorem joinL_len {S : List Nat} {m : Nat} : ∀ {ps : List (List Nat)}, (∀ p ∈ ps, p.length ≤ m) → (TL.joinL S ps).length ≤ ps.length * (m + S.length)
  | [], _ => Nat.zero_le _
  | [p], h => by
    show p.length ≤ 1 * (m + S.length)
    have := h p (by simp)
    omega
  | p :: q :: r, h => by
    show (p ++ (S ++ TL.joinL S (q :: r))).length ≤ _
    have h1 := h p (by simp)
    have h2 := joinL_len (S := S) (ps := q :: r) fun z hz => h z (by simp [hz])
    rw [List.length_append, List.length_append, List.length_cons, Nat.succ_mul]
    omega
theorem sgL_len {w : Nat} {s : Int} {L : List Nat} (h : okWd w s L) : (sgL L s).length ≤ 5 := by
  have := h.okL.four
  unfold sgL
  split <;> simp <;> omega
theorem lw_len {w : Nat} {l : Ln} (h : okLn w l) : (lw l).length ≤ 9 ∧ ∀ p ∈ lw l, p.length ≤ 8 := by
  have fixed : ∀ p ∈ [wFlip, wQuarter, wTurn, wBy, [104], pn 0, pn 1, pn 2], p.length ≤ 8 := by decide
  cases l with
  | ab q s L =>
    refine ⟨show 2 ≤ 9 by decide, fun p hp => ?_⟩
    rcases List.mem_cons.mp (show p ∈ [if q then wQuarter else wFlip, sgL L s] from hp) with rfl | hp
    · cases q <;> decide
    · rw [List.mem_singleton.mp hp]
      have := sgL_len h
      omega
  | h a => exact ⟨show 2 ≤ 9 by decide, fun p hp => by
      rcases List.mem_cons.mp (show p ∈ [[104], [48 + a]] from hp) with rfl | hp
      · decide
      · rw [List.mem_singleton.mp hp]; show 1 ≤ 8; decide⟩
  | pr k a b =>
    refine ⟨show 3 ≤ 9 by decide, fun p hp => ?_⟩
    rcases List.mem_cons.mp (show p ∈ [pn k, [48 + a], [48 + b]] from hp) with rfl | hp
    · unfold pn; split
      · decide
      · split <;> decide
    · rcases List.mem_cons.mp hp with rfl | hp
      · show 1 ≤ 8; decide
      · rw [List.mem_singleton.mp hp]; show 1 ≤ 8; decide
  | tn s L ps =>
    refine ⟨?_, fun p hp => ?_⟩
    · show (ps.flatMap fun p => [mt p.2, p.1]).length + 1 + 1 + 1 ≤ 9
      have e : ∀ qs : List (List Nat × Int), (qs.flatMap fun p => [mt p.2, p.1]).length = 2 * qs.length := fun qs => by
        induction qs with
        | nil => rfl
        | cons x xs ih => rw [List.flatMap_cons, List.length_append, ih, List.length_cons]; simp; omega
      rw [e]
      have := h.2.2.1
      omega
    · rcases List.mem_cons.mp (show p ∈ wTurn :: sgL L s :: wBy :: _ from hp) with rfl | hp
      · decide
      rcases List.mem_cons.mp hp with rfl | hp
      · have := sgL_len h.1
        omega
      rcases List.mem_cons.mp hp with rfl | hp
      · decide
      obtain ⟨x, hx, hp⟩ := List.mem_flatMap.mp hp
      rcases List.mem_cons.mp hp with rfl | hp
      · unfold mt; split <;> simp
      · rw [List.mem_singleton.mp hp]
        exact (h.2.2.2.2 x hx).1.eight
theorem lt_len {w : Nat} {l : Ln} (h : okLn w l) : (lt l).length ≤ 81 := by
  obtain ⟨h1, h2⟩ := lw_len h
  have := joinL_len (S := [32]) h2
  have e : (lw l).length * (8 + ([32] : List Nat).length) ≤ 9 * 9 := Nat.mul_le_mul h1 (Nat.le_refl _)
  unfold lt
  omega
theorem ct_len {w : Nat} {ls : List Ln} (h : okC w ls) : (ct w ls).length ≤ 3500 := by
  have := joinL_len (S := [10]) (m := 81) (ps := wT w :: ls.map lt) fun p hp => by
    rcases List.mem_cons.mp hp with rfl | hp
    · show 7 ≤ 81; decide
    · obtain ⟨l, hl, rfl⟩ := List.mem_map.mp hp
      exact lt_len (h.ok l hl)
  have e : (wT w :: ls.map lt).length * (81 + ([10] : List Nat).length) ≤ 41 * 82 := Nat.mul_le_mul (by have := h.len; simp; omega) (Nat.le_refl _)
  unfold ct
  omega
/-! ## what they are read as -/
abbrev pairS (p : List Nat × Int) : Str × Int := (st p.1, p.2)
def formF (ps : List (List Nat × Int)) : List (Str × Int) := ascF pltB (ps.map pairS)
def stpD : Ln → D
  | .ab q s L => .tup [.str (st (if q then wQuarter else wFlip)), .str (st L), .int s]
  | .h a => .tup [.str (st [104]), .int (a : Nat)]
  | .pr k a b => .tup [.str (st (pn k)), .int (a : Nat), .int (b : Nat)]
  | .tn s L ps => .tup [.str (st wTurn), .str (st L), .int s, .tup ((formF ps).map pairD)]
def formK : Ln → List Str
  | .tn _ _ ps => (formF ps).map (·.1)
  | _ => []
def knobsF (ls : List Ln) : List Str := ascF sltB (ls.flatMap formK)
def turnsG : Nat → List Ln → List Nat
  | _, [] => []
  | k, l :: r => if isT l then k :: turnsG (k + 1) r else turnsG (k + 1) r
def turnsF (ls : List Ln) : List Nat := turnsG 0 ls
abbrev cF : List Str := ["_text", "_lines", "steps", "wires", "knobs", "turns"]
def circD (C : Addr) (w : Nat) (ls : List Ln) : D :=
  .ins C cF [.str (st (ct w ls)), .tup (ls.map fun l => .str (st (lt l))), .tup (ls.map stpD), .int (w : Nat), .tup ((knobsF ls).map D.str), .tup ((turnsF ls).map fun i => .int ((i : Nat) : Int))]
theorem formF_len (ps : List (List Nat × Int)) : (formF ps).length ≤ ps.length := by
  have := ascF_len pltB (ps.map pairS)
  rw [List.length_map] at this
  exact this
end Cq
set_option Elab.async false
set_option linter.all false
set_option maxRecDepth 100000
set_option maxHeartbeats 4000000
set_option autoImplicit false
namespace Dl
open PySem PySem.Spec PyProof.Rows L2
section
variable {X : Cx} {N : En} {W : WX} {n k : Nat} {δ : List (Option S)} {μ μ1 μ2 μ3 : List M} {e a b o c : Expr} {es : List Expr} {pos p p2 tpos : Pos} {ds : List D} {d : D} {i j : Int} {lo hi : Option Int} {C : Addr} {R : Rel} {r : Rx}
/-! ## x += e, of ints -/
theorem ds_augI (q : Nat) {x : Str} {pos' : Pos} {op : Operator} {f : Int → Int → Int} (h : DE X N W δ μ e (.v (.p (.int j))) μ1) (ip : PIp X op (ipI f)) (hs : δ[q]? = some (some (.p (.int i)))) (hN : X.N.Nodup) (hi : X.N[q]? = some x := by rfl) (hx : Loc X.env.scope x := by first | exact Or.inl rfl | exact Or.inr rfl)
    (hf : X.fn x = true ∨ X.env.scope.names.lookup x = some .local := by first | exact .inl rfl | exact .inr rfl) : DS X N W δ μ (.AugAssign (.Name x pos') op e pos) (.nx (δ.set q (some (.p (.int (f i j))))) μ1) :=
  PS.imp (ps_aug hN hi hx h ip hf) fun K σ H ⟨F, A, R0, kk⟩ => by
    obtain ⟨v, h1, h2⟩ := R0.sl q _ hs
    cases (show Rep N.K F v (.int i) from h2)
    refine ⟨.int i, h1, F, A, R0, fun y F1 A1 H1 e1 p1 R1 ry => ?_⟩
    cases (show Rep N.K F1 y (.int j) from ry)
    exact ⟨i, j, rfl, rfl, kk _ F1 A1 H1 e1 p1 (R1.set (.int _))⟩
theorem ds_inc (q : Nat) {x : Str} {pos' : Pos} (h : DE X N W δ μ e (.v (.p (.int j))) μ1) (hs : δ[q]? = some (some (.p (.int i)))) (hN : X.N.Nodup) (hi : X.N[q]? = some x := by rfl) (hx : Loc X.env.scope x := by first | exact Or.inl rfl | exact Or.inr rfl)
    (hf : X.fn x = true ∨ X.env.scope.names.lookup x = some .local := by first | exact .inl rfl | exact .inr rfl) : DS X N W δ μ (.AugAssign (.Name x pos') .Add e pos) (.nx (δ.set q (some (.p (.int (i + j))))) μ1) :=
  ds_augI q h ip_add hs hN hi hx hf
/-! ## ~a, by its own method -/
/-! ## slices of tuples -/
theorem cut_whole {α : Type} (xs : List α) (h : HT.sIx xs.length 0 lo = 0 ∧ HT.sIx xs.length xs.length hi = xs.length) : cutX xs lo hi = xs := by
  unfold cutX
  rw [h.1, h.2]
  simp
theorem end_cutT {σ : L2.St} {F : Hp} {A : List Addr} {H : Hp} {Q : VK} {v : V} (g : Go X N W n) (R : Rl N F A H σ δ μ) (rv : Rep N.K F v (.tup ds)) (k : EndE N W σ δ F A μ Q (.v (.p (.tup (cutX ds lo hi))))) : rSlA X.K v lo hi H Q := by
  obtain ⟨a, vs, rfl, h1, h2⟩ := rep_tup rv
  have hl := h2.length
  refine ⟨a, vs, rfl, by rw [← g.hK]; exact same_sqT R.rc.sub h1, fun hw => ?_, fun hw p np => ?_⟩
  · rw [hl] at hw
    rw [cut_whole ds hw] at k
    exact k.here R (show Rep N.K F (.ref a) (.tup ds) from rv)
  · have sm := same_updN (o := .tup (cutV vs lo hi)) (R.rc.fresh np).2.1
    exact k (.ref p) _ A _ sm (List.prefix_refl _) (R.to sm (List.prefix_refl _) (R.rc.frozen np _)) (.tup (SqT.of upd_same) ((h2.cut lo hi).mono sm))
theorem de_cutTf (g : Go X N W n) (he : DE X N W δ μ e (.v (.p (.tup ds))) μ1) (ha : DE X N W δ μ1 a (.v (.p (.int i))) μ2) : DE X N W δ μ (.Subscript e (.Slice (some a) none none p2) pos) (.v (.p (.tup (cutX ds (some i) none)))) μ2 :=
  PE.imp (pe_slice sl_tupA he (po_some ha) po_none) fun σ H Q ⟨F, A, R0, k⟩ => ⟨F, A, R0, fun v F1 A1 H1 e1 a1 R1 rv => by
    refine ⟨F1, A1, R1, fun v2 F2 A2 H2 e2 a2 R2 rv2 => ?_⟩
    cases (show Rep N.K F2 v2 (.int i) from rv2)
    exact ⟨i, rfl, end_cutT g R2 (Rep.mono e2 rv) (k.to (e1.trans e2) (a1.trans a2))⟩⟩
theorem de_cutTt (g : Go X N W n) (he : DE X N W δ μ e (.v (.p (.tup ds))) μ1) (ha : DE X N W δ μ1 a (.v (.p (.int i))) μ2) : DE X N W δ μ (.Subscript e (.Slice none (some a) none p2) pos) (.v (.p (.tup (cutX ds none (some i))))) μ2 :=
  PE.imp (pe_slice sl_tupA he po_none (po_some ha)) fun σ H Q ⟨F, A, R0, k⟩ => ⟨F, A, R0, fun v F1 A1 H1 e1 a1 R1 rv => by
    refine ⟨F1, A1, R1, fun v2 F2 A2 H2 e2 a2 R2 rv2 => ?_⟩
    cases (show Rep N.K F2 v2 (.int i) from rv2)
    exact ⟨i, rfl, end_cutT g R2 (Rep.mono e2 rv) (k.to (e1.trans e2) (a1.trans a2))⟩⟩
/-! ## [*t, ..], t a tuple -/
/-! ## not in, lists times ints, str of an int -/
theorem o_notInStrT (g : Go X N W n) {z : Str} {zs : List Str} : OpOk X N W (compareOp .NotIn) μ (.p (.str z)) (.p (.tup (zs.map D.str))) (.v (.p (.bl (!decide (z ∈ zs))))) μ :=
  ⟨_, op_notIn_seq, fun σ δ F A H x y Q R rx ry k => by
    cases (show Rep N.K F x (.str z) from rx)
    obtain ⟨a, vs, rfl, h1, h2⟩ := rep_tup (show Rep N.K F y (.tup (zs.map D.str)) from ry)
    have e := strs_vals h2
    subst e
    refine ⟨a, _, rfl, .inr (by rw [← g.hK]; exact same_sqT R.rc.sub h1), rfl, by simp [flatV], ?_⟩
    rw [inV_strs]
    exact k.here R (.bl _)⟩
theorem Reps.rep {K : PySem.W.Frag} {F : Hp} {vs : List V} {ds : List D} (h : Reps K F vs ds) : ∀ m : Nat, Reps K F (List.replicate m vs).flatten (List.replicate m ds).flatten
  | 0 => .nil
  | m + 1 => by
    rw [List.replicate_succ, List.replicate_succ, List.flatten_cons, List.flatten_cons]
    exact h.append (Reps.rep h m)
theorem o_timesL {ds : List D} {i : Int} (h1 : -(2 ^ 63) ≤ i) (h2 : i < 2 ^ 63) (hl : ds.length * i.toNat ≤ sizeLine) : OpOk X N W (binaryOp .Mult) μ (.p (.lst ds)) (.p (.int i)) (.v (.p (.lst (List.replicate i.toNat ds).flatten))) μ :=
  ⟨_, op_rep, fun σ δ F A H x y Q R rx ry k => by
    cases (show Rep N.K F y (.int i) from ry)
    obtain ⟨a, vs, rfl, g1, g2⟩ := rep_lst (show Rep N.K F x (.lst ds) from rx)
    refine ⟨a, i, vs, rfl, rfl, R.rc.sub _ _ g1, h1, h2, by rw [g2.length]; exact hl, fun p np => ?_⟩
    have sm := same_updN (o := .lst (List.replicate i.toNat vs).flatten) (R.rc.fresh np).2.1
    exact k (.ref p) _ A _ sm (List.prefix_refl _) (R.to sm (List.prefix_refl _) (R.rc.frozen np _)) (.lst upd_same ((g2.rep i.toNat).mono sm))⟩
theorem c_strN {i : Int} (hi : i.natAbs.log2 < 1920) : CallOk X N W (.type "str") μ [.p (.int i)] (.v (.p (.str (toString i)))) μ :=
  ⟨_, call_str_int, fun σ δ F A H vs Q R rv k => by
    obtain ⟨v, rfl, r1⟩ := one_of rv
    cases rs_int r1
    exact ⟨i, rfl, hi, k.here R (.str _)⟩⟩
/-! ## a tuple of the module by its name -/
theorem de_globT {x : Str} {u : Addr} (g : Go X N W n) (hm : X.mg x = some (.ref u)) (sq : ∀ H, ∃ vs, SqT X.K H u vs ∧ ∀ F, Reps X.K F vs ds) (hg : Gl X x := by rfl) (hd : (x == ("__debug__" : Str)) = false := by decide) : DE X N W δ μ (.Name x pos) (.v (.p (.tup ds))) μ :=
  PE.imp (pe_glob (v := .ref u) hg hm rfl hd) fun σ H Q ⟨F, A, R, k⟩ => by
    obtain ⟨vs, h1, h2⟩ := sq F
    refine k.here R (show Rep N.K F (.ref u) (.tup ds) from ?_)
    rw [g.hK]
    exact .tup h1 (h2 F)
/-! ## xs[f()] = e: the place is told by a call -/
theorem ds_setI {q : Nat} {ds : List D} {i : Int} {k : Nat} (hv : DE X N W δ μ e (.v (.p d)) μ1) (ho : DE X N W δ μ1 o (.v (.l q)) μ1) (hb : DE X N W δ μ1 b (.v (.p (.int i))) μ2) (hj : μ2[q]? = some (.lst ds)) (hk : ixN ds.length i = some k)
    (hs : swapsWithSole [.Subscript o b p] e pos.line X.env = pure false := by rfl) (hw : swappedStores [.Subscript o b p] e X.env = pure none := by rfl)
    (h1 : (assignEach [.Subscript o b p] X.env).map (·.2) = [assign (.Subscript o b p) X.env] := by rfl)
    (ha : ∀ v, assign (.Subscript o b p) X.env v = (do
      let ov ← holding [v] (eval o X.env)
      let iv ← holding [v, ov] (eval b X.env)
      standAt p
      holding [v, ov, iv] (setItem ov iv v)
      release [v, ov, iv] []) := by intro _; rfl) : DS X N W δ μ (.Assign [.Subscript o b p] e pos) (.nx δ (μ2.set q (.lst (ds.set k d)))) :=
  PS.imp (ps_asg hv (pg_sub ho hb set_list ha) hs hw h1) fun K σ H ⟨F, A, R, z⟩ => ⟨F, A, R, fun v F1 A1 H1 e1 p1 R1 rv => ⟨F1, A1, R1, fun ov F2 A2 H2 e2 p2 R2 ro => ⟨F2, A2, R2, fun iv F3 A3 H3 e3 p3 R3 ri => by
    obtain ⟨a, rfl, ha⟩ := ro
    have rv3 : Rep N.K F3 v d := Rep.mono (e2.trans e3) rv
    have ha3 := getElem?_pre p3 ha
    obtain ⟨ws, h1, h2⟩ := R3.rc.mus q a _ ha3 hj
    refine ⟨a, ws, i, k, rfl, rs_int ri, h1, by rw [h2.length]; exact hk, ?_⟩
    exact z σ F3 A3 _ ((e1.trans e2).trans e3) ((p1.trans p2).trans p3) (R3.to (Same.refl _) (List.prefix_refl _) (R3.rc.write ha3 hj trivial ⟨_, upd_same, h2.set rv3 k⟩))⟩⟩⟩
end
end Dl
set_option Elab.async false
set_option linter.all false
set_option maxRecDepth 100000
set_option maxHeartbeats 4000000
set_option autoImplicit false
namespace Dl
open PySem PySem.Spec PyProof.Rows L2
/-! ## xs[::-1] -/
theorem fm_congr {α β : Type} {f h : α → Option β} : ∀ {l : List α}, (∀ a ∈ l, f a = h a) → l.filterMap f = l.filterMap h
  | [], _ => rfl
  | a :: l, e => by
    rw [List.filterMap_cons, List.filterMap_cons, e a List.mem_cons_self, fm_congr fun b hb => e b (List.mem_cons_of_mem _ hb)]
theorem rev_atN {α : Type} : ∀ (n : Nat) (xs : List α), xs.length = n → (List.range n).filterMap (fun k => xs[n - 1 - k]?) = xs.reverse
  | 0, xs, h => by
    rw [List.length_eq_zero_iff.mp h]
    rfl
  | n + 1, xs, h => by
    obtain ⟨ys, a, rfl⟩ : ∃ ys a, xs = ys ++ [a] := ⟨xs.dropLast, xs.getLast (by intro e; rw [e] at h; cases h), (List.dropLast_concat_getLast _).symm⟩
    have hy : ys.length = n := by simp at h; exact h
    rw [List.range_succ_eq_map, List.filterMap_cons, List.filterMap_map, List.reverse_append]
    have e0 : (ys ++ [a])[n + 1 - 1 - 0]? = some a := by
      rw [List.getElem?_append_right (by omega), show n + 1 - 1 - 0 - ys.length = 0 by omega]
      rfl
    simp only [e0]
    show a :: _ = a :: ys.reverse
    congr 1
    rw [← rev_atN n ys hy]
    refine fm_congr fun k hk => ?_
    have hk : k < n := List.mem_range.mp hk
    show (ys ++ [a])[n + 1 - 1 - (k + 1)]? = ys[n - 1 - k]?
    rw [List.getElem?_append_left (by omega), show n + 1 - 1 - (k + 1) = n - 1 - k by omega]
theorem rev_at {α : Type} (xs : List α) : (List.range xs.length).filterMap (fun k => xs[xs.length - 1 - k]?) = xs.reverse := rev_atN _ xs rfl
theorem pick_rev {α : Type} (xs : List α) : pickX xs none none (some (-1)) = xs.reverse := by
  unfold pickX sliceBounds sliceRange
  simp only [Option.getD_some, show ¬ (-1 : Int) > 0 by decide, if_false]
  rw [← rev_at xs, List.filterMap_map]
  have e : (if (xs.length : Int) - 1 > -1 then ((xs.length : Int) - 1 - -1 - -1 - 1) / (- -1) else 0).toNat = xs.length := by
    rw [show (- -1 : Int) = 1 by decide, Int.ediv_one]
    split <;> omega
  rw [e]
  refine fm_congr fun k hk => ?_
  have hk : k < xs.length := List.mem_range.mp hk
  show xs[((xs.length : Int) - 1 + -1 * (k : Int)).toNat]? = _
  rw [show ((xs.length : Int) - 1 + -1 * (k : Int)).toNat = xs.length - 1 - k by omega]
section
variable {X : Cx} {N : En} {W : WX} {n : Nat} {δ : List (Option S)} {μ μ1 : List M} {e : Expr} {pos p2 p3 p4 : Pos} {ds : List D} {k3 : Option String}
theorem de_revL {kk} (g : Go X N W n) (he : DE X N W δ μ e (.v (.p (.lst ds))) μ1) (hl : ds.length ≤ 100000) : DE X N W δ μ (.Subscript e (.Slice none none (some (.UnaryOp .USub (.Constant (.int 1) kk p3) p4)) p2) pos) (.v (.p (.lst ds.reverse))) μ1 :=
  PE.imp (pe_slice3 he po_none po_none (po_some (de_un (N := N) (W := W) (δ := δ) (μ := μ1) de_int u_neg))) fun σ H Q ⟨F, A, R, k⟩ => ⟨F, A, R, fun v F1 A1 H1 e1 a1 R1 rv => by
    obtain ⟨a, vs, rfl, h1, h2⟩ := rep_lst rv
    have hv2 := h2.length
    refine ⟨F1, A1, R1, fun z F2 A2 H2 e2 a2 R2 rz => ?_⟩
    cases (show Rep N.K F2 z (.int (-1)) from rz)
    refine ⟨-1, rfl, a, vs, rfl, by rw [← g.hK]; exact SqL.of (R2.rc.sub _ _ (e2 _ _ h1)), by decide, by rw [pick_rev, List.length_reverse, sizeLine_eq]; omega, fun p np => ?_⟩
    have sm := same_updN (o := .lst (pickX vs none none (some (-1)))) (R2.rc.fresh np).2.1
    refine k (.ref p) _ A2 _ ((e1.trans e2).trans sm) (a1.trans a2) (R2.to sm (List.prefix_refl _) (R2.rc.frozen np _)) (.lst upd_same ?_)
    have := ((Reps.pick h2 none none (some (-1))).mono e2).mono sm
    rw [pick_rev ds] at this
    exact this⟩
end
/-! ## t[::-1], t a tuple -/
end Dl
set_option Elab.async false
set_option linter.all false
set_option maxRecDepth 100000
set_option maxHeartbeats 4000000
set_option autoImplicit false
namespace Dl
open PySem PySem.Spec PyProof.Rows L2
/-! ## enumerate(t), t a tuple -/
abbrev enO (it : Addr) : Obj := { cls := .type "enumerate", data := .fields #[.none, .bool false, .ref it, rawInt 0, .none, .none] }
open AutoSeq1 (wpAny_loadPart') in
theorem meets_enT {v : Value} {o : Obj} {Hc : Heap → Prop} (B : PySem.Begins v o Hc) : Meets (Builtin.«enumerate.__new__» ⟨[.type "enumerate", v], []⟩) (fun _ R s => Hc s.heap ∧ R (.ok (.ret (.ref (s.heap.push o).objs.size))) { s with heap := (s.heap.push o).push (enO s.heap.objs.size) }) :=
  .of_wp fun prog w A R s h => by
    obtain ⟨hp, g, d, tk, os⟩ := s; obtain ⟨h1, h⟩ := h
    have hsub := sub_enumerate
    have q1 : ∀ {A' : Around} {E : Value → Shared → Prop} {Q : Value → Shared → Prop}, Q (.ref hp.objs.size) ⟨hp.push o, g, d, tk, os⟩ → wpAny (model prog w) A' (pyIter v) Q E ⟨hp, g, d, tk, os⟩ := fun q => B.iter prog w _ _ ⟨hp, g, d, tk, os⟩ _ h1 q
    wp_walk using q1
    refine wpAny_stack_any fun st => wpAny_pure ?_
    split
    · rename_i c _ _ _ _ _
      cases (c == Value.type "enumerate") <;> (wp_walk using q1; exact ⟨_, rfl, h⟩)
    · wp_walk using q1; exact ⟨_, rfl, h⟩
section
variable {prog : Program} {w : World} {A : Around} {E : Value → Shared → Prop} {s : Shared}
theorem call_enT {v : Value} {o : Obj} {Hc : Heap → Prop} {Q : Value → Shared → Prop} (B : PySem.Begins v o Hc) (h1 : Hc s.heap)
    (h : ∀ h', IsEnum h' (s.heap.objs.size + 1) s.heap.objs.size 0 .none → h'.get? s.heap.objs.size = some o → (∀ b ob, s.heap.get? b = some ob → h'.get? b = some ob) → Q (.ref (s.heap.objs.size + 1)) { s with heap := h' }) : wpAny (model prog w) A (call (.type "enumerate") [v]) Q E s := by
  refine callType_new F.called_enumerate (by decide) (F.typeCall_enumerate_1 _) (F.newCall_enumerate_1 _) (fun obj => F.args_object_init_2 obj _) F.entry_enumerate_new (meets_enT B) ⟨h1, ?_⟩
  have hz : (s.heap.push o).objs.size = s.heap.objs.size + 1 := Heap.size_push ..
  show _ ∧ _; rw [hz]
  have he : IsEnum ((s.heap.push o).push (enO s.heap.objs.size)) (s.heap.objs.size + 1) s.heap.objs.size 0 .none := by
    have := Heap.get?_push_size (s.heap.push o) (o := enO s.heap.objs.size) rfl
    rw [hz] at this; exact this
  exact ⟨⟨_, he, rfl⟩, h _ he (Heap.get?_push_of_some _ (Heap.get?_push_size _ B.free)) fun b ob x => Heap.get?_push_of_some _ (Heap.get?_push_of_some _ x)⟩
end
/-- the items of the tuple at a, each in a new pair behind its number -/
def ItuT (K : PySem.W.Frag) (a : Addr) : It :=
  ⟨fun i H => ∃ (xs : List V) (x : V), SqT K H a xs ∧ xs[i]? = some x, fun i H v H' => ∃ T x, v = .ref T ∧ H T = none ∧ H' = upd H T (.tup [.int (i : Nat), x]) ∧ ∀ xs, SqT K H a xs → xs[i]? = some x, fun i H => ∃ xs : List V, SqT K H a xs ∧ i = xs.length⟩
theorem turn_enT {P : Program} {w : World} {K : PySem.W.Frag} {elts : List Expr} {kk : Nat} {tpos : Pos} (a e it : Addr) (hae : e ≠ a) (hai : a ≠ it) (hei : e ≠ it) :
    Turn P w K (.Tuple elts kk tpos) (ItuT K a) [e, it] e (fun i h => (∃ old, IsEnum h e it ((i : Nat) : Int) old) ∧ h.IsTupleIter it a i) where
  mem := by simp
  obj := fun i h st b hb => by
    obtain ⟨⟨old, he⟩, o, ho, hc, hd⟩ := st
    have e' : b = e ∨ b = it := by simpa using hb
    rcases e' with z | z
    · rw [z]; exact ⟨_, he, fun v q => nomatch q⟩
    · rw [z]; exact ⟨o, ho, fun v q => by rw [hd] at q; cases q⟩
  keep := fun i h h' st k => let ⟨⟨old, he⟩, hi⟩ := st; ⟨⟨old, k e (by simp) _ he⟩, hi.at fun o q => k it (by simp) o q⟩
  item := by
    intro X hP hw hK hc i pins s σ H E I hf st hg
    subst hP hw hK
    obtain ⟨⟨old, he⟩, hit⟩ := st
    obtain ⟨xs, x, hq, hx⟩ := hg
    obtain ⟨its, rv, p, hz⟩ := I.tuple hq
    obtain ⟨u, hu, ru⟩ := rv.get hx
    have hel : e < s.heap.objs.size := Heap.lt_size he
    have hil : it < s.heap.objs.size := by obtain ⟨_, q, _⟩ := hit; exact Heap.lt_size q
    have hlt : i < its.toArray.size := by have := (List.getElem?_eq_some_iff.mp hu).1; simpa using this
    refine wpAny_pyNext_enum_itemD (Draws.tuple (A := X.A.in1) (I.ok.hd hc) it a hai its.toArray) he ⟨hit, p⟩ hlt hei (by simp only [List.mem_cons, List.not_mem_nil, or_false, not_or]; exact ⟨hei, hae⟩) fun y h' tk hy ho hst' hT hsz hk => ?_
    have ey : y = u := by
      have hy : its.toArray[i]? = some y := hy
      rw [List.getElem?_toArray, hu] at hy
      exact (Option.some.inj hy).symm
    subst ey
    refine ⟨_, rfl, wpAny_letOwnedTupleGo_enum (s := { s with heap := h', toks := tk + 1 }) ho fun h'' he' sb => ?_⟩
    have hT2 : h''.get? s.heap.objs.size = some { cls := .type "tuple", data := .seq #[.int i tk, y] } := (sb.2 _ (Nat.ne_of_gt hel)).trans hT
    have new : ObjOk X.prog X.w (upd H s.heap.objs.size (.tup [.int (i : Nat), x])) h'' s.heap.objs.size (.tup [.int (i : Nat), x]) := ⟨by show 2 ≤ sizeLine; decide, [.int i tk, y], .cons ⟨_, rfl⟩ (.cons ru .nil), ⟨_, hT2, rfl, _, rfl⟩⟩
    have I1 : Inv X pins σ (upd H s.heap.objs.size (.tup [.int (i : Nat), x])) { s with heap := h'', toks := tk + 1 } := I.turnedNew (ch := [e, it]) (fun b ob hb q => (sb.2 b (fun z => hb (by simp [z]))).trans (hk b ob (fun z => hb (by simp [z])) (fun z => hb (by simp [z])) q)) hf (Nat.le_refl _) new
    refine ⟨.ref s.heap.objs.size, _, I1, rfl, ⟨_, x, rfl, I.hok.fresh (Nat.le_refl _), rfl, fun ys hy => by rw [I.tuple_inj hy hq]; exact hx⟩, ⟨⟨y, ?_⟩, hst'.1.at fun o q => (sb.2 it (Ne.symm hei)).trans q⟩, fun b hb => ?_⟩
    · rw [show ((i + 1 : Nat) : Int) = (i : Int) + 1 by omega]; exact he'
    · have hb' : b < s.heap.objs.size := by
        rcases (show b = e ∨ b = it by simpa using hb) with z | z <;> rw [z] <;> assumption
      rw [upd_ne (Nat.ne_of_lt hb')]; exact (hf b hb).1
  done := by
    intro X hP hw hK hc i pins s σ H E I hf st hg
    subst hP hw hK
    obtain ⟨⟨old, he⟩, hit⟩ := st
    obtain ⟨xs, hq, hx⟩ := hg
    obtain ⟨its, rv, p, hz⟩ := I.tuple hq
    obtain ⟨f0, f1, f2, f3, f4, f5⟩ := hf it (by simp)
    have hl := rv.length
    have D := Draws.tuple (prog := X.prog) (w := X.w) (A := X.A.in1) (I.ok.hd hc) it a hai its.toArray
    have hi : i = its.toArray.size := by rw [List.size_toArray]; omega
    subst hi
    exact wpAny_pyNext_enum_endD D he ⟨hit, p⟩ fun h' eb => ⟨rfl, I.turned (t' := s.toks) (fun b o hb q => eb b o hb q) f0 f1 f3 f4 f5⟩
  self := fun A i s Q E st h => let ⟨⟨_, he⟩, _⟩ := st; wpAny_pyIter_enum he h
theorem pi_enT {X : Cx} {e : Expr} {ta : TA} {p pos tpos : Pos} {elts : List Expr} {kk : Nat} (hg : Gl X "enumerate") (hm : X.mg "enumerate" = none) (ha : PA X [e] ta) (hs : starEach [e] X.env = [(false, eval e X.env)] := by rfl) :
    PI X (.Tuple elts kk tpos) (.Call (.Name "enumerate" p) [e] [] pos) (fun σ H R => ta σ H fun vs H1 => ∃ a xs, vs = [.ref a] ∧ SqT X.K H1 a xs ∧ R (ItuT X.K a) H1) := by
  refine ⟨fun pins s σ H R I h => Call_ (ld_blt I hg hm boot_enumerate (PyProof.Rows.callWith_type1 (thn (ha.run pos pins s σ H _ I h) fun us s1 ⟨vs, H1, I1, r1, a, xs, ex, hq, q⟩ => ?_) hs rfl))⟩
  subst ex
  cases r1 with
  | cons r rr =>
    cases rr; cases r
    obtain ⟨its, rv, p', hz⟩ := I1.tuple hq
    have hal : a < s1.heap.objs.size := by obtain ⟨_, q, _⟩ := p'; exact Heap.lt_size q
    refine call_enT (begins_tuple a its.toArray) p' fun h' he hit hk => wpAny_pyIter_enum he ?_
    have I2 : Inv X pins σ H1 { s1 with heap := h' } := I1.kept (t' := s1.toks) hk
    refine ⟨s1.heap.objs.size + 1, [s1.heap.objs.size + 1, s1.heap.objs.size], _, _, H1, rfl, I2, turn_enT a (s1.heap.objs.size + 1) s1.heap.objs.size (Nat.ne_of_gt (Nat.lt_succ_of_lt hal)) (Nat.ne_of_lt hal) (Nat.succ_ne_self _), ⟨⟨.none, he⟩, _, hit, rfl, rfl⟩, fun b hb => ?_, q⟩
    have hle : s1.heap.objs.size ≤ b := by
      rcases (show b = s1.heap.objs.size + 1 ∨ b = s1.heap.objs.size by simpa using hb) with z | z <;> rw [z] <;> first | exact Nat.le_refl _ | exact Nat.le_add_right _ _
    exact I1.fpOk hle (I1.hok.fresh hle)
theorem yl_enT {K : PySem.W.Frag} {F : Hp} {a : Addr} {vs : List V} {ds : List D} (h : SqT K F a vs) (r : Reps K F vs ds) : Yl K (ItuT K a) F (enumD 0 ds) := by
  unfold Yl
  rw [enumD_len, ← r.length]
  refine ⟨fun i H hi e => ⟨vs, vs[i], same_sqT e h, by simp [hi]⟩, fun H e => ⟨vs, same_sqT e h, rfl⟩, fun i H x H' hi e ⟨T, u, h1, h2, h3, h4⟩ => ?_⟩
  obtain ⟨d, h6, h7⟩ := r.get' (h4 vs (same_sqT e h))
  refine ⟨_, enumD_at h6, .inr ⟨T, _, _, h1, h2, h3, rfl, .cons ?_ (.cons h7 .nil)⟩⟩
  rw [Nat.zero_add]
  exact .int _
section
variable {X : Cx} {N : En} {W : WX} {n : Nat} {δ : List (Option S)} {μ μ1 : List M} {e : Expr} {pos p tpos : Pos} {ds : List D} {elts : List Expr} {kk : Nat}
theorem di_enumT (g : Go X N W n) (ha : DA X N W δ μ [e] [.p (.tup ds)] μ1) (hm : X.mg "enumerate" = none) (hg : Gl X "enumerate" := by rfl) (hs : starEach [e] X.env = [(false, eval e X.env)] := by rfl) :
    DI X N W δ μ (.Tuple elts kk tpos) (.Call (.Name "enumerate" p) [e] [] pos) (enumD 0 ds) μ1 :=
  PI.imp (pi_enT hg hm ha hs) fun σ H Rk ⟨F, A, R, k⟩ => ⟨F, A, R, fun vs F1 A1 H1 e1 p1 R1 rv => by
    obtain ⟨v, rfl, r1⟩ := one_of rv
    have hK := g.hK
    rw [← hK]
    obtain ⟨a, ws, rfl, h1, h2⟩ := rep_tup (show Rep N.K F1 v (.tup ds) from r1)
    exact ⟨a, ws, rfl, same_sqT R1.rc.sub h1, k _ F1 A1 H1 e1 p1 R1 (yl_enT h1 h2)⟩⟩
end
end Dl
set_option Elab.async false
set_option linter.all false
set_option maxRecDepth 100000
set_option maxHeartbeats 4000000
set_option autoImplicit false
namespace Dl
open PySem PySem.Spec PyProof.Rows L2
/-! ## an int before an own object: the reflected method -/
end Dl
set_option Elab.async false
set_option linter.all false
set_option maxRecDepth 100000
set_option maxHeartbeats 4000000
set_option autoImplicit false
namespace Dl
open PySem PySem.Spec PyProof.Rows L2
end Dl
set_option Elab.async false
set_option linter.all false
set_option maxRecDepth 100000
set_option maxHeartbeats 4000000
set_option autoImplicit false
namespace Dl
open PySem PySem.Spec PyProof.Rows L2
/-! ## a def's promise where no guard stands around the call: for defs that write out containers -/
structure FnG (P : Program) (w : World) (K : PySem.W.Frag) (mg : Str → Option Value) (base : Heap) (CX : CXT) (k : Nat) (f : Addr) (fd : FuncData) (ps : List Str) (sp : Sp) : Prop where
  len : ∀ vs H Q E, sp vs H Q E → vs.length = ps.length
  go : ∀ (A : Around) (outer : List Env) (s : Shared) (H : Hp) (args : Args) (us : List Value) (vs : List V) (Q : VK) (E : XK), A.guards = some [] → Room k A → Env0 P w K mg base A outer s H → BindsTo s fd args (ps.zip us) → Vals vs us → sp vs H Q E →
    codeAny (model P w) A (.call (.ref f) args) (CR CX outer P w H s Q E) s
section
variable {P : Program} {w : World} {K : PySem.W.Frag} {mg : Str → Option Value} {base : Heap} {CX : CXT} {k j : Nat} {f : Addr} {fd : FuncData} {ps : List Str} {sp : Sp}
theorem FnG.of (F : FnOk P w K mg base CX k f fd ps sp) : FnG P w K mg base CX k f fd ps sp := ⟨F.len, fun A outer s H args us vs Q E _ => F.run A outer s H args us vs Q E⟩
end
/-- a def of the module by its name, called where no guard stands -/
structure Cg (P : Program) (w : World) (K : PySem.W.Frag) (mg : Str → Option Value) (base : Heap) (k : Nat) (x : Str) (dd : List D) (R : Rel) : Prop where
  ex : ∃ (f : Addr) (fd : FuncData) (ps : List Str) (ds : List Value) (dvs : List V), FnG P w K mg base (L2.CX P w) k f fd ps (spD K R) ∧ mg x = some (.ref f) ∧ PySem.W.keepIn K (.ref f) = true ∧ Binds K fd ps ds ∧ Vals dvs ds ∧ ∀ F, Reps K F dvs dd
theorem Cg.of {P : Program} {w : World} {K : PySem.W.Frag} {mg : Str → Option Value} {base : Heap} {k : Nat} {x : Str} {dd : List D} {R : Rel} (c : Cf P w K mg base k x dd R) : Cg P w K mg base k x dd R := by
  obtain ⟨f, fd, ps, ds, dvs, Fo, r⟩ := c.ex
  exact ⟨f, fd, ps, ds, dvs, .of Fo, r⟩
end Dl
set_option Elab.async false
set_option linter.all false
set_option maxRecDepth 100000
set_option maxHeartbeats 4000000
set_option autoImplicit false
namespace Dl
open PySem PySem.Spec PyProof.Rows L2
section
variable {X : Cx} {N : En} {W : WX} {n : Nat} {δ δ' δ1 δ2 : List (Option S)} {μ μ' μ1 μ2 μ3 : List M} {e a b c o : Expr} {es : List Expr} {ss : List S} {pos p apos : Pos} {d : D} {s s1 s2 : S} {r : Rx} {R : Rel} {k : Nat} {x m f : Str} {dd : List D} {C : Addr} {i : Int}
/-! ### // by any int but 0 -/
/-! ### math.gcd -/
/-! ### while, without break -/
inductive Wl (X : Cx) (N : En) (W : WX) (c : Expr) (body : List Stmt) : Nat → List (Option S) → List M → Os → Prop
  | stop {q : Nat} {u : List (Option S)} {v v1 : List M} : DT X N W u v c false v1 → Wl X N W c body q u v (.nx u v1)
  | turn {q : Nat} {u u1 : List (Option S)} {v v1 v2 : List M} {oo : Os} : DT X N W u v c true v1 → DSs X N W u v1 body (.nx u1 v2) → Wl X N W c body q u1 v2 oo → Wl X N W c body (q + 1) u v oo
theorem ds_while {body : List Stmt} {m : Nat} {o : Os} (g : Go X N W n) (h : Wl X N W c body m δ μ o) : DS X N W δ μ (.While c body [] pos) o := by
  have hc : PT X c (fun σ H Q => ∃ δt μt b μ1, DT X N W δt μt c b μ1 ∧ tDT N W δt μt b μ1 σ H Q) := ⟨fun p s σ H Q I ⟨δt, μt, b, μ1, hd, q⟩ => hd.run p s σ H Q I q⟩
  have hb : PSs X body (fun K σ H => ∃ δt μt o1, DSs X N W δt μt body o1 ∧ tDS N W δt μt o1 K σ H) := ⟨fun p s σ H K I ⟨δt, μt, o1, hd, q⟩ => hd.run p s σ H K I q⟩
  refine PS.imp (ps_while g.po hc hb) fun K σ H ⟨F, A, R, k⟩ => ?_
  refine ⟨fun m σ' H' => ∃ F' A' δ' μ', Same F F' ∧ A <+: A' ∧ Rl N F' A' H' σ' δ' μ' ∧ Wl X N W c body m δ' μ' o, ⟨m, F, A, δ, μ, Same.refl _, List.prefix_refl _, R, h⟩, ?_⟩
  rintro m σ' H' ⟨F', A', δ', μ', e', p', R', hL⟩
  have k' := k.to e' p'
  cases hL with
  | stop ht =>
    refine ⟨_, _, false, _, ht, F', A', R', fun F2 A2 H2 e2 p2 R2 => ?_⟩
    exact iteF (k' σ' F2 A2 H2 e2 p2 R2)
  | @turn m' _ δ1 _ μ1 μ2 _ ht hd hL =>
    refine ⟨_, _, true, _, ht, F', A', R', fun F2 A2 H2 e2 p2 R2 => ?_⟩
    refine iteT ⟨fun σ3 H3 => ∃ F3 A3, Same F F3 ∧ A <+: A3 ∧ Rl N F3 A3 H3 σ3 δ1 μ2, fun σ3 H3 ⟨F3, A3, a, b, c⟩ => ⟨m', Nat.lt_succ_self _, F3, A3, δ1, μ2, a, b, c, hL⟩, _, _, _, hd, F2, A2, R2, fun σ4 F4 A4 H4 e4 p4 R4 => ⟨F4, A4, (e'.trans e2).trans e4, (p'.trans p2).trans p4, R4⟩⟩
/-! ### int of a text -/
theorem c_intT {z : Str} {i : Int} (h : PySem.intText? z = some i) (hl : z.length ≤ 640) : CallOk X N W (.type "int") μ [.p (.str z)] (.v (.p (.int i))) μ :=
  ⟨_, call_int_str, fun σ δ F A H vs Q R rv k => by
    cases rv with
    | cons r1 rv =>
      cases rv
      cases rs_str r1
      exact ⟨z, i, rfl, h, hl, k.here R (.int _)⟩⟩
/-! ### f-texts -/
/-! ### repr(o), by an own __repr__ -/
end
end Dl
set_option Elab.async false
set_option linter.all false
set_option maxRecDepth 100000
set_option maxHeartbeats 4000000
set_option autoImplicit false
namespace Dl
open PySem PySem.Spec PyProof.Rows L2
/-! ## comprehensions of two fors, nothing that stood is changed -/
/-- the list that is built, at D0 -/
structure Sd (N : En) (μ : List M) (D0 : Addr) (acc : List D) (F : Hp) (A : List Addr) (H : Hp) : Prop where
  rc : Rc N F A H μ
  at_ : ∃ vs, H D0 = some (.lst vs) ∧ Reps N.K F vs acc
  f : F D0 = none
  a : D0 ∉ A
section
variable {N : En} {μ : List M} {D0 : Addr} {acc : List D} {F F' : Hp} {A A' : List Addr} {H H' : Hp} {d y : D} {x v : V}
theorem Sd.go (h : Sd N μ D0 acc F A H) (R : Rc ⟨N.K, H, F, A⟩ F' A' H' μ) (e : Same F F') : Sd N μ D0 acc F' A' H' := by
  obtain ⟨vs, h1, h2⟩ := h.at_
  have k4 : H' D0 = some (.lst vs) := R.keep D0 _ h1 h.a
  refine ⟨h.rc.back R, ⟨vs, k4, h2.mono e⟩, ?_, fun hm => ?_⟩
  · cases q : F' D0 with
    | none => rfl
    | some o =>
      rcases R.new D0 o q with ⟨o', z⟩ | z
      · have z' : F D0 = some o' := z
        rw [h.f] at z'; cases z'
      · have z' : H D0 = none := z
        rw [h1] at z'; cases z'
  · obtain ⟨B, eB, hB⟩ := R.pre
    rw [eB] at hm
    rcases List.mem_append.mp hm with z | z
    · exact h.a z
    · have z' : H D0 = none := hB _ z
      rw [h1] at z'; cases z'
theorem Sd.item (h : Sd N μ D0 acc F A H) (it : ItemAt N.K F H x H' d) : ∃ F', Same F F' ∧ Sd N μ D0 acc F' A H' ∧ Rep N.K F' x d := by
  rcases it with ⟨rfl, r⟩ | ⟨T, ws, es, rfl, nT, rfl, rfl, r⟩
  · exact ⟨F, Same.refl _, h, r⟩
  · obtain ⟨vs, h1, h2⟩ := h.at_
    have sm := same_updN (o := .tup ws) (h.rc.fresh nT).2.1
    refine ⟨_, sm, ⟨h.rc.frozen nT _, ⟨vs, ?_, h2.mono sm⟩, ?_, h.a⟩, .tup (SqT.of upd_same) (r.mono sm)⟩
    · rw [upd_ne (ne_of_none h1 nT)]; exact h1
    · rw [upd_ne (ne_of_none h1 nT)]; exact h.f
theorem Sd.snoc (h : Sd N μ D0 acc F A H) (h0 : N.H0 D0 = none) (r : Rep N.K F v y) : ∃ vs, H D0 = some (.lst vs) ∧ vs.length = acc.length ∧ Sd N μ D0 (acc ++ [y]) F A (upd H D0 (.lst (vs ++ [v]))) := by
  obtain ⟨vs, h1, h2⟩ := h.at_
  exact ⟨vs, h1, h2.length, h.rc.poke h.f h.a h0 _, ⟨_, upd_same, h2.snoc r⟩, h.f, h.a⟩
end
section
variable {X : Cx} {N : En} {W : WX} {n : Nat} {δ : List (Option S)} {μ : List M} {elt tg iter tg1 iter1 c : Expr} {pos : Pos} {ds : List D} {scope : Scope} {own : List (Str × Nat)} {vs1 : List Nat} {f f1 : As} {ix ix1 : List Nat}
/-- what is gone over inside -/
def tiB (X : Cx) (K : PySem.W.Frag) (n : Nat) (scope : Scope) (tg1 iter1 : Expr) : TI := fun σ H Rk => ∃ (N' : En) (F : Hp) (A : List Addr) (δt : List (Option S)) (μt : List M) (es : List D), N'.K = K ∧ Rl N' F A H σ δt μt ∧
  (∀ s H C cl fp N', N'.K = K → Go (blkX X scope s H C cl fp) N' W0 n → DI (blkX X scope s H C cl fp) N' W0 δt μt tg1 iter1 es μt) ∧ ∀ J F' A' H', Same F F' → A <+: A' → Rl N' F' A' H' σ δt μt → Yl K J F' es → Rk J H'
theorem pi_tiB (g : Go X N W n) {s : Shared} {H : Hp} {C : Addr} {cl : List (Str × Addr)} {fp : List Addr} : PI (blkX X scope s H C cl fp) tg1 iter1 (tiB X N.K n scope tg1 iter1) :=
  ⟨fun pins s σ H Q I ⟨N', F, A, δt, μt, es, hK, R, hd, k⟩ => (hd _ _ _ _ _ N' hK (g.blk hK)).run pins s σ H Q I ⟨F, A, R, fun J F' A' H' a b c d => k J F' A' H' a b c (by rw [← hK]; exact d)⟩⟩
def flat2 (b : D → Bool) (es : D → List D) (y : D → D → D) (l : List D) : List D := l.flatMap fun d => if b d = true then (es d).map (y d) else []
theorem lc2_go (b : D → Bool) (es : D → List D) (y : D → D → D) (hz : (flat2 b es y ds).length ≤ sizeLine) {J : It} {F1 : Hp} {A1 : List Addr} {H1 : Hp} {σ : L2.St} {tt : TT} {D0 : Addr} {Qd : Hp → Prop} (R1 : Rl N F1 A1 H1 σ δ μ) (yl : Yl N.K J F1 ds) (hD : H1 D0 = none)
    (hix : ∀ i ∈ ix, i ∈ own.map (·.2)) (hix1 : ∀ i ∈ ix1, i ∈ vs1)
    (hf : ∀ d ∈ ds, ∃ δt, f d (wipeD δ (own.map (·.2))) = some δt ∧
      (∀ N' F A σ2 H2 (Q : Bool → Hp → Prop), N'.K = N.K → Rl N' F A H2 σ2 δt μ → (∀ F' A' H', Same F F' → A <+: A' → Rl N' F' A' H' σ2 δt μ → Q (b d) H') → tt σ2 H2 Q) ∧
      (b d = true → (∀ s H C cl fp N', N'.K = N.K → Go (blkX X scope s H C cl fp) N' W0 n → DI (blkX X scope s H C cl fp) N' W0 δt μ tg1 iter1 (es d) μ) ∧
        ∀ e ∈ es d, ∃ δe, f1 e (wipeD δt vs1) = some δe ∧ DEB X N.K n scope elt δe μ (y d e) μ))
    (hq : ∀ F' A' H', Same F1 F' → A1 <+: A' → Sd N μ D0 (flat2 b es y ds) F' A' H' → Qd H') :
    ∃ Wt : Nat → Nat → Hp → Prop, (∃ m, Wt 0 m (upd H1 D0 (.lst []))) ∧ ∀ i m H, Wt i m H →
      (J.stop i H ∧ Qd H) ∨ (J.go i H ∧ ∃ Nx : Hp → Prop, (∀ H', Nx H' → ∃ m', m' < m ∧ Wt (i + 1) m' H') ∧ ∀ x H', J.yld i H x H' → tGd N f ix x (wipe σ (own.map (·.2))) H' fun σ2 H2 => wipe σ2 (own.map (·.2)) = wipe σ (own.map (·.2)) ∧ tt σ2 H2 fun b H3 =>
        if b = true then tiB X N.K n scope tg1 iter1 σ2 H3 fun J1 H4 => ∃ W1 : Nat → Nat → Hp → Prop, (∃ m, W1 0 m H4) ∧ ∀ j k H, W1 j k H →
          (J1.stop j H ∧ Nx H) ∨ (J1.go j H ∧ ∃ Nx1 : Hp → Prop, (∀ H', Nx1 H' → ∃ k', k' < k ∧ W1 (j + 1) k' H') ∧ ∀ x H', J1.yld j H x H' → tGd N f1 ix1 x (wipe σ2 vs1) H' fun σ3 H5 => wipe σ3 vs1 = wipe σ2 vs1 ∧ tYes σ3 H5 fun b H6 =>
            if b = true then teB X N.K n scope elt σ3 H6 fun y H7 => ∃ acc, H7 D0 = some (.lst acc) ∧ acc.length < sizeLine ∧ Nx1 (upd H7 D0 (.lst (acc ++ [y]))) else Nx1 H6)
        else Nx H3) := by
  have h0 := R1.rc.fresh hD
  have wp : ∀ (σ : L2.St) (vs : List Nat), wipe (wipe σ vs) vs = wipe σ vs := fun σ vs => by
    apply List.ext_getElem?
    intro j
    rw [wipe_get, wipe_get]
    by_cases hj : j ∈ vs
    · rw [if_pos hj, if_pos hj]; cases σ[j]? <;> rfl
    · rw [if_neg hj, if_neg hj]
  refine ⟨fun i m H => i ≤ ds.length ∧ m = ds.length - i ∧ ∃ F A acc, Same F1 F ∧ A1 <+: A ∧ Sd N μ D0 acc F A H ∧ acc ++ flat2 b es y (ds.drop i) = flat2 b es y ds,
    ⟨ds.length, Nat.zero_le _, by simp, F1, A1, [], Same.refl _, List.prefix_refl _, ⟨R1.rc.junk hD _, ⟨[], upd_same, .nil⟩, h0.2.1, h0.2.2⟩, by simp⟩, ?_⟩
  rintro i m H ⟨hi, rfl, F, A, acc, e, p, sd, hy⟩
  by_cases hlt : i < ds.length
  · refine .inr ⟨yl.goes i H hlt (e.trans sd.rc.sub), fun H' => ∃ F A acc, Same F1 F ∧ A1 <+: A ∧ Sd N μ D0 acc F A H' ∧ acc ++ flat2 b es y (ds.drop (i + 1)) = flat2 b es y ds,
      fun H' ⟨F, A, acc, a⟩ => ⟨ds.length - (i + 1), by omega, hlt, rfl, F, A, acc, a⟩, fun x H' hyd => ?_⟩
    obtain ⟨d, hd, it⟩ := (yl.mono e).yields i H x H' hlt sd.rc.sub hyd
    obtain ⟨F2, e2, sd2, rx⟩ := sd.item it
    have hdm : d ∈ ds := List.mem_of_getElem? hd
    obtain ⟨δt, hft, hC, hI⟩ := hf d hdm
    rw [List.drop_eq_getElem_cons hlt] at hy
    have hd' : ds[i] = d := by
      rw [List.getElem?_eq_getElem hlt] at hd
      exact Option.some.inj hd
    rw [hd'] at hy
    have hy2 : acc ++ ((if b d = true then (es d).map (y d) else []) ++ flat2 b es y (ds.drop (i + 1))) = flat2 b es y ds := by
      rw [← hy]
      unfold flat2
      rw [List.flatMap_cons]
    have Rw := (R1.to (e.trans e2) p sd2.rc).wiped (own.map (·.2))
    refine ⟨F2, A, _, μ, d, δt, Rw, rx, hft, fun σ2 w2 R3 => ⟨(wipe_sub hix w2).trans (wp _ _), ?_⟩⟩
    have R3' : Rl ⟨N.K, H', F2, A⟩ F2 A H' σ2 δt μ := ⟨R3.rc.entry, R3.len, R3.sl⟩
    refine hC ⟨N.K, H', F2, A⟩ F2 A σ2 H' _ rfl R3' fun F4 A4 H4 e4 p4 R4 => ?_
    have sd4 := sd2.go R4.rc e4
    have s4 : Same F1 F4 := (e.trans e2).trans e4
    have p4' : A1 <+: A4 := p.trans p4
    cases hb : b d with
    | false =>
      rw [hb, if_neg (by decide), List.nil_append] at hy2
      exact iteF ⟨F4, A4, acc, s4, p4', sd4, hy2⟩
    | true =>
      rw [hb, if_pos rfl] at hy2
      obtain ⟨hdi, hel⟩ := hI hb
      have R4' : Rl ⟨N.K, H4, F4, A4⟩ F4 A4 H4 σ2 δt μ := ⟨sd4.rc.entry, R4.len, R4.sl⟩
      refine iteT ⟨⟨N.K, H4, F4, A4⟩, F4, A4, δt, μ, es d, rfl, R4', hdi, fun J1 F5 A5 H5 e5 p5 R5 y5 => ?_⟩
      have sd5 := sd4.go R5.rc e5
      refine ⟨fun j k H => j ≤ (es d).length ∧ k = (es d).length - j ∧ ∃ F A acc, Same F5 F ∧ A5 <+: A ∧ Sd N μ D0 acc F A H ∧ acc ++ (((es d).drop j).map (y d) ++ flat2 b es y (ds.drop (i + 1))) = flat2 b es y ds,
        ⟨(es d).length, Nat.zero_le _, by simp, F5, A5, acc, Same.refl _, List.prefix_refl _, sd5, by rw [List.drop_zero]; exact hy2⟩, ?_⟩
      rintro j k H6 ⟨hj, rfl, F6, A6, acc6, e6, p6, sd6, hy6⟩
      by_cases hlj : j < (es d).length
      · refine .inr ⟨y5.goes j H6 hlj (e6.trans sd6.rc.sub), fun H' => ∃ F A acc, Same F5 F ∧ A5 <+: A ∧ Sd N μ D0 acc F A H' ∧ acc ++ (((es d).drop (j + 1)).map (y d) ++ flat2 b es y (ds.drop (i + 1))) = flat2 b es y ds,
          fun H' ⟨F, A, acc, a⟩ => ⟨(es d).length - (j + 1), by omega, hlj, rfl, F, A, acc, a⟩, fun x7 H7 hyd7 => ?_⟩
        obtain ⟨d7, hd7, it7⟩ := (y5.mono e6).yields j H6 x7 H7 hlj sd6.rc.sub hyd7
        obtain ⟨F7, e7, sd7, rx7⟩ := sd6.item it7
        obtain ⟨δe, hfe, hde⟩ := hel d7 (List.mem_of_getElem? hd7)
        rw [List.drop_eq_getElem_cons hlj] at hy6
        have hd7' : (es d)[j] = d7 := by
          rw [List.getElem?_eq_getElem hlj] at hd7
          exact Option.some.inj hd7
        rw [hd7', List.map_cons, List.cons_append] at hy6
        have R3n : Rl N F2 A H' σ2 δt μ := R3
        have s7 : Same F2 F7 := (e4.trans e5).trans (e6.trans e7)
        have p7 : A <+: A6 := (p4.trans p5).trans p6
        have Rn : Rl N F7 A6 H7 σ2 δt μ := R3n.to s7 p7 sd7.rc
        have Rw7 := Rn.wiped vs1
        refine ⟨F7, A6, _, μ, d7, δe, Rw7, rx7, hfe, fun σ3 w3 R8 => ⟨(wipe_sub hix1 w3).trans (wp _ _), ?_⟩⟩
        have R8' : Rl ⟨N.K, H7, F7, A6⟩ F7 A6 H7 σ3 δe μ := ⟨R8.rc.entry, R8.len, R8.sl⟩
        show teB X N.K n scope elt σ3 H7 _
        refine ⟨⟨N.K, H7, F7, A6⟩, F7, A6, δe, μ, y d d7, μ, rfl, R8', hde, fun v F9 A9 H9 e9 p9 R9 rv => ?_⟩
        have sd9 := sd7.go R9.rc e9
        obtain ⟨ws, hw1, hw2, sd10⟩ := sd9.snoc h0.1 rv
        refine ⟨ws, hw1, ?_, F9, A9, acc6 ++ [y d d7], (e6.trans e7).trans e9, p6.trans p9, sd10, ?_⟩
        · have := congrArg List.length hy6
          rw [List.length_append, List.length_cons] at this
          omega
        · rw [List.append_assoc]
          exact hy6
      · have hj' : j = (es d).length := by omega
        subst hj'
        refine .inl ⟨y5.stops H6 (e6.trans sd6.rc.sub), F6, A6, acc6, (s4.trans e5).trans e6, (p4'.trans p5).trans p6, sd6, ?_⟩
        rw [List.drop_length, List.map_nil, List.nil_append] at hy6
        exact hy6
  · have hi' : i = ds.length := by omega
    subst hi'
    refine .inl ⟨yl.stops H (e.trans sd.rc.sub), ?_⟩
    rw [List.drop_length] at hy
    have hy' : acc = flat2 b es y ds := by rw [← hy]; simp [flat2]
    subst hy'
    exact hq F A H e p sd
/-- [elt for tg in iter for tg1 in iter1] -/
theorem de_lc2 (es : D → List D) (y : D → D → D) (g : Go X N W n) (own : List (Str × Nat)) (vs1 : List Nat) (hi : DI X N W δ μ tg iter ds μ) (hg : ∀ s H C cl fp, DG (blkX X scope s H C cl fp) N tg f ix) (hg1 : ∀ s H C cl fp, DG (blkX X scope s H C cl fp) N tg1 f1 ix1)
    (hf : ∀ d ∈ ds, ∃ δt, f d (wipeD δ (own.map (·.2))) = some δt ∧
      (∀ s H C cl fp N', N'.K = N.K → Go (blkX X scope s H C cl fp) N' W0 n → DI (blkX X scope s H C cl fp) N' W0 δt μ tg1 iter1 (es d) μ) ∧
        ∀ e ∈ es d, ∃ δe, f1 e (wipeD δt vs1) = some δe ∧ DEB X N.K n scope elt δe μ (y d e) μ)
    (hz : (flat2 (fun _ => true) es y ds).length ≤ sizeLine)
    (ok : BlkOk X.N X.env.scope scope own := by exact blkOk_by (by decide +kernel)) (hv : ∀ i ∈ vs1, i ∈ own.map (·.2) := by decide) (hix : ∀ i ∈ ix, i ∈ own.map (·.2) := by decide) (hix1 : ∀ i ∈ ix1, i ∈ vs1 := by decide)
    (hs : ∀ x, foldedSetIterable iter X.env x = pure x := by intro _; rfl) (hs1 : ∀ env x, foldedSetIterable iter1 env x = pure x := by intro _ _; rfl) :
    DE X N W δ μ (.ListComp elt [⟨tg, iter, [], 0⟩, ⟨tg1, iter1, [], 0⟩] scope pos) (.v (.p (.lst (flat2 (fun _ => true) es y ds)))) μ :=
  PE.imp (pe_lc2 (own := own) (vs1 := vs1) g.calm g.nd hi ok hv hg (fun _ _ _ _ _ => pts_nil) (fun s H C cl fp => pi_tiB g) hg1 (fun _ _ _ _ _ => pts_nil) (fun s H C cl fp => pe_teB g) hs hs1) fun σ H Q ⟨F, A, R, k⟩ =>
    ⟨F, A, R, fun J F1 A1 H1 e1 p1 R1 yl D0 hD => lc2_go (fun _ => true) es y hz R1 yl hD hix hix1 (fun d hd => by
      obtain ⟨δt, h1, h2, h3⟩ := hf d hd
      exact ⟨δt, h1, fun N' F A σ2 H2 Q _ R k => k F A H2 (Same.refl _) (List.prefix_refl _) R, fun _ => ⟨h2, h3⟩⟩) fun F' A' H' e p sd => by
        obtain ⟨vs, q1, q2⟩ := sd.at_
        exact lc_frz (W := W) R k D0 F' A' H' vs (e1.trans e) (p1.trans p) sd.rc q1 sd.f sd.a (R1.rc.fresh hD).1 q2⟩
/-- [elt for tg in iter if c for tg1 in iter1] -/
theorem de_lc2If (b : D → Bool) (es : D → List D) (y : D → D → D) (g : Go X N W n) (own : List (Str × Nat)) (vs1 : List Nat) (hi : DI X N W δ μ tg iter ds μ) (hg : ∀ s H C cl fp, DG (blkX X scope s H C cl fp) N tg f ix) (hg1 : ∀ s H C cl fp, DG (blkX X scope s H C cl fp) N tg1 f1 ix1)
    (hf : ∀ d ∈ ds, ∃ δt, f d (wipeD δ (own.map (·.2))) = some δt ∧ DTB X N.K n scope c δt μ (b d) μ ∧ (b d = true →
      (∀ s H C cl fp N', N'.K = N.K → Go (blkX X scope s H C cl fp) N' W0 n → DI (blkX X scope s H C cl fp) N' W0 δt μ tg1 iter1 (es d) μ) ∧
        ∀ e ∈ es d, ∃ δe, f1 e (wipeD δt vs1) = some δe ∧ DEB X N.K n scope elt δe μ (y d e) μ))
    (hz : (flat2 b es y ds).length ≤ sizeLine)
    (ok : BlkOk X.N X.env.scope scope own := by exact blkOk_by (by decide +kernel)) (hv : ∀ i ∈ vs1, i ∈ own.map (·.2) := by decide) (hix : ∀ i ∈ ix, i ∈ own.map (·.2) := by decide) (hix1 : ∀ i ∈ ix1, i ∈ vs1 := by decide)
    (hs : ∀ x, foldedSetIterable iter X.env x = pure x := by intro _; rfl) (hs1 : ∀ env x, foldedSetIterable iter1 env x = pure x := by intro _ _; rfl) :
    DE X N W δ μ (.ListComp elt [⟨tg, iter, [c], 0⟩, ⟨tg1, iter1, [], 0⟩] scope pos) (.v (.p (.lst (flat2 b es y ds)))) μ :=
  PE.imp (pe_lc2 (own := own) (vs1 := vs1) g.calm g.nd hi ok hv hg (fun _ _ _ _ _ => pts_one (pt_ttB g)) (fun s H C cl fp => pi_tiB g) hg1 (fun _ _ _ _ _ => pts_nil) (fun s H C cl fp => pe_teB g) hs hs1) fun σ H Q ⟨F, A, R, k⟩ =>
    ⟨F, A, R, fun J F1 A1 H1 e1 p1 R1 yl D0 hD => lc2_go b es y hz R1 yl hD hix hix1 (fun d hd => by
      obtain ⟨δt, h1, h2, h3⟩ := hf d hd
      exact ⟨δt, h1, fun N' F A σ2 H2 Q hK R k => ⟨N', F, A, δt, μ, b d, μ, hK, R, h2, k⟩, h3⟩) fun F' A' H' e p sd => by
        obtain ⟨vs, q1, q2⟩ := sd.at_
        exact lc_frz (W := W) R k D0 F' A' H' vs (e1.trans e) (p1.trans p) sd.rc q1 sd.f sd.a (R1.rc.fresh hD).1 q2⟩
end
end Dl
set_option Elab.async false
set_option linter.all false
set_option maxRecDepth 100000
set_option maxHeartbeats 4000000
set_option autoImplicit false
namespace Dl
open PySem PySem.Spec PyProof.Rows L2
/-! ## len(set(xs)), xs a list of texts -/
abbrev newSet2 (w : World) : Obj := { cls := .type "set", dict := none, data := .set #[] 0 (.fresh 0 0 (!w.params.followText "set-order")) }
def addN (acc : List Str) (z : Str) : List Str := if z ∈ acc then acc else acc ++ [z]
/-- each once -/
def uniqN (zs : List Str) : List Str := zs.foldl addN []
theorem mem_addN {acc : List Str} {z k : Str} : k ∈ addN acc z ↔ k ∈ acc ∨ k = z := by
  unfold addN
  split
  · rename_i h
    exact ⟨.inl, fun q => q.elim id fun e => e ▸ h⟩
  · simp
theorem mem_uniqN (k : Str) (zs : List Str) : k ∈ uniqN zs ↔ k ∈ zs := by
  have go : ∀ (zs acc : List Str), k ∈ zs.foldl addN acc ↔ k ∈ acc ∨ k ∈ zs := by
    intro zs
    induction zs with
    | nil => intro acc; simp
    | cons z zs ih =>
      intro acc
      rw [List.foldl_cons, ih, mem_addN, List.mem_cons, or_assoc]
  exact (go zs []).trans (by simp)
theorem uniqN_snoc (zs : List Str) (z : Str) : (uniqN (zs ++ [z])).length = if z ∈ zs then (uniqN zs).length else (uniqN zs).length + 1 := by
  unfold uniqN
  rw [List.foldl_append]
  show (addN (uniqN zs) z).length = _
  unfold addN
  by_cases h : z ∈ zs
  · rw [if_pos h, if_pos ((mem_uniqN z zs).mpr h)]
    rfl
  · rw [if_neg h, if_neg fun q => h ((mem_uniqN z zs).mp q), List.length_append]
    rfl
theorem uniqN_le (zs : List Str) : (uniqN zs).length ≤ zs.length := by
  have go : ∀ (zs acc : List Str), (zs.foldl addN acc).length ≤ acc.length + zs.length := by
    intro zs
    induction zs with
    | nil => intro acc; simp
    | cons z zs ih =>
      intro acc
      rw [List.foldl_cons]
      refine Nat.le_trans (ih _) ?_
      have : (addN acc z).length ≤ acc.length + 1 := by unfold addN; split <;> simp
      rw [List.length_cons]
      omega
  have := go zs []
  rw [List.length_nil, Nat.zero_add] at this
  exact this
section
variable {P : Program} {w : World} {A : Around} {E : Value → Shared → Prop} {s : Shared}
theorem setS_at {h h' : Heap} {a : Addr} {S : Str → Bool} {n : Nat} (R : h.SetOf (strKind P w) a S n) (k : ∀ o, h.get? a = some o → h'.get? a = some o) : h'.SetOf (strKind P w) a S n := by
  obtain ⟨o, es, ep, t, ho, r⟩ := R
  exact ⟨o, es, ep, t, k o ho, r⟩
theorem setS_is {h : Heap} {a : Addr} {S S' : Str → Bool} {n n' : Nat} (R : h.SetOf (strKind P w) a S n) (e : ∀ k, S k = S' k) (en : n = n') : h.SetOf (strKind P w) a S' n' := by
  obtain rfl : S = S' := funext e
  subst en
  exact R
theorem setS_new {h : Heap} {a : Addr} (ho : h.get? a = some (newSet2 w)) : h.SetOf (strKind P w) a (fun j => decide (j ∈ ([] : List Str))) 0 :=
  ⟨_, #[], 0, _, ho, ⟨rfl, rfl, rfl⟩, rfl, fun e he => by simp at he, fun k => by simp, by decide, by rfl, rfl⟩
theorem upd_strs {I : Addr} {fp wr : List Addr} {G : Array GenState → Array GenState → Prop} {n : Nat} {Pv : Nat → Value → Prop} {St : Nat → Shared → Prop} {R : Result → Shared → Prop}
    (W : WalksS P w A.in1 I fp wr G n Pv St) (b0 : Addr) (off : b0 ∉ fp) (zs : List Str) (ln : n = zs.length) (few : zs.length + 1 < scanBound) (val : ∀ i v, Pv i v → ∃ z t, zs[i]? = some z ∧ v = .str z t) :
    ∀ (k i : Nat) (s : Shared), n - i = k → i ≤ n → St i s → s.heap.SetOf (strKind P w) b0 (fun j => decide (j ∈ zs.take i)) (uniqN (zs.take i)).length →
      (∀ s', Moved (b0 :: wr) G s s' → s'.heap.SetOf (strKind P w) b0 (fun j => decide (j ∈ zs)) (uniqN zs).length → R (.ok (.ret .none)) s') →
      codeAny (model P w) A (.builtin "set.update.loop" ⟨[.ref b0, .ref I], []⟩) R s := by
  have offW : b0 ∉ wr := fun q => off (W.sub _ q)
  have inW : ∀ b ∈ wr, b ∈ b0 :: wr := fun b q => List.mem_cons_of_mem _ q
  intro k
  induction k with
  | zero =>
    intro i s kn le st have_ last
    obtain rfl : i = n := by omega
    refine codeAny_builtin (F.entry_set_update_loop) ?_
    rw [Around.under_plainId (F.plain_set_update_loop) _]
    show wpAny (model P w) A.in1 (pyNext (.ref I) >>= _) _ _ s
    refine wpAny_bind (W.done s _ _ st fun s1 mv => ?_)
    show wpAny (model P w) A.in1 (ret Value.none) _ _ s1
    rw [List.take_of_length_le (by omega)] at have_
    exact wpAny_pure (last s1 (mv.mono inW) (setS_at have_ fun o q => mv.heap b0 o offW q))
  | succ k ih =>
    intro i s kn le st have_ last
    have lt : i < n := by omega
    refine codeAny_builtin (F.entry_set_update_loop) ?_
    rw [Around.under_plainId (F.plain_set_update_loop) _]
    show wpAny (model P w) A.in1 (pyNext (.ref I) >>= _) _ _ s
    refine wpAny_bind (W.item i s _ _ lt st fun v s1 pv st1 mv => ?_)
    obtain ⟨z, t, zi, rfl⟩ := val i v pv
    have now := setS_at have_ fun o q => mv.heap b0 o offW q
    show wpAny (model P w) A.in1 (holding [Value.str z t] (setAdd b0 (.str z t)) >>= _) _ _ s1
    refine wpAny_bind (wpAny_holding ?_)
    unfold setAdd
    refine wpAny_holding ?_
    have room : (uniqN (zs.take i)).length ≤ zs.length := Nat.le_trans (uniqN_le _) (by rw [List.length_take]; omega)
    refine wpAny_bind ((strKind P w).pyHash (k := z) (strKind_is _ _ _ _) ?_)
    refine wpAny_setAddHashed_of (s := { s1 with toks := s1.toks + 1 }) (strKind_is _ _ _ _) rfl now (by omega) fun h1 sb now1 => ?_
    have tk1 : zs.take (i + 1) = zs.take i ++ [z] := by rw [List.take_add_one, zi] <;> rfl
    have now2 := setS_is now1 (S' := fun j => decide (j ∈ zs.take (i + 1))) (n' := (uniqN (zs.take (i + 1))).length) (fun j => by rw [tk1]; simp [List.mem_append]) (by
      rw [tk1, uniqN_snoc]
      by_cases q : z ∈ zs.take i
      · simp [q]
      · simp [q])
    refine wpAny_pure ⟨plainId_quiet (F.plain_set_update_loop) _, ih (i + 1) _ (by omega) lt (W.frame _ s1 _ _ st1 (Nat.le_succ _) fun b hb o q => ?_) now2 fun s2 mv2 end_ => ?_⟩
    · rw [sb.2 b (fun e : b = b0 => off (e ▸ hb))]
      exact q
    · refine last s2 (Moved.trans W.gtrans ((mv.mono inW).then_heap (Nat.le_succ _) fun b o hb q => ?_) mv2) end_
      rw [sb.2 b (fun e : b = b0 => hb (e ▸ List.mem_cons_self))]
      exact q
theorem set_of_strs {l : Addr} {items : Array Value} (zs : List Str) {Q : Value → Shared → Prop} (calm : A.handled = none) (isl : s.heap.IsList l items) (isi : ∀ (i : Nat) (v : Value), items[i]? = some v → ∃ z t, zs[i]? = some z ∧ v = .str z t) (size : items.size = zs.length) (few : zs.length + 1 < scanBound)
    (k : ∀ (g : Heap) (tk : Nat), g.SetOf (strKind P w) s.heap.objs.size (fun j => decide (j ∈ zs)) (uniqN zs).length → (∀ b o, s.heap.get? b = some o → g.get? b = some o) → Q (.ref s.heap.objs.size) { s with heap := g, toks := tk }) :
    wpAny (model P w) A (call (.type "set") [.ref l]) Q E s := by
  obtain ⟨c0, tl0, mro0⟩ := F.called_set.mro
  have m1 := F.called_set.made
  have m2 := F.called_set.sub
  refine wpAny_call (codeAny_of_tree ?_)
  show wpAny _ _ (callAny (.type "set") _) _ _ _
  refine wpAny_pure ⟨Code.quiet_builtin _ (by decide +kernel), codeAny_builtin F.entry_type_call ?_⟩
  rw [Around.under_plain (weight_type_call_type "set" [.ref l] []) rfl]
  have m3 := F.called_set.notType
  have m4 := F.called_set.canCreate
  have m5 := F.typeCall_set_1 (.ref l)
  repeat any_goals first | wp_step | assumption
  refine codeAny_mono (code_set_led1 (.ref l) (E := E) (Q₁ := fun ob t => ob = .ref s.heap.objs.size ∧ t = { s with heap := s.heap.push (newSet2 w) }) ⟨rfl, rfl⟩) fun r t hr => ?_
  cases r with
  | error e => exact hr
  | ok fl =>
    cases fl with
    | next => exact hr.elim
    | brk => exact hr.elim
    | cont => exact hr.elim
    | ret ob =>
      obtain ⟨rfl, rfl⟩ := hr
      have atS : (s.heap.push (newSet2 w)).get? s.heap.objs.size = some (newSet2 w) := Heap.get?_push_size _ rfl
      have tyS : Shared.TypeIs { s with heap := s.heap.push (newSet2 w) } (.ref s.heap.objs.size) "set" := ⟨_, atS, rfl⟩
      have i1 := F.called_set.init.lookup
      have i2 := F.called_set.init.bind (.ref s.heap.objs.size)
      repeat any_goals first | wp_step | assumption
      refine codeAny_mono (codeAny_call_builtin (R := wants (fun v t => v = .none ∧ ∃ g tk, t = { s with heap := g, toks := tk } ∧ g.SetOf (strKind P w) s.heap.objs.size (fun j => decide (j ∈ zs)) (uniqN zs).length ∧ (∀ b o, s.heap.get? b = some o → g.get? b = some o)) E)
        F.called_set.init.plain F.entry_set_init (check_set_init_1 tyS ?_)) fun r2 t2 hr2 => ?_
      · obtain ⟨⟨oc, od, oda, osl⟩, holo, hcl, nl, hdl⟩ := isl
        simp only at hcl hdl
        subst hcl hdl
        have atL : (s.heap.push (newSet2 w)).get? l = some { cls := .type "list", dict := od, data := .seq items nl, slots := osl } := Heap.get?_push_of_some _ holo
        have lst : (s.heap.push (newSet2 w)).IsList l items := ⟨_, atL, rfl, nl, rfl⟩
        have n1 := F.sub_list_set
        have n2 := F.sub_list_frozenset
        have n3 : (Value.type "list" == Value.type "dict") = false := by decide
        unfold Builtin.«set.__init__» noKeywords Builtin.Frozenset.updateFrom
        generalize hit : pyIter = IT
        wp_walk
        subst hit
        refine wpAny_pyIter_list lst (wpAny_bind (wpAny_runValue ?_))
        have big : l < s.heap.objs.size := Heap.lt_size holo
        have calm3 : A.in1.in1.in1.handled = none := by simp [calm]
        have offI : l ≠ (s.heap.push (newSet2 w)).objs.size := by
          rw [Heap.size_push]
          exact Nat.ne_of_lt (Nat.lt_succ_of_lt big)
        have offS : s.heap.objs.size ∉ [(s.heap.push (newSet2 w)).objs.size, l] := by
          rw [Heap.size_push]
          simp only [List.mem_cons, List.not_mem_nil, or_false, not_or]
          exact ⟨Nat.ne_of_lt (Nat.lt_succ_self _), (Nat.ne_of_lt big).symm⟩
        refine upd_strs ((Walks.list calm3 _ l offI items).toS) s.heap.objs.size offS zs size few isi (items.size - 0) 0 _ (by omega) (Nat.zero_le _) ⟨⟨_, Heap.get?_push_size _ rfl, rfl, rfl⟩, lst.push _⟩ ?_ ?_
        · exact setS_new (Heap.get?_push_of_some _ atS)
        · intro t3 mv R3
          obtain ⟨g3, gn, dr, tk, os⟩ := t3
          have e1 : gn = s.gens := mv.gens
          have e2 : dr = s.drawn := mv.drawn
          have e3 : os = s.os := mv.os
          subst e1 e2 e3
          show wpAny _ _ _ _ _ _
          refine wpAny_pure ?_
          show wpAny _ _ (ret Value.none) _ _ _
          refine wpAny_pure ⟨rfl, g3, tk, rfl, R3, fun b o e => ?_⟩
          have lt : b < s.heap.objs.size := Heap.lt_size e
          refine mv.heap b o ?_ (Heap.get?_push_of_some _ (Heap.get?_push_of_some _ e))
          simp only [List.mem_cons, List.not_mem_nil, or_false, not_or, Heap.size_push]
          exact ⟨Nat.ne_of_lt lt, Nat.ne_of_lt (Nat.lt_succ_of_lt lt)⟩
      · cases r2 with
        | error e => exact hr2
        | ok fl2 =>
          cases fl2 with
          | next => exact hr2.elim
          | brk => exact hr2.elim
          | cont => exact hr2.elim
          | ret v =>
            obtain ⟨rfl, g, tk, rfl, R, kp⟩ := hr2
            repeat any_goals first | wp_step | assumption
            exact k _ _ R kp
end
end Dl
set_option Elab.async false
set_option linter.all false
set_option maxRecDepth 100000
set_option maxHeartbeats 4000000
set_option autoImplicit false
namespace Dl
open PySem PySem.Spec PyProof.Rows L2
def SetSO (P : Program) (w : World) (a : Addr) (S : Str → Bool) (n : Nat) : HO := .ext fun h => h.SetOf (strKind P w) a S n
section
variable {X : Cx} {N : En} {W : WX} {n : Nat} {δ : List (Option S)} {μ μ1 : List M} {e : Expr} {p1 p2 pos pos2 : Pos}
theorem strs_val : ∀ {zs : List Str} {us : List Value}, Vals (zs.map V.str) us → ∀ (i : Nat) (v : Value), us[i]? = some v → ∃ z t, zs[i]? = some z ∧ v = .str z t
  | [], _, r, i, v, h => by cases r; simp at h
  | z :: zs, _, r, i, v, h => by
    cases r with
    | cons r1 r2 =>
      cases i with
      | zero =>
        obtain ⟨t, rfl⟩ := r1
        have : v = .str z t := by simpa using h.symm
        exact ⟨z, t, rfl, this⟩
      | succ i => exact strs_val r2 i v (by simpa using h)
theorem cr_setS (hc : X.calm = true) : CallR X (.type "set") (fun xs H Q => ∃ (p : Addr) (zs : List Str), xs = [.ref p] ∧ SqL X.K H p (zs.map V.str) ∧ zs.length ≤ 1000 ∧ ∀ (a : Addr), H a = none → Q (.ref a) (upd H a (SetSO X.prog X.w a (fun j => decide (j ∈ zs)) (uniqN zs).length))) := by
  intro pins s σ H xs us Q I r ⟨p, zs, ex, hs, few, k⟩
  subst ex
  rw [Vals.ref1 r]
  obtain ⟨its, rv, ⟨⟨ocls, odd, oda, osl⟩, m, ho, hcl, hdn, hda⟩, hlen⟩ := I.list hs
  simp only at hcl hda
  have isl : s.heap.IsList p its.toArray := ⟨_, ho, hcl, m, hda⟩
  have sz : its.toArray.size = zs.length := by
    have := rv.length
    rw [List.length_map] at this
    rw [List.size_toArray, this]
  refine set_of_strs zs (I.ok.hd hc) isl (fun i v h => strs_val rv i v (by simpa using h)) sz (by unfold scanBound; omega) fun g tk R kp => ?_
  have nn : H s.heap.objs.size = none := I.hok.fresh (Nat.le_refl _)
  exact ⟨.ref s.heap.objs.size, _, I.laid kp (Nat.le_refl _) (show ObjOk X.prog X.w _ _ _ (SetSO X.prog X.w _ _ _) from ⟨R, R.elim fun o q => q.elim fun _ q => q.elim fun _ q => q.elim fun _ q => ⟨o, q.1⟩, fun h1 h2 p k => setS_at p k⟩), rfl, k _ nn⟩
theorem cr_lenS : CallR X (.builtin "len") (fun xs H Q => ∃ (a : Addr) (S : Str → Bool) (m : Nat), xs = [.ref a] ∧ H a = some (SetSO X.prog X.w a S m) ∧ Q (.int (m : Int)) H) := by
  intro pins s σ H xs us Q I r ⟨a, S, m, ex, hs, k⟩
  subst ex
  rw [Vals.ref1 r]
  have R : s.heap.SetOf (strKind X.prog X.w) a S m := (I.hok a _ hs).1
  obtain ⟨o, es, ep, t, ho, hex, hd, hel, hmem, hb, hf, hn⟩ := R
  subst hn
  have hb' : es.size < 2 ^ 62 := Nat.lt_of_lt_of_le hb (by unfold scanBound; decide)
  exact call_len_set ho hex hd hf (by omega) ⟨.int (es.size : Int), H, I.tok _, ⟨_, rfl⟩, k⟩
/-- len(set(e)), e a list of texts -/
theorem de_lenSet {zs : List Str} (g : Go X N W n) (h : DE X N W δ μ e (.v (.p (.lst (zs.map D.str)))) μ1) (few : zs.length ≤ 1000) (hm : X.mg "len" = none) (hm2 : X.mg "set" = none) (hg : Gl X "len" := by rfl) (hg2 : Gl X "set" := by rfl)
    (h1 : starEach [e] X.env = (false, eval e X.env) :: starEach [] X.env := by rfl) (h2 : starEach [.Call (.Name "set" p2) [e] [] pos2] X.env = (false, eval (.Call (.Name "set" p2) [e] [] pos2) X.env) :: starEach [] X.env := by rfl) :
    DE X N W δ μ (.Call (.Name "len" p1) [.Call (.Name "set" p2) [e] [] pos2] [] pos) (.v (.p (.int ((uniqN zs).length : Nat)))) μ1 :=
  PE.imp (pe_callB cr_lenS hg hm (by decide +kernel) (pa_cons (pe_callTy (cr_setS g.calm) hg2 hm2 (by decide +kernel) (pa_cons h pa_nil h1) (by decide) (by decide) h1 (by rfl)) pa_nil h2) (by decide) (by decide) h2 (by rfl)) fun σ H Q ⟨F, A, R0, k⟩ => ⟨F, A, R0, fun v F1 A1 H1 e1 p1 R1 rv => by
    obtain ⟨a, ws, rfl, q1, q2⟩ := rep_lst (show Rep N.K F1 v (.lst (zs.map D.str)) from rv)
    have q3 := strs_vals q2
    subst q3
    refine ⟨a, zs, rfl, SqL.of (R1.rc.sub _ _ q1), few, fun b nb => ?_⟩
    refine ⟨b, _, _, rfl, upd_same, ?_⟩
    exact k _ _ A1 _ e1 p1 (R1.to (Same.refl _) (List.prefix_refl _) (R1.rc.junk nb _)) (.int _)⟩
end
end Dl
set_option Elab.async false
set_option linter.all false
set_option maxRecDepth 100000
set_option maxHeartbeats 4000000
set_option autoImplicit false
namespace Dl
open PySem PySem.Spec PyProof.Rows L2
/-! ## lambdas that are handed to defs, and from these to others -/
/-- from this state on the function at fl may be called -/
def Call0 (P : Program) (w : World) (K : PySem.W.Frag) (mg : Str → Option Value) (base : Heap) (j : Nat) (fl : Addr) (tl : XK → Hp → VK → Prop) (outer : List Env) (s : Shared) (H : Hp) : Prop :=
  ∀ (A : Around) (outer' : List Env) (s1 : Shared) (H1 : Hp) (E : XK) (Q : VK), Room j A → Env0 P w K mg base A outer' s1 H1 → Un (frs outer) [] H H1 s.heap s1.heap → tl E H1 Q →
    PySem.W.FnAt fl s1.heap ∧ codeAny (model P w) A (.call (.ref fl) ⟨[], []⟩) (CR (L2.CX P w) outer' P w H1 s1 Q E) s1
section
variable {X Z : Cx} {pins : List (Addr × Obj)} {σ : L2.St} {H : Hp} {s : Shared}
/-- the lambda's own -/
theorem lam_call0 {f c' : Addr} {pm ctv : Value} {params : Arguments} {body : Expr} {scope : Scope} {k : Nat} {t : XK → TE}
    (I : Inv X pins σ H s) (L : LamX.LamS X.env.scope scope) (at_ : s.heap.get? f = some (lamO X params body scope pm c' ctv)) (hfn : H f = none) (hfr : f ∉ frs X.stack)
    (hbind : bindArgs (PySem.W.kla_fn "<lambda>" (lamQ X) params body scope (cloFrom X.env.cells scope.names []) pm (.ref c') ctv) ⟨[], []⟩ = pure [])
    (hbody : ∀ (E : XK) (A : Around) (outer : List Env) (s : Shared) (H : Hp), Room k (A.deeper (LamX.lamEnv X scope s.heap.objs.size f c')) → PE (LamX.lamCx X A outer s H E scope f c') body (t E)) :
    Call0 X.prog X.w X.K X.mg X.base (k + 1) f (fun E HZ Q => HZ c' = some (LamX.CodeO c' (lamQ X)) ∧ t E σ HZ Q) X.stack s H := by
  intro A outer' s1 H1 E Q hr e0 un ⟨code, want⟩
  have at1 : s1.heap.get? f = some (lamO X params body scope pm c' ctv) := un.keep f _ at_ hfn hfr (by intro z; cases (show f ∈ ([] : List Addr) from z))
  refine ⟨⟨_, _, _, _, at1⟩, ?_⟩
  obtain ⟨⟨oc, vs, tq, oAt, oD, oV⟩, _⟩ := e0.hok c' _ code
  have lim : s1.heap.NoLimit := e0.mod.nolimit.keeps fun b o e => (e0.bs b o e).1
  refine PySem.W.kla_callFunE hr.depth at1 rfl L.co L.gen rfl ⟨c', oc, vs, tq, rfl, oAt, oD, oV⟩ ?_
  rw [hbind]
  refine wpAny_pure (wpAny_newFunctionEnv (fun y hy => (L.own y hy).2) (fun y hy => by cases hy) (fun g1 ns sb => ⟨lim.fresh _ sb, ?_⟩) L.kind)
  have kp : ∀ b o, s1.heap.get? b = some o → g1.get? b = some o := fun b o e => sb.extBut b o (Nat.ne_of_lt (Heap.lt_size e)) (Heap.get?_push_of_some _ e)
  show codeAny _ _ (.expr body (LamX.lamEnv X scope s1.heap.objs.size f c')) _ _
  have J := LamX.lam_start2 (A := A) (outer := outer') (E := E) (f := f) (c' := c') (tk := s1.toks + ([] : List (Str × Value)).length) I L e0 hr.hd un ns kp
  refine PySem.W.kla_codeExpr (wpAny_mono ((hbody E _ _ s1 H1 (hr.deeper _)).run [] _ _ H1 Q J want) (fun v s' ⟨x, H', J', rv, q⟩ => ?_) fun _ _ z => z)
  exact ⟨x, H', J'.os, J'.bare, J'.base, J'.hok, rv, q⟩
/-- it is called there by its name -/
theorem pe_callV {i j : Nat} {fl : Addr} {a : Str} {W : WX} {tl : XK → Hp → VK → Prop} {p1 p2 : Pos} (tk : Takes Z W) (c : Call0 Z.prog Z.w Z.K Z.mg Z.base j fl tl Z.outer Z.s_0 Z.H_0) (hex : Z.ex = []) (hr : Room j Z.A)
    (hN : Z.N[i]? = some a) (hv : Vis Z.env.scope a) (hd : (a == ("__debug__" : Str)) = false := by decide) (hcd : (a == ("__classdict__" : Str)) = false := by decide) :
    PE Z (.Call (.Name a p1) [] [] p2) (fun σ H Q => σ[i]? = some (some (.ref fl)) ∧ tl (WE W σ) H Q) := by
  refine ⟨fun pinsZ sZ σZ HZ Q IZ ⟨slot, want⟩ => wpAny_Call_Name_kw (thn ((pe_var (pos := p1) (i := i) hN hv hd hcd).run pinsZ sZ σZ HZ (fun v H1 => v = .ref fl ∧ H1 = HZ) IZ ⟨.ref fl, slot, rfl, rfl⟩) fun u s1 ⟨v, H1, I1, r1, e1, e2⟩ => ?_)⟩
  subst e1 e2
  obtain rfl : u = Value.ref fl := r1
  have b := I1.base
  rw [hex] at b
  obtain ⟨fa, run⟩ := c Z.A Z.stack s1 H1 (WE W σZ) Q hr I1.env0 b want
  refine PySem.W.callWith_F0 fa ?_
  refine wpAny_call (codeAny_mono run fun r s' hq => ?_)
  cases r with
  | error e => exact passAt tk σZ pinsZ H1 s1 e s' I1 hq
  | ok fl =>
    cases fl with
    | ret u => exact I1.after hq
    | next => exact hq.elim
    | brk => exact hq.elim
    | cont => exact hq.elim
end
/-! ### in terms of data -/
/-- what a call of it does: from which changing things to what, and to which -/
abbrev Lr := List M → Rx → List M → Prop
def EndL (N' : En) (F : Hp) (A : List Addr) (μ' : List M) (E : XK) (Q : VK) : Rx → Prop
  | .v s => ∀ v F' A' H', Same F F' → A <+: A' → Rc N' F' A' H' μ' → RepS N'.K F' A' v s → Q v H'
  | .x C d => ∀ dx v F' A' H', Same F F' → A <+: A' → Rc N' F' A' H' μ' → F' dx = some (.xd [("value", v)]) → Rep N'.K F' v d → E (.ref C) (some dx) H'
def tlD (K : PySem.W.Frag) (F0 : Hp) (A0 : List Addr) (μ : List M) (r : Rx) (μ' : List M) : XK → Hp → VK → Prop := fun E H Q => ∃ (N' : En) (F : Hp) (A : List Addr), N'.K = K ∧ Same F0 F ∧ A0 <+: A ∧ Rc N' F A H μ ∧ EndL N' F A μ' E Q r
theorem EndL.imp {N' : En} {F : Hp} {A : List Addr} {μ' : List M} {E E' : XK} {Q Q' : VK} : ∀ {r : Rx}, EndL N' F A μ' E Q r → (∀ c d h, E c d h → E' c d h) → (∀ v h, Q v h → Q' v h) → EndL N' F A μ' E' Q' r
  | .v _, k, _, h2 => fun v F' A' H' e p R rv => h2 _ _ (k v F' A' H' e p R rv)
  | .x _ _, k, h1, _ => fun dx v F' A' H' e p R a b => h1 _ _ _ (k dx v F' A' H' e p R a b)
theorem tlD_mono {K : PySem.W.Frag} {F0 : Hp} {A0 : List Addr} {μ μ' : List M} {r : Rx} (E E' : XK) (H : Hp) (Q Q' : VK) (h1 : ∀ c d h, E c d h → E' c d h) (h2 : ∀ v h, Q v h → Q' v h) : tlD K F0 A0 μ r μ' E H Q → tlD K F0 A0 μ r μ' E' H Q' :=
  fun ⟨N', F, A, a, b, c, d, k⟩ => ⟨N', F, A, a, b, c, d, k.imp h1 h2⟩
def CallL (P : Program) (w : World) (K : PySem.W.Frag) (mg : Str → Option Value) (base : Heap) (j : Nat) (fl : Addr) (L : Lr) (F0 : Hp) (A0 : List Addr) (outer : List Env) (s : Shared) (H : Hp) : Prop :=
  ∀ μ r μ', L μ r μ' → Call0 P w K mg base j fl (tlD K F0 A0 μ r μ') outer s H
/-- a def whose first parameter is handed a function; where no guard stands, if b -/
structure FnL (P : Program) (w : World) (K : PySem.W.Frag) (mg : Str → Option Value) (base : Heap) (b : Bool) (k j : Nat) (f : Addr) (fd : FuncData) (ps : List Str) (RL : Lr → Rel) : Prop where
  len : ∀ L ss μ r μ', RL L ss μ r μ' → ss.length + 1 = ps.length
  go : ∀ (L : Lr) (A : Around) (outer : List Env) (s : Shared) (H : Hp) (args : Args) (us : List Value) (vs : List V) (Q : VK) (E : XK) (fl : Addr) (F : Hp) (A0 : List Addr) (ss : List S) (μ : List M) (r : Rx) (μ' : List M),
    (b = true → A.guards = some []) → Room k A → Env0 P w K mg base A outer s H → BindsTo s fd args (ps.zip (.ref fl :: us)) → Vals vs us → RL L ss μ r μ' → Rc ⟨K, H, F, A0⟩ F A0 H μ → RepSs K F A0 vs ss → CallL P w K mg base j fl L F A0 outer s H → EndL ⟨K, H, F, A0⟩ F A0 μ' E Q r →
    codeAny (model P w) A (.call (.ref f) args) (CR (L2.CX P w) outer P w H s Q E) s
structure Cl (P : Program) (w : World) (K : PySem.W.Frag) (mg : Str → Option Value) (base : Heap) (b : Bool) (k j : Nat) (x : Str) (RL : Lr → Rel) : Prop where
  ex : ∃ (f : Addr) (fd : FuncData) (ps : List Str), FnL P w K mg base b k j f fd ps RL ∧ mg x = some (.ref f) ∧ PySem.W.keepIn K (.ref f) = true ∧ Binds K fd ps []
section
variable {X Z : Cx} {N : En} {W : WX} {n k j : Nat} {δ : List (Option S)} {μ μ1 μ2 μ' : List M} {e : Expr} {es : List Expr} {ss : List S} {r r0 : Rx} {x a : Str} {p p1 p2 pos : Pos} {b : Bool} {L : Lr} {fl : Addr} {RL : Lr → Rel}
theorem end_of {σ : L2.St} {F : Hp} {A : List Addr} {H : Hp} {Q : VK} (R : Rl N F A H σ δ μ) (k0 : EndE N W σ δ F A μ' Q r) : EndL ⟨N.K, H, F, A⟩ F A μ' (WE W σ) Q r := by
  cases r with
  | v s => exact fun v F' A' H' e p R' rv => k0 v F' A' H' e p (R.to e p (R.rc.back R')) rv
  | x C d => exact fun dx v F' A' H' e p R' h1 h2 => k0 dx v F' A' H' e p (R.to e p (R.rc.back R')) h1 h2
/-- a def that is handed a lambda, and data behind it -/
theorem de_handL {c P : Addr} {jt : Nat} {params : Arguments} {bdy : Expr} {scope : Scope} {lpos : Pos} (g : Go X N W n) (gd : b = true → X.A.guards = some []) (hT : μ[jt]? = some (.tab P (lamQ X))) (TB : LamX.TabB X.base X.mg c P) (hcode : X.env.code = .ref c)
    (cl : Cl X.prog X.w X.K X.mg X.base b k (j + 1) x RL)
    (body : ∀ E A outer s H f c', ∀ N' : En, N'.K = N.K → Go (LamX.lamCx X A outer s H E scope f c') N' (fun cls d _ H => E cls d H) j → ∀ μ3 r3 μ4, L μ3 r3 μ4 → DE (LamX.lamCx X A outer s H E scope f c') N' (fun cls d _ H => E cls d H) δ μ3 bdy r3 μ4)
    (ha : DA X N W δ μ es ss μ1) (hR : RL L ss μ1 r μ2)
    (S : LamX.LamS X.env.scope scope := by exact LamX.lamS_by (by rfl)) (hk : k ≤ n := by decide) (hg : Gl X x := by rfl) (hdef : defaultsOf params X.env = ([], []) := by rfl)
    (hbind : ∀ (q : Str) (cl : List (Str × Addr)) (pm cv ctv : Value), bindArgs (PySem.W.kla_fn "<lambda>" q params bdy scope cl pm cv ctv) ⟨[], []⟩ = pure [] := by intros; rfl)
    (hdb : (x == ("__debug__" : Str)) = false := by decide) (he : starEach (.Lambda params bdy scope lpos :: es) X.env = (false, eval (.Lambda params bdy scope lpos) X.env) :: starEach es X.env := by rfl) (hpl : (backTo pos (starEach es X.env)).any (·.1) = false := by rfl) :
    DE X N W δ μ (.Call (.Name x p) (.Lambda params bdy scope lpos :: es) [] pos) r μ2 := by
  obtain ⟨f, fd, ps, Fo, hm, hkp, hb⟩ := cl.ex
  refine ⟨fun pins s σ H Q I ⟨F, A, R0, q⟩ => ?_⟩
  refine wpAny_Call_Name_kw (ld_glob I hg hm ?_ hdb)
  obtain ⟨aP, hA, e1, pst, tabAt, tri, known⟩ := R0.rc.at' hT
  subst e1
  refine PySem.W.callWith_K (h₀ := X.base) I.ok.mod.kin hkp ?_ he hpl
  rw [he]
  show wpAny _ _ (spliced ((false, eval (.Lambda params bdy scope lpos) X.env) :: backTo pos (starEach es X.env))) _ _ s
  refine Calls.spliced_cons (lam_made I TB hcode tabAt tri (fun p v h => by
    obtain ⟨b, e, hb⟩ := known p v h
    exact ⟨b, e, R0.rc.sub _ _ hb⟩) hdef (S.has I.ok) fun lf c' pm' ctv H1 s1 I1 l1 hf hfn hfr hco => ?_)
  obtain ⟨F1, sm, rc1, hF⟩ := rc_lam R0.rc hA hT tabAt tri known l1
  have R1 : Rl N F1 A H1 σ δ μ := R0.to sm (List.prefix_refl _) rc1
  have hfs : lf ∉ X.fs := fun z => hfr (by
    rcases I1.ok.stk with e | ⟨e, _⟩
    · rw [e]; exact z
    · rw [e]
      show lf ∈ frs (X.env :: X.outer)
      unfold frs
      rw [List.filterMap_cons]
      split
      · exact z
      · exact List.mem_cons_of_mem _ z)
  have hloc : lf ≠ X.env.locals := fun z => by
    obtain ⟨m, ⟨o, es', ep, e, d, _⟩, _⟩ := I1.loc
    rw [← z, hf] at e
    cases e
    cases d
  have Ip : Inv X ((lf, lamO X params bdy scope pm' c' ctv) :: pins) σ H1 s1 := I1.pins_of fun p hp => by
    rcases List.mem_cons.mp hp with rfl | hp
    · exact ⟨hf, hfn, hloc, hfs, fun v z => by cases z⟩
    · exact I1.pin p (List.mem_append_right _ hp)
  refine thn (ha.run pos _ s1 σ H1 (fun vs H' => ∃ F' A', Same F1 F' ∧ A <+: A' ∧ Rl N F' A' H' σ δ μ1 ∧ RepSs N.K F' A' vs ss) Ip ⟨F1, A, R1, fun vs F' A' H' h1 h2 h3 h4 => ⟨F', A', h1, h2, h3, h4⟩⟩) fun us s2 ⟨vs, H2, I2p, r2, F2, A2, e2, p2, R2, rv⟩ => ?_
  have I2 : Inv X pins σ H2 s2 := I2p.pins_of fun p hp => I2p.pin p (List.mem_append_right _ (List.mem_cons_of_mem _ hp))
  obtain ⟨hf2, hfn2, _⟩ := I2p.pin (lf, lamO X params bdy scope pm' c' ctv) (List.mem_append_right _ List.mem_cons_self)
  have hK := g.hK
  have c2 : CallL X.prog X.w X.K X.mg X.base (j + 1) lf L F2 A2 X.stack s2 H2 := fun μ3 r3 μ4 hL A' outer' s3 H3 E' Q' a1 a2 a3 ⟨N', F3, A3, b1, b2, b3, b4, b5⟩ => by
    refine lam_call0 (k := j) (t := fun E σ H Q => ∃ (N' : En) (F : Hp) (A : List Addr), N'.K = N.K ∧ Rl N' F A H σ δ μ3 ∧ EndE N' (fun cls d _ H => E cls d H) σ δ F A μ4 Q r3) I2 S hf2 hfn2 hfr (hbind _ _ _ _ _)
      (fun E A outer s H hr2 => ⟨fun pins s' σ H' Q I ⟨N', F, A', hK', R, kk⟩ => (body E A outer s H lf c' N' hK' ⟨takes_of rfl rfl rfl rfl, rfl, hK'.trans hK, hr2, passes_of rfl, g.nd⟩ μ3 r3 μ4 hL).run pins s' σ H' Q I ⟨F, A', R, kk⟩⟩) A' outer' s3 H3 E' Q' a1 a2 a3 ⟨b4.sub _ _ (b2 _ _ (e2 _ _ hF)), N', F3, A3, b1.trans hK.symm, ?_, ?_⟩
    · refine ⟨b4, R2.len, fun i s hs => ?_⟩
      obtain ⟨v, h1, h2⟩ := R2.sl i s hs
      refine ⟨v, h1, ?_⟩
      rw [b1.trans hK.symm]
      exact h2.mono b2 b3
    · have Rs : Rl N' F3 A3 H3 σ δ μ3 := ⟨b4, R2.len, fun i s hs => by
        obtain ⟨v, h1, h2⟩ := R2.sl i s hs
        refine ⟨v, h1, ?_⟩
        rw [b1.trans hK.symm]
        exact h2.mono b2 b3⟩
      cases r3 with
      | v s => exact fun v F' A' H' e p R' rv => b5 v F' A' H' e p R'.rc rv
      | x C d => exact fun dx v F' A' H' e p R' h1 h2 => b5 dx v F' A' H' e p R'.rc h1 h2
  have hl : (Value.ref lf :: us).length = ps.length := by
    rw [← Fo.len L ss μ1 r μ2 hR, List.length_cons, ← r2.length, rv.length]
  have hb1 := hb s2 (.ref lf :: us) I2.kIn (by rw [List.append_nil]; exact hl)
  rw [List.append_nil] at hb1
  refine ⟨I2.kIn, ?_⟩
  have ke := end_of R2 (q.to (sm.trans e2) p2)
  have rc2 := R2.rc.entry
  rw [hK] at rc2 rv ke
  refine wpAny_call (codeAny_mono (Fo.go L X.A X.stack s2 H2 ⟨.ref lf :: us, []⟩ us vs Q (WE W σ) lf F2 A2 ss μ1 r μ2 gd (g.room.mono hk) I2.env0 hb1 r2 hR rc2 rv c2 ke) fun z s' hq => ?_)
  match z, hq with
  | .error _, hq => exact passAt g.tk σ pins _ _ _ s' I2 hq
  | .ok (.ret _), hq => exact I2.after hq
end
end Dl
set_option Elab.async false
set_option linter.all false
set_option maxRecDepth 100000
set_option maxHeartbeats 4000000
set_option autoImplicit false
namespace Dl
open PySem PySem.Spec PyProof.Rows L2
/-- what a def that hears tells -/
def rHear (K : PySem.W.Frag) (CK : Addr) : Lr → Rel := fun L ss μ r μ' => ss = [] ∧ ∃ r0 res, L μ r0 μ' ∧ HR K CK r0 res ∧ r = .v (.p res)
/-- .. in terms of what its call of the function lets out -/
theorem hear_end {K : PySem.W.Frag} {CK : Addr} {F : Hp} {A : List Addr} {H : Hp} {μ μ' : List M} {r0 : Rx} {res : D} {E : XK} {Q : VK} {t : Addr} (rc : Rc ⟨K, H, F, A⟩ F A H μ) (nt : H t = none) (hr : HR K CK r0 res) (kk : EndL ⟨K, H, F, A⟩ F A μ' E Q (.v (.p res))) :
    tlD K F A μ r0 μ' (fun cls d H' => PySem.W.exmOne K cls (.ref CK) = some true ∧ ∀ a, H' a = none → ∀ p, (upd H' a (KpO cls d a)) p = none → Q (.ref p) (upd (upd H' a (KpO cls d a)) p (.tup [.ref a, .non]))) (upd H t (.tup [.non, .non]))
      (fun v H' => ∀ p, H' p = none → Q (.ref p) (upd H' p (.tup [.non, v]))) := by
  refine ⟨⟨K, H, F, A⟩, F, A, rfl, Same.refl _, List.prefix_refl _, rc.junk nt _, ?_⟩
  cases hr with
  | v d =>
    intro v F' A' H' e p R' rv q nq
    have s2 := same_updN (o := .tup [.non, v]) (R'.fresh nq).2.1
    exact kk (.ref q) _ A' _ (e.trans s2) p (R'.frozen nq _) (.tup (.inl (.inl upd_same)) (.cons .non (.cons (Rep.mono s2 rv) .nil)))
  | @x C d hx =>
    intro dx v F' A' H' e p R' h1 h2
    refine ⟨hx, fun a na q nq => ?_⟩
    have r3 := R'.frozen na (KpO (.ref C) (some dx) a)
    have s3 := same_updN (o := KpO (.ref C) (some dx) a) (R'.fresh na).2.1
    have r4 := r3.frozen nq (.tup [.ref a, .non])
    have s4 := same_updN (o := .tup [.ref a, .non]) (r3.fresh nq).2.1
    exact kk (.ref q) _ A' _ ((e.trans s3).trans s4) p r4 (.tup (.inl (.inl upd_same)) (.cons (.exc (s4 _ _ upd_same) (s4 _ _ (s3 _ _ h1)) (Rep.mono (s3.trans s4) h2)) (.cons .non .nil)))
end Dl
set_option Elab.async false
set_option linter.all false
set_option maxRecDepth 100000
set_option maxHeartbeats 4000000
set_option autoImplicit false
namespace Dl
open PySem PySem.Spec PyProof.Rows L2
/-! ## static methods of own classes, called by the class -/
section
variable {X : Cx} {N : En} {W : WX} {n k : Nat} {δ : List (Option S)} {μ μ1 μ2 μ3 μ' : List M} {e o a b : Expr} {es : List Expr} {ss : List S} {r : Rx} {R : Rel} {C : Addr} {m : Str} {p pos apos : Pos} {d : D}
/-! ## x.split(sep), x.partition(sep) -/
theorem m_split {z y : Str} (hy : (y.length == 0) = false) (hl : z.length + 2 ≤ sizeLine) : MtOk X N W "str" "str.split" μ μ (.p (.str z)) [.p (.str y)] (.v (.p (.lst ((Txt.split z y).map D.str)))) μ :=
  ⟨_, mt_split, fun σ δ F A H x R rx => by cases rs_str rx; trivial, fun σ δ F A H x vs Q R rx rv k => by
    obtain ⟨v, rfl, h⟩ := one_of rv
    cases rs_str rx
    cases rs_str h
    refine ⟨z, y, rfl, rfl, hy, hl, fun q nq => ?_⟩
    have sm := same_updN (o := .lst ((Txt.split z y).map V.str)) (R.rc.fresh nq).2.1
    exact k (.ref q) _ A _ sm (List.prefix_refl _) (R.to sm (List.prefix_refl _) (R.rc.frozen nq _)) (.lst upd_same of_strs)⟩
/-! ## one sign so many times -/
theorem fold_rep (c : Nat) : ∀ (k : Nat) (acc : Array Nat), (List.replicate k #[c]).foldl (· ++ ·) acc = acc ++ (List.replicate k c).toArray
  | 0, acc => by simp
  | k + 1, acc => by
    rw [List.replicate_succ, List.foldl_cons, fold_rep c k, Array.append_assoc]
    congr 1
    simp [List.replicate_succ]
theorem op_mulSk {c k : Nat} (h : 2 ≤ k ∧ k ≤ 10000) : OpR X (binaryOp .Mult) (fun x y H Q => x = .str ⟨#[c]⟩ ∧ y = .int (k : Int) ∧ Q (.str (Dl.st (List.replicate k c))) H) := by
  intro pins s σ H x y v u Q I rx ry ⟨e1, e2, q⟩
  subst e1 e2
  obtain ⟨t, rfl⟩ := rx
  obtain ⟨t', rfl⟩ := ry
  have h1 : ¬ (k : Int) < 1 := by omega
  have h2 : ((k : Int) == 1 || (⟨#[c]⟩ : Str).length == 0) = false := by
    have : ((k : Int) == 1) = false := by rw [beq_eq_false_iff_ne]; omega
    rw [this]
    rfl
  refine PySem.P.mul_str (by
      have a : ¬ (k : Int) < -(2 ^ 63 : Int) := by omega
      have b : ¬ (k : Int) ≥ 2 ^ 63 := by omega
      rw [decide_eq_false a, decide_eq_false b]; rfl) (fun _ _ => by
      show ¬ (((1 : Nat) : Int) > (2 ^ 63 - 1) / (k : Int))
      have : (1 : Int) ≤ (2 ^ 63 - 1) / (k : Int) := by
        rw [Int.le_ediv_iff_mul_le (by omega)]
        omega
      omega) (fun _ _ => by
      show Builtin.Str.tooLong ((⟨#[c]⟩ : Str).length * (k : Int).toNat) = false
      have e : (⟨#[c]⟩ : Str).length * (k : Int).toNat = k := by
        show 1 * (k : Int).toNat = k
        omega
      rw [e]
      unfold Builtin.Str.tooLong
      rw [decide_eq_false_iff_not, sizeLine_eq]
      omega) ?_
  rw [if_neg h1, if_neg (by rw [h2]; decide)]
  have e3 : (⟨(List.replicate (k : Int).toNat (⟨#[c]⟩ : Str).cps).foldl (· ++ ·) #[]⟩ : Str) = Dl.st (List.replicate k c) := by
    show (⟨(List.replicate (k : Int).toNat #[c]).foldl (· ++ ·) #[]⟩ : Str) = _
    rw [fold_rep, Int.toNat_natCast]
    simp [Dl.st]
  rw [e3]
  exact ⟨by rw [st_len, List.length_replicate, sizeLine_eq]; omega, .str _, H, I.tok _, ⟨_, rfl⟩, q⟩
theorem o_mulSk {c k : Nat} (h : 2 ≤ k ∧ k ≤ 10000) : OpOk X N W (binaryOp .Mult) μ (.p (.str ⟨#[c]⟩)) (.p (.int (k : Int))) (.v (.p (.str (Dl.st (List.replicate k c))))) μ :=
  ⟨_, op_mulSk h, fun σ δ F A H x y Q R rx ry q => ⟨rs_str rx, rs_int ry, q.here R (.str _)⟩⟩
/-! ## None in a list of ints and None -/
end
end Dl
set_option Elab.async false
set_option linter.all false
set_option maxRecDepth 100000
set_option maxHeartbeats 4000000
set_option autoImplicit false
namespace Dl
open PySem PySem.Spec PyProof.Rows L2
/-! ## what a changing thing has come to be is forgotten; loops whose states are not told; lists put together to a changing one -/
end Dl
set_option Elab.async false
set_option linter.all false
set_option maxRecDepth 100000
set_option maxHeartbeats 4000000
set_option autoImplicit false
namespace Dl
open PySem PySem.Spec PyProof.Rows L2
/-! ## the end, where the law's def is told of as a FnG: at the caller no guard stands -/
/-- what is tracked when the law is called: the tables T, and the script at a unless K knows it -/
noncomputable def hp0 (K : PySem.W.Frag) (T : List Addr) (a : Addr) (o : Obj) (xs : List V) : Hp := fun b =>
  if b ∈ T then some (.tbl #[]) else if b = a ∧ K.lookup a = none then some (.frz o (.lst xs)) else none
section
variable {K : PySem.W.Frag} {T : List Addr} {a b : Addr} {o : Obj} {xs : List V}
theorem hp0_T (h : b ∈ T) : hp0 K T a o xs b = some (.tbl #[]) := if_pos h
theorem hp0_a (h : a ∉ T) (n : K.lookup a = none) : hp0 K T a o xs a = some (.frz o (.lst xs)) := (if_neg h).trans (if_pos ⟨rfl, n⟩)
theorem hp0_cases : (b ∈ T ∧ hp0 K T a o xs b = some (.tbl #[])) ∨ (b ∉ T ∧ b = a ∧ K.lookup a = none ∧ hp0 K T a o xs b = some (.frz o (.lst xs))) ∨ (b ∉ T ∧ (b = a → K.lookup a ≠ none) ∧ hp0 K T a o xs b = none) := by
  by_cases h : b ∈ T
  · exact .inl ⟨h, hp0_T h⟩
  · by_cases h2 : b = a ∧ K.lookup a = none
    · exact .inr (.inl ⟨h, h2.1, h2.2, (if_neg h).trans (if_pos h2)⟩)
    · exact .inr (.inr ⟨h, fun e n => h2 ⟨e, n⟩, (if_neg h).trans (if_neg h2)⟩)
end
theorem law_callG {P : Program} {w : World} {K : PySem.W.Frag} {mg mb : Str → Option Value} {CX : CXT} {k : Nat} {fa a : Addr} {cs : List (Addr × Addr)} {fd : FuncData} {x : Str} {sp : Sp} {s₁ : Shared} {vs : List Value} {ns : List Int}
    (KX : K.In s₁.heap) (hns : s₁.heap.Ns mainGlobals mg) (hb : s₁.heap.Ns builtinsNs mb) (hbb : ∀ x : Str, x ≠ "__name__" → mb x = bootBuiltins x) (hlim : s₁.heap.NoLimit) (hg : s₁.gens = #[])
    (hT : ∀ p ∈ cs, s₁.heap.get? p.2 = some { cls := .none, data := .fields #[] }) (nT : ∀ p ∈ cs, K.lookup p.2 = none) (C : ∀ p ∈ cs, PySem.W.CodeHd s₁.heap p.1 p.2)
    (hbm : ∃ (bm : Addr) (ob : Obj), mg "__builtins__" = some (.ref bm) ∧ bm ≠ builtinsNs ∧ s₁.heap.get? bm = some ob ∧ ob.cls = .type "module" ∧ ob.dict = some builtinsNs ∧ ob.data = .plain)
    (ha : s₁.heap.get? a = some { cls := .type "list", data := .seq vs.toArray }) (hi : IntsAre vs ns) (hl : ns.length ≤ sizeLine) (hr : Room k callerA)
    (F : ∀ base : Heap, K.In base → base.Ns mainGlobals mg → (∀ p ∈ cs, LamX.TabB base mg p.1 p.2) → FnG P w K mg base CX k fa fd [x] sp) (hbind : ∀ (s : Shared) (u : Value), BindsTo s fd ⟨[u], []⟩ [(x, u)])
    (hsp : ∀ H : Hp, (∀ p ∈ cs, H p.2 = some (.tbl #[])) → SqL K H a (ns.map V.int) → sp [.ref a] H (fun v _ => v = .bl true) fun _ _ _ => False)
    (hCX : ∀ H e s', CX [] H s₁ (fun _ _ _ => False) e s' → False) :
    codeAny (model P w) callerA (.call (.ref fa) ⟨[.ref a], []⟩) (fun r s' => r = .ok (.ret (.bool true)) ∧ OldK s₁.heap s'.heap ∧ s'.os = s₁.os ∧ AllBare s'.gens) s₁ := by
  have rv := vals_ints hi
  let ob : Obj := { cls := .type "list", data := .seq vs.toArray }
  let T := cs.map (·.2)
  let H := hp0 K T a ob (ns.map V.int)
  have isT : ∀ {b}, b ∈ T → s₁.heap.get? b = some { cls := .none, data := .fields #[] } ∧ K.lookup b = none := fun hb => by
    obtain ⟨p, hp, rfl⟩ := List.mem_map.mp hb
    exact ⟨hT p hp, nT p hp⟩
  have aT : a ∉ T := fun z => nomatch (congrArg Obj.data (Option.some.inj (ha.symm.trans (isT z).1)) : Data.seq vs.toArray = Data.fields #[])
  -- what K knows, and what is neither a row of values nor an empty table, is not tracked
  have outK : ∀ {b o}, K.lookup b = some o → H b = none := fun {b o} e => by
    rcases hp0_cases (K := K) (T := T) (a := a) (b := b) (o := ob) (xs := ns.map V.int) with ⟨h, _⟩ | ⟨_, rfl, h, _⟩ | ⟨_, _, h⟩
    · rw [(isT h).2] at e; cases e
    · rw [h] at e; cases e
    · exact h
  have outD : ∀ {b o}, s₁.heap.get? b = some o → (∀ vs n, o.data ≠ .seq vs n) → o.data ≠ .fields #[] → H b = none := fun {b o} e h1 h2 => by
    rcases hp0_cases (K := K) (T := T) (a := a) (b := b) (o := ob) (xs := ns.map V.int) with ⟨h, _⟩ | ⟨_, rfl, h, _⟩ | ⟨_, _, h⟩
    · rw [(isT h).1] at e; cases e; exact (h2 rfl).elim
    · rw [ha] at e; cases e; exact (h1 _ _ rfl).elim
    · exact h
  have keepNs : ∀ {b : Addr} {m : Str → Option Value}, s₁.heap.Ns b m → (hidT s₁.heap H).Ns b m := fun ⟨o, es, ep, e, d, r⟩ =>
    ⟨o, es, ep, hidT_get e (outD e (fun _ _ z => nomatch d.symm.trans z) fun z => nomatch d.symm.trans z), d, r⟩
  have hKb : K.In (hidT s₁.heap H) := fun b o e => hidT_get (KX b o e) (outK e)
  have hM : L2.Mod K mg (hidT s₁.heap H) := ⟨hKb, keepNs hns, ⟨mb, keepNs hb, hbb⟩, let ⟨mc, h1, h2⟩ := hlim; ⟨mc, keepNs h1, h2⟩⟩
  have TB : ∀ p ∈ cs, LamX.TabB (hidT s₁.heap H) mg p.1 p.2 := fun p hp => by
    refine ⟨?_, ?_, fun z => ?_⟩
    · obtain ⟨o, us, file, tf, flags, tg, inF, text, tt, e1, r1, r2, r3, r⟩ := C p hp
      refine ⟨o, us, file, tf, flags, tg, inF, text, tt, hidT_get e1 (outD e1 (fun _ _ z => nomatch r2.symm.trans z) fun z => ?_), r1, r2, r3, r⟩
      cases r2.symm.trans z
      simp at r3
    · obtain ⟨bm, o, b1, b2, b3, b4, b5, b6⟩ := hbm
      refine ⟨bm, o, b1, b2, ?_, ?_, hidT_get b3 (outD b3 (fun _ _ z => nomatch b6.symm.trans z) fun z => nomatch b6.symm.trans z), b4, b5, b6⟩
      · rintro rfl
        obtain ⟨o2, es, ep, e, d, _⟩ := hns
        cases b3.symm.trans e
        exact nomatch b6.symm.trans d
      · rintro rfl
        cases b3.symm.trans (hT p hp)
        cases b6
    · obtain ⟨o, es, ep, e, d, _⟩ := hns
      rw [z, hT p hp] at e
      cases e
      cases d
  have hok : HOk P w H s₁.heap := fun b u z => by
    rcases hp0_cases (K := K) (T := T) (a := a) (b := b) (o := ob) (xs := ns.map V.int) with ⟨h, q⟩ | ⟨_, rfl, _, q⟩ | ⟨_, _, q⟩
    · cases q.symm.trans z; exact (isT h).1
    · cases q.symm.trans z; exact ⟨ha, by rw [List.length_map]; exact hl, vs, _, rv, ha⟩
    · cases q.symm.trans z
  have hS : SqL K H a (ns.map V.int) := by
    cases hk : K.lookup a with
    | none => exact .inl (.inr ⟨ob, hp0_a aT hk⟩)
    | some o =>
      cases ha.symm.trans (KX a o hk)
      exact .inr ⟨_, vs.toArray, _, hk, rfl, rfl, rfl, by rw [List.size_toArray, hi.length]; exact hl, by simpa using rv⟩
  have hH : ∀ p ∈ cs, H p.2 = some (.tbl #[]) := fun p hp => hp0_T (List.mem_map.mpr ⟨p, hp, rfl⟩)
  have e0 : Env0 P w K mg (hidT s₁.heap H) callerA [] s₁ H := ⟨rfl, hM, fun b o e => of_hidT e, Nat.le_of_eq (hidT_size _ _), trivial, fun b hb => absurd (show b ∈ ([] : List Addr) from hb) (by simp), hok, .of_eq hg⟩
  refine codeAny_mono ((F _ hKb (keepNs hns) TB).go callerA [] s₁ H ⟨[.ref a], []⟩ [.ref a] [.ref a] _ _ rfl hr e0 (hbind s₁ (.ref a)) (.cons rfl .nil) (hsp H hH hS)) fun r s' h => ?_
  match r, h with
  | .error e, h => exact (hCX H e s' h).elim
  | .ok (.ret u), ⟨v, H', os, bare, un, hok', r', q⟩ =>
    cases (show v = .bl true from q)
    obtain rfl : u = Value.bool true := r'
    have grown : ∀ b ∈ T, ∃ more : Array Value, s'.heap.get? b = some { cls := .none, data := .fields more } := fun b hb => by
      obtain ⟨more, z⟩ := un.tbls b #[] (hp0_T hb)
      exact ⟨_, hok' b _ z⟩
    have kept : ∀ b o, b ∉ T → s₁.heap.get? b = some o → s'.heap.get? b = some o := fun b o nb e => by
      rcases hp0_cases (K := K) (T := T) (a := a) (b := b) (o := ob) (xs := ns.map V.int) with ⟨h, _⟩ | ⟨_, _, _, q⟩ | ⟨_, _, q⟩
      · exact (nb h).elim
      · cases e.symm.trans (hok b _ q).1
        exact (hok' b _ (un.frzs b _ _ q)).1
      · exact un.keep b o e q (fun z => nomatch (show b ∈ ([] : List Addr) from z)) fun z => nomatch z
    refine ⟨rfl, ⟨fun b o e => ?_, fun b o e => ?_⟩, os, bare⟩
    · by_cases hb : b ∈ T
      · obtain ⟨more, hm⟩ := grown b hb
        obtain ⟨p, hp, rfl⟩ := List.mem_map.mp hb
        cases e.symm.trans (hT p hp)
        exact .inr (.inl ⟨((C p hp).tab (hT p hp)).isCodeTable, rfl, #[], more, rfl, by rw [Array.empty_append]; exact hm⟩)
      · exact .inl (kept b o hb e)
    · by_cases hb : b ∈ T
      · obtain ⟨more, hm⟩ := grown b hb
        exact ⟨_, hm⟩
      · exact ⟨o, kept b o hb e⟩
end Dl
set_option Elab.async false
set_option linter.all false
set_option maxRecDepth 100000
set_option maxHeartbeats 4000000
set_option autoImplicit false
namespace Dl
open PySem PySem.Spec PyProof.Rows L2
/-- the law's def and what it promises, at the heap behind the top -/
structure EndG (l : PySem.W.OpenLaw) (w : World) (K : PySem.W.Frag) (k : Nat) (x : Str) (mg : Str → Option Value) (fa : Addr) (h : Heap) (n : Nat) where
  fd : FuncData
  cs : List (Addr × Addr)
  R : Rel
  tab : ∀ p ∈ cs, h.get? p.2 = some { cls := .none, data := .fields #[] } ∧ K.lookup p.2 = none ∧ PySem.W.CodeHd h p.1 p.2
  bind : ∀ (s : Shared) (u : Value), BindsTo s fd ⟨[u], []⟩ [(x, u)]
  holds : ∀ (H : Hp) (a : Addr) (ns : List Int), ns.length ≤ n → (∀ z ∈ ns, Builtin.Int.intBits z ≤ 1048576) → (∀ p ∈ cs, H p.2 = some (.tbl #[])) → SqL K H a (ns.map V.int) → spD K R [.ref a] H (fun v _ => v = .bl true) fun _ _ _ => False
  ok : ∀ base : Heap, K.In base → base.Ns mainGlobals mg → (∀ p ∈ cs, LamX.TabB base mg p.1 p.2) → FnG l.prog w K mg base (L2.CX l.prog w) k fa fd [x] (spD K R)
theorem walk_G {l : PySem.W.OpenLaw} {n k : Nat} {q : Program} {loose : List Str} {XP : (Str → Option Value) → Heap → Prop} {YP : World → Heap → Prop} {d : DefRec} {K : Params → PySem.W.Frag} {x : Str}
    (hn : l.most = some n) (hn2 : n ≤ sizeLine) (hdf : d.params.defaults = []) (hr : Room k callerA) (hY : ∀ (w : World) (h : Heap), YP w h → (K w.params).In h)
    (F : ∀ (w : World) (mg : Str → Option Value) (fa : Addr) (h : Heap), (K w.params).In h → h.Ns mainGlobals mg → mg d.name = some (.ref fa) →
      (∀ (y : Str) (e : DefRec) (c P : Addr), (recsOf q).find? (fun e => e.name == y) = some e → PySem.W.tabIn (K w.params) y = some (c, P) → PySem.W.CodeHd h c P ∧ h.get? P = some (PySem.W.tabObj #[])) → Nonempty (EndG l w (K w.params) k x mg fa h n)) :
    PySem.W.WalkO q loose XP YP l.row.toRowW d [] (fun f vs => PySem.call f vs) := by
  refine Att.attach_callB hn hdf fun w s₀ s₁ mg mb fa o pm cd doc a vs ns G Y ho hd hcd hmg hobj hints hlen hbits hg => ?_
  have inK := hY w _ Y
  obtain ⟨Z⟩ := F w mg fa _ inK G.T.g hmg fun y e c P e1 e2 => PySem.W.tab_of G.T inK e1 e2
  exact law_callG inK G.T.g G.T.b G.T.builtins G.T.nolimit hg (fun p hp => (Z.tab p hp).1) (fun p hp => (Z.tab p hp).2.1) (fun p hp => (Z.tab p hp).2.2) G.T.bmain hobj hints (Nat.le_trans hlen hn2) hr Z.ok Z.bind
    (fun H hH hS => Z.holds H a ns hlen hbits hH hS) fun H e s' h => by obtain ⟨_, _, _, _, _, _, _, _, _, _, _, _, z⟩ := h; exact z
end Dl
set_option Elab.async false
set_option linter.all false
set_option maxRecDepth 100000
set_option maxHeartbeats 4000000
set_option autoImplicit false
namespace Dl
open PySem PySem.Spec PyProof.Rows L2
end Dl
set_option Elab.async false
set_option linter.all false
set_option maxRecDepth 100000
set_option maxHeartbeats 4000000
set_option autoImplicit false
namespace Dl
open PySem PySem.Spec PyProof.Rows L2
/-! ## a, b = e1, e2 with plain names: the pair is never made -/
section
variable {X : Cx} {N : En} {W : WX} {n : Nat} {δ : List (Option S)} {μ μ1 : List M} {a b : Expr} {s1 s2 : S} {x y : Str} {px py pt pos : Pos} {kt k2} {pt2 : Pos}
theorem ds_par (i j : Nat) (g : Go X N W n) (ha : DA X N W δ μ [a, b] [s1, s2] μ1) (hi : X.N[i]? = some x := by rfl) (hj : X.N[j]? = some y := by rfl) (hij : i ≠ j := by decide)
    (hx : X.env.scope.names.lookup x = some .local := by rfl) (hy : X.env.scope.names.lookup y = some .local := by rfl)
    (hw : swappedStores [.Tuple [.Name x px, .Name y py] kt pt] (.Tuple [a, b] k2 pt2) X.env = pure (some [x, y]) := by rfl)
    (hs : swapsWithSole [.Tuple [.Name x px, .Name y py] kt pt] (.Tuple [a, b] k2 pt2) pos.line X.env = pure false := by rfl) :
    DS X N W δ μ (.Assign [.Tuple [.Name x px, .Name y py] kt pt] (.Tuple [a, b] k2 pt2) pos) (.nx ((δ.set i (some s1)).set j (some s2)) μ1) :=
  PS.imp (ps_par (i := i) (j := j) g.calm g.nd hi hj hij hx hy ha hw hs) fun K σ H ⟨F, A, R, k⟩ => ⟨F, A, R, fun vs F1 A1 H1 e1 p1 R1 rv => by
    obtain ⟨v, w, rfl, r1, r2⟩ := two_of rv
    exact ⟨v, w, rfl, k _ F1 A1 H1 e1 p1 ((R1.set r1).set r2)⟩⟩
end
end Dl
set_option Elab.async false
set_option linter.all false
set_option maxRecDepth 100000
set_option maxHeartbeats 4000000
set_option autoImplicit false
namespace Dl
open PySem PySem.Spec PyProof.Rows L2
/-! ## next of a zip whose last pair is still held -/
/-! ## list(zip(..)): what stands between two turns -/
end Dl
set_option Elab.async false
set_option linter.all false
set_option maxRecDepth 100000
set_option maxHeartbeats 4000000
set_option autoImplicit false
namespace Dl
open PySem PySem.Spec PyProof.Rows L2
/-! ## dict(list(zip(ints, text))), d.get(i, c), list(xs) as a list that changes -/
def chD (c : Nat) : D := .str ⟨#[c]⟩
section
variable {X : Cx} {N : En} {W : WX} {n : Nat} {δ : List (Option S)} {μ μ1 μ2 : List M} {e e2 a b o : Expr} {p1 p2 p3 q1 q2 q3 pos apos : Pos} {ns : List Int} {L : List Nat} {i : Int}
theorem c_listM {ds : List D} : CallOk X N W (.type "list") μ [.p (.lst ds)] (.v (.l μ.length)) (μ ++ [.lst ds]) :=
  ⟨_, call_list_of, fun σ δ F A H vs Q R rv k => by
    obtain ⟨v, rfl, h⟩ := one_of rv
    obtain ⟨a, ws, rfl, h1, h2⟩ := rep_lst (show Rep N.K F v (.lst ds) from h)
    refine ⟨a, ws, rfl, .inl (SqL.of (R.rc.sub _ _ h1)), fun p np => ?_⟩
    have pp : A <+: A ++ [p] := List.prefix_append _ _
    refine k (.ref p) _ (A ++ [p]) _ (Same.refl _) pp (R.to (Same.refl _) pp (R.rc.newM np ⟨ws, upd_same, h2⟩)) ⟨p, rfl, ?_⟩
    rw [← R.rc.len]; simp⟩
end
end Dl
set_option Elab.async false
set_option linter.all false
set_option maxRecDepth 100000
set_option maxHeartbeats 4000000
set_option autoImplicit false
namespace Dl
open PySem PySem.Spec PyProof.Rows L2
/-! ## repr of data: None, bools, ints, texts, lists, tuples of them at any depth -/
mutual
def py : D → PyData
  | .bl b => .bool b
  | .int i => .int i
  | .str x => .str x
  | .tup ds => .tuple (pyAll ds)
  | .lst ds => .list (pyAll ds)
  | _ => .none
def pyAll : List D → List PyData
  | [] => []
  | d :: ds => py d :: pyAll ds
end
mutual
def isPy : D → Bool
  | .non | .bl _ | .int _ | .str _ => true
  | .tup ds | .lst ds => arePy ds
  | _ => false
def arePy : List D → Bool
  | [] => true
  | d :: ds => isPy d && arePy ds
end
end Dl
set_option Elab.async false
set_option linter.all false
set_option maxRecDepth 100000
set_option maxHeartbeats 4000000
set_option autoImplicit false
namespace Dl
open PySem PySem.Spec PyProof.Rows L2
/-! ## repr of a dict, its keys ints and texts, its values None, bools, ints, texts -/
end Dl
set_option Elab.async false
set_option linter.all false
set_option maxRecDepth 100000
set_option maxHeartbeats 4000000
set_option autoImplicit false
namespace Dl
open PySem PySem.Spec PyProof.Rows L2
/-! ## repr of data with dicts of plain values in it, at any depth -/
end Dl
set_option Elab.async false
set_option linter.all false
set_option maxRecDepth 100000
set_option maxHeartbeats 4000000
set_option autoImplicit false
namespace K20
open PySem PySem.Spec PyProof.Rows L2 Dl Cq
def top (i : Nat) : Stmt := PySem.Challenge.pw_looseknobs_k20_texts_of_no_circuit.main.body.getD i (.Pass ⟨0, 0, 0, 0⟩)
abbrev sErr : Stmt := inClass (top 2) 0
abbrev sName : Stmt := top 14
abbrev sAsc : Stmt := top 16
abbrev sMerged : Stmt := top 17
abbrev sInit : Stmt := inClass (top 23) 0
abbrev sAre : Stmt := top 24
abbrev sReadC : Stmt := top 38
abbrev sReadL : Stmt := top 39
abbrev sIsTurn : Stmt := top 40
abbrev sAbout : Stmt := top 41
abbrev sTurn : Stmt := top 42
abbrev sIsAbout : Stmt := top 43
abbrev sWires : Stmt := top 44
abbrev sCInit : Stmt := inClass (top 46) 0
abbrev sCText : Stmt := inClass (top 46) 1
abbrev sPot : Stmt := top 53
abbrev sTake : Stmt := top 54
abbrev sOf : Stmt := top 55
abbrev sSome : Stmt := top 56
abbrev sCells : Stmt := top 57
abbrev sWText : Stmt := top 59
abbrev sDWord : Stmt := top 60
abbrev sLText : Stmt := top 61
abbrev sText : Stmt := top 62
abbrev sGate : Stmt := top 63
abbrev sKnobs : Stmt := top 64
abbrev sDTurn : Stmt := top 65
abbrev sLines : Stmt := top 66
abbrev sDrawn : Stmt := top 73
abbrev sRight : Stmt := top 77
abbrev sLaw : Stmt := top 78
abbrev sHeard : Stmt := top 58
theorem scMerged : FnScope ["runs", "one", "other", "found", "at", "by"] ["runs"] (defScope sMerged) := ⟨rfl, rfl, rfl, by decide +kernel, rfl, by decide +kernel, by decide +kernel⟩
theorem scAsc : FnScope ["rows", "row", "runs", "at", "run"] ["rows"] (defScope sAsc) := ⟨rfl, rfl, rfl, by decide +kernel, rfl, by decide +kernel, by decide +kernel⟩
theorem scName : FnScope ["value", "letter"] ["value"] (defScope sName) := ⟨rfl, rfl, rfl, by decide +kernel, rfl, by decide +kernel, by decide +kernel⟩
theorem scAre : FnScope ["text", "letter"] ["text"] (defScope sAre) := ⟨rfl, rfl, rfl, by decide +kernel, rfl, by decide +kernel, by decide +kernel⟩
theorem scInit : FnScope ["self", "text", "letters"] ["self", "text"] (defScope sInit) := ⟨rfl, rfl, rfl, by decide +kernel, rfl, by decide +kernel, by decide +kernel⟩
structure TM (mg : Str → Option Value) : Prop where
  len : mg "len" = none
  int : mg "int" = none
  abs : mg "abs" = none
  max : mg "max" = none
  min : mg "min" = none
  range : mg "range" = none
  list : mg "list" = none
  all : mg "all" = none
  isinstance : mg "isinstance" = none
  str : mg "str" = none
  tuple : mg "tuple" = none
  enum : mg "enumerate" = none
  zip : mg "zip" = none
  set : mg "set" = none
  repr : mg "repr" = none
end K20
set_option Elab.async false
set_option linter.all false
set_option maxRecDepth 100000
set_option maxHeartbeats 4000000
set_option autoImplicit false
namespace K20
open PySem PySem.Spec PyProof.Rows L2 Dl Cq
/-! ### what is compared by < and == -/
structure KdOk (T : Type) [DecidableEq T] (toD : T → D) (le : T → T → Bool) (ok : T → Prop) : Prop where
  l : ∀ {X : Cx} {N : En} {W : WX} {n : Nat} {μ : List M}, Go X N W n → ∀ p q : T, OpOk X N W (compareOp .Lt) μ (.p (toD p)) (.p (toD q)) (.v (.p (.bl (le p q)))) μ
  e : ∀ {X : Cx} {N : En} {W : WX} {n : Nat} {μ : List M}, Go X N W n → ∀ p q : T, ok p → ok q → OpOk X N W (compareOp .Eq) μ (.p (toD p)) (.p (toD q)) (.v (.p (.bl (decide (p = q))))) μ
theorem pair_py (p : Str × Int) : PyD (pairD p) (.tuple [.str p.1, .int p.2]) := .tup (.cons (.str _) (.cons (.int _) .nil))
theorem pair_eqv (p q : Str × Int) : PyData.eqv (.tuple [.str p.1, .int p.2]) (.tuple [.str q.1, .int q.2]) = decide (p = q) := by
  obtain ⟨a, b⟩ := p
  obtain ⟨c, d⟩ := q
  simp [PyData.eqv, PyData.eqvAll, Bool.beq_eq_decide_eq, Prod.ext_iff]
def okS (_ : Str) : Prop := True
def okP (p : Str × Int) : Prop := PyData.strOk p.1 = true
theorem pair_shaped {p : Str × Int} (h : okP p) : SeqAt.shaped (.tuple [.str p.1, .int p.2]) = true := by
  unfold SeqAt.shaped
  have e1 : (PyData.tuple [.str p.1, .int p.2]).canLay0 = true := by
    rw [PyData.canLay0]
    simp only [PyData.canLayAll0, PyData.canLay0, Bool.and_true]
    exact h
  rw [e1]
  rfl
theorem kd_str : KdOk Str D.str sltB okS := ⟨fun _ _ _ => o_ltS, fun _ _ _ _ _ => o_eqS⟩
theorem kd_pair : KdOk (Str × Int) pairD pltB okP := ⟨fun g _ _ => o_ltP g, fun g p q h1 h2 => o_eqD g (pair_py p) (pair_py q) (pair_shaped h1) (pair_shaped h2) (pair_eqv p q)⟩
def mRel {T : Type} [DecidableEq T] (toD : T → D) (le : T → T → Bool) (ok : T → Prop) : Rel := fun ss μ r μ' => μ' = μ ∧
  ((∃ xs : List T, ss = [.p (.lst [.lst (xs.map toD)])] ∧ r = .v (.p (.lst (xs.map toD)))) ∨
   ∃ xs ys : List T, (∀ x ∈ xs, ok x) ∧ (∀ x ∈ ys, ok x) ∧ xs.length ≤ 100 ∧ ys.length ≤ 100 ∧ ss = [.p (.lst [.lst (xs.map toD), .lst (ys.map toD)])] ∧ r = .v (.p (.lst ((mrg le xs ys).map toD))))
def rMerged : Rel := fun ss μ r μ' => mRel D.str sltB okS ss μ r μ' ∨ mRel pairD pltB okP ss μ r μ'
def aRel {T : Type} [DecidableEq T] (toD : T → D) (le : T → T → Bool) (ok : T → Prop) : Rel := fun ss μ r μ' => μ' = μ ∧ ∃ xs : List T, (∀ x ∈ xs, ok x) ∧ xs.length ≤ 50 ∧ ss = [.p (.lst (xs.map toD))] ∧ r = .v (.p (.tup ((ascF le xs).map toD)))
def rAsc : Rel := fun ss μ r μ' => aRel D.str sltB okS ss μ r μ' ∨ aRel pairD pltB okP ss μ r μ'
theorem end_at {μ : List M} {a : M} {k : Nat} (h : μ.length = k) : (μ ++ [a])[k]? = some a := by
  subst h
  rw [List.getElem?_append_right (Nat.le_refl _), Nat.sub_self]
  rfl
theorem end_set {μ : List M} {a b : M} {k : Nat} (h : μ.length = k) : (μ ++ [a]).set k b = μ ++ [b] := by
  subst h
  rw [List.set_append_right _ _ (Nat.le_refl _)]
  simp
theorem sz {n : Nat} (h : n ≤ 100000) : n ≤ sizeLine := by rw [sizeLine_eq]; omega
theorem sz' {n : Nat} (h : n ≤ 100000) : n < sizeLine := by rw [sizeLine_eq]; omega
def whB (s : Stmt) (i : Nat) : List Stmt := match (defBody s).getD i (.Pass ⟨0, 0, 0, 0⟩) with
  | .While _ b _ _ => b
  | _ => []
def whC (s : Stmt) (i : Nat) : Expr := match (defBody s).getD i (.Pass ⟨0, 0, 0, 0⟩) with
  | .While c _ _ _ => c
  | _ => .Constant .none 0 ⟨0, 0, 0, 0⟩
theorem atm {T : Type} {toD : T → D} {xs : List T} {a : Nat} (h : a < xs.length) : atI (xs.map toD) (a : Int) = some (toD xs[a]) := atI_nat (by rw [List.getElem?_map, List.getElem?_eq_getElem h]; rfl)
theorem dropA {T : Type} {xs : List T} {a : Nat} (h : a < xs.length) : xs.drop a = xs[a] :: xs.drop (a + 1) := List.drop_eq_getElem_cons h
theorem mrg_nil {T : Type} [DecidableEq T] {le : T → T → Bool} (xs : List T) : mrg le xs [] = xs := by
  cases xs <;> unfold mrg <;> rfl
theorem mrg_nil' {T : Type} [DecidableEq T] {le : T → T → Bool} (xs : List T) : mrg le [] xs = xs := by unfold mrg; rfl
section
variable {P : Program} {w : World} {K : PySem.W.Frag} {mg : Str → Option Value} {base : Heap} {f C : Addr} {fd : FuncData}
abbrev dM (T1 : Type) (toD : T1 → D) (xs ys : List T1) (j a b : Nat) : List (Option S) := [some (.p (.lst [.lst (xs.map toD), .lst (ys.map toD)])), some (.p (.lst (xs.map toD))), some (.p (.lst (ys.map toD))), some (.l j), some (.p (.int (a : Nat))), some (.p (.int (b : Nat)))]
theorem mer_loop {T1 : Type} [DecidableEq T1] {toD : T1 → D} {le : T1 → T1 → Bool} {ok : T1 → Prop} (kd : KdOk T1 toD le ok) (T : TM mg) {cdv : Value} {A0 : Around} {outer : List Env} {s0 : Shared} {H : Hp} {E : XK} {N : En} {W : WX} {μ : List M} (g : Go (cxOf (L2.CX P w) P w K mg base ["runs", "one", "other", "found", "at", "by"] "_merged" (defScope sMerged) f cdv A0 outer s0 H E) N W 0) (xs ys : List T1) (ox : ∀ x ∈ xs, ok x) (oy : ∀ x ∈ ys, ok x) (lx : xs.length ≤ 100) (ly : ys.length ≤ 100) :
    ∀ (m a b : Nat) (acc : List T1), (xs.length - a) + (ys.length - b) ≤ m → a ≤ xs.length → b ≤ ys.length → acc.length ≤ a + b → ∃ q a' b' acc', Wl (cxOf (L2.CX P w) P w K mg base ["runs", "one", "other", "found", "at", "by"] "_merged" (defScope sMerged) f cdv A0 outer s0 H E) N W (whC sMerged 5) (whB sMerged 5) q (dM T1 toD xs ys μ.length a b) (μ ++ [.lst (acc.map toD)]) (.nx (dM T1 toD xs ys μ.length a' b') (μ ++ [.lst (acc'.map toD)])) ∧ a' ≤ xs.length ∧ b' ≤ ys.length ∧ acc'.length ≤ a' + b' ∧ acc' ++ xs.drop a' ++ ys.drop b' = acc ++ mrg le (xs.drop a) (ys.drop b) := by
  intro m
  induction m with
  | zero =>
    intro a b acc hm ha hb hl
    refine ⟨0, a, b, acc, .stop ?_, ha, hb, hl, ?_⟩
    · exact dt_w (k := false) (dw_and (k := false) (k' := true) (dt_of (dt_cmp (de_var 4) (de_callB (id := "len") (da_cons (de_var 1) da_nil) (c_lenL g) T.len (by decide +kernel)) o_lt) (decide_eq_false (by rw [List.length_map]; omega))) (fun h => by cases h))
    · rw [List.drop_of_length_le (show xs.length ≤ a by omega), List.drop_of_length_le (show ys.length ≤ b by omega), mrg_nil]
      simp
  | succ m ih =>
    intro a b acc hm ha hb hl
    by_cases h1 : a < xs.length
    case neg =>
      refine ⟨0, a, b, acc, .stop ?_, ha, hb, hl, ?_⟩
      · exact dt_w (k := false) (dw_and (k := false) (k' := true) (dt_of (dt_cmp (de_var 4) (de_callB (id := "len") (da_cons (de_var 1) da_nil) (c_lenL g) T.len (by decide +kernel)) o_lt) (decide_eq_false (by rw [List.length_map]; omega))) (fun h => by cases h))
      · rw [List.drop_of_length_le (show xs.length ≤ a by omega), mrg_nil']
        simp
    by_cases h2 : b < ys.length
    case neg =>
      refine ⟨0, a, b, acc, .stop ?_, ha, hb, hl, ?_⟩
      · exact dt_w (k := false) (dw_and (k := true) (k' := false) (dt_of (dt_cmp (de_var 4) (de_callB (id := "len") (da_cons (de_var 1) da_nil) (c_lenL g) T.len (by decide +kernel)) o_lt) (decide_eq_true (by rw [List.length_map]; omega))) (fun h => dw_and1 (dt_of (dt_cmp (de_var 5) (de_callB (id := "len") (da_cons (de_var 2) da_nil) (c_lenL g) T.len (by decide +kernel)) o_lt) (decide_eq_false (by rw [List.length_map]; omega)))))
      · rw [List.drop_of_length_le (show ys.length ≤ b by omega), mrg_nil]
        simp
    have cond : ∀ ν, DT (cxOf (L2.CX P w) P w K mg base ["runs", "one", "other", "found", "at", "by"] "_merged" (defScope sMerged) f cdv A0 outer s0 H E) N W (dM T1 toD xs ys μ.length a b) ν (whC sMerged 5) true ν := fun ν => dt_w (k := true) (dw_and (k := true) (k' := true) (dt_of (dt_cmp (de_var 4) (de_callB (id := "len") (da_cons (de_var 1) da_nil) (c_lenL g) T.len (by decide +kernel)) o_lt) (decide_eq_true (by rw [List.length_map]; omega))) (fun h => dw_and1 (dt_of (dt_cmp (de_var 5) (de_callB (id := "len") (da_cons (de_var 2) da_nil) (c_lenL g) T.len (by decide +kernel)) o_lt) (decide_eq_true (by rw [List.length_map]; omega)))))
    have e1 : ((a : Int) + 1) = ((a + 1 : Nat) : Int) := by omega
    have e2 : ((b : Int) + 1) = ((b + 1 : Nat) : Int) := by omega
    have app : ∀ z : T1, μ ++ [M.lst ((acc ++ [z]).map toD)] = (μ ++ [M.lst (acc.map toD)]).set μ.length (.lst (acc.map toD ++ [toD z])) := fun z => by rw [end_set rfl, List.map_append]; rfl
    rw [dropA h1, dropA h2]
    unfold mrg
    cases hc : le xs[a] ys[b] with
    | true =>
      obtain ⟨q, a', b', acc', w1, w2, w3, w4, w5⟩ := ih (a + 1) b (acc ++ [xs[a]]) (by omega) h1 hb (by rw [List.length_append]; simp; omega)
      refine ⟨q + 1, a', b', acc', .turn (cond _) (dss_ifT (dt_of (dt_cmp (de_ix (de_var 1) (de_var 4) (i_lst g (atm h1))) (de_ix (de_var 2) (de_var 5) (i_lst g (atm h2))) (kd.l g _ _)) hc) (dss_cons (ds_expr (de_bm PySem.F.plainAttrs_list PySem.F.slot_list_append PySem.F.type_list_append (de_var 3) (da_cons (de_ix (de_var 1) (de_var 4) (i_lst g (atm h1))) da_nil) (m_append (end_at rfl) (end_at rfl) (by rw [List.length_map]; exact sz' (by omega))))) (cn (dss_cons (ds_inc 4 de_int rfl g.nd) (cn dss_nil)))) (cn dss_nil)) (by rw [e1, ← app]; exact w1), w2, w3, w4, ?_⟩
      rw [w5, if_pos rfl, dropA h2]
      simp
    | false =>
      by_cases he : xs[a] = ys[b]
      · obtain ⟨q, a', b', acc', w1, w2, w3, w4, w5⟩ := ih (a + 1) (b + 1) (acc ++ [ys[b]]) (by omega) h1 h2 (by rw [List.length_append]; simp; omega)
        refine ⟨q + 1, a', b', acc', .turn (cond _) (dss_ifF (dt_of (dt_cmp (de_ix (de_var 1) (de_var 4) (i_lst g (atm h1))) (de_ix (de_var 2) (de_var 5) (i_lst g (atm h2))) (kd.l g _ _)) hc) (dss_ifT (dt_of (dt_cmp (de_ix (de_var 1) (de_var 4) (i_lst g (atm h1))) (de_ix (de_var 2) (de_var 5) (i_lst g (atm h2))) (kd.e g _ _ (ox _ (List.getElem_mem h1)) (oy _ (List.getElem_mem h2)))) (decide_eq_true he)) (dss_cons (ds_inc 4 de_int rfl g.nd) (cn dss_nil)) (cn (dss_cons (ds_expr (de_bm PySem.F.plainAttrs_list PySem.F.slot_list_append PySem.F.type_list_append (de_var 3) (da_cons (de_ix (de_var 2) (de_var 5) (i_lst g (atm h2))) da_nil) (m_append (end_at rfl) (end_at rfl) (by rw [List.length_map]; exact sz' (by omega))))) (cn (dss_cons (ds_inc 5 de_int rfl g.nd) (cn dss_nil)))))) (cn dss_nil)) (by rw [e1, e2, ← app]; exact w1), w2, w3, w4, ?_⟩
        rw [w5, if_neg (by simp), if_pos he]
        simp
      · obtain ⟨q, a', b', acc', w1, w2, w3, w4, w5⟩ := ih a (b + 1) (acc ++ [ys[b]]) (by omega) ha h2 (by rw [List.length_append]; simp; omega)
        refine ⟨q + 1, a', b', acc', .turn (cond _) (dss_ifF (dt_of (dt_cmp (de_ix (de_var 1) (de_var 4) (i_lst g (atm h1))) (de_ix (de_var 2) (de_var 5) (i_lst g (atm h2))) (kd.l g _ _)) hc) (dss_skip (dt_of (dt_cmp (de_ix (de_var 1) (de_var 4) (i_lst g (atm h1))) (de_ix (de_var 2) (de_var 5) (i_lst g (atm h2))) (kd.e g _ _ (ox _ (List.getElem_mem h1)) (oy _ (List.getElem_mem h2)))) (decide_eq_false he)) (dss_cons (ds_expr (de_bm PySem.F.plainAttrs_list PySem.F.slot_list_append PySem.F.type_list_append (de_var 3) (da_cons (de_ix (de_var 2) (de_var 5) (i_lst g (atm h2))) da_nil) (m_append (end_at rfl) (end_at rfl) (by rw [List.length_map]; exact sz' (by omega))))) (cn (dss_cons (ds_inc 5 de_int rfl g.nd) (cn dss_nil))))) (cn dss_nil)) (by rw [e2, ← app]; exact w1), w2, w3, w4, ?_⟩
        rw [w5, if_neg (by simp), if_neg he, dropA h1]
        simp
theorem mer_body {T1 : Type} [DecidableEq T1] {toD : T1 → D} {le : T1 → T1 → Bool} {ok : T1 → Prop} (kd : KdOk T1 toD le ok) (T : TM mg) {cdv : Value} {A0 : Around} {outer : List Env} {s0 : Shared} {H : Hp} {E : XK} {N : En} {W : WX} {ss : List S} {μ μ' : List M} {r : Rx} (g : Go (cxOf (L2.CX P w) P w K mg base ["runs", "one", "other", "found", "at", "by"] "_merged" (defScope sMerged) f cdv A0 outer s0 H E) N W 0) (hA : N.A0.length = μ.length) (hR : mRel toD le ok ss μ r μ') : ∃ o, DSs (cxOf (L2.CX P w) P w K mg base ["runs", "one", "other", "found", "at", "by"] "_merged" (defScope sMerged) f cdv A0 outer s0 H E) N W (starts ["runs", "one", "other", "found", "at", "by"] ss) μ (defBody sMerged) o ∧ Fit μ.length o r μ' := by
  obtain ⟨rfl, (⟨xs, rfl, rfl⟩ | ⟨xs, ys, ox, oy, lx, ly, rfl, rfl⟩)⟩ := hR
  · exact ⟨_, (dss_ifT (dt_of (dt_cmp (de_callB (id := "len") (da_cons (de_var 0) da_nil) (c_lenL g) T.len (by decide +kernel)) de_int o_eqI) rfl) (dss_ret (de_ix (de_var 0) de_int (i_lst g rfl))) cr), .rt⟩
  · obtain ⟨q, a', b', acc, w1, w2, w3, w4, w5⟩ := mer_loop (μ := μ') kd T g xs ys ox oy lx ly (xs.length + ys.length) 0 0 [] (by omega) (Nat.zero_le _) (Nat.zero_le _) (Nat.le_refl _)
    refine ⟨_, dss_skip (dt_of (dt_cmp (de_callB (id := "len") (da_cons (de_var 0) da_nil) (c_lenL g) T.len (by decide +kernel)) de_int o_eqI) rfl) (dss_cons (ds_asg (de_var 0) (dg_lst (dgs_cons (dg_name 1 g.nd) (dgs_cons (dg_name 2 g.nd) dgs_nil)) g.hK g.calm) rfl) (cn (dss_cons (ds_set 3 (de_lstM dp_nil) g.nd) (cn (dss_cons (ds_set 4 de_int g.nd) (cn (dss_cons (ds_set 5 de_int g.nd) (cn (dss_cons (ds_while g (by exact w1)) (cn
      (dss_freeze (end_at rfl) (by omega) 3 rfl (dss_ret (de_of (d' := .lst ((mrg le xs ys).map toD)) (de_lst (dp_star (de_var 3) (dp_star (de_cutLf g (de_var 1) (de_var 4)) (dp_star (de_cutLf g (de_var 2) (de_var 5)) dp_nil g.hK) g.hK) g.hK) ?hl) ?hd))))))))))))), ?_⟩
    case hl =>
      rw [cutX_from, cutX_from, List.append_nil]
      simp only [List.length_append, List.length_map, List.length_drop]
      exact sz (by omega)
    case hd =>
      rw [cutX_from, cutX_from, List.append_nil, ← List.map_drop, ← List.map_drop, ← List.map_append, ← List.map_append, ← List.append_assoc, w5]
      rfl
    rw [end_set rfl]
    have e2 : (μ' ++ [M.gone]).take μ'.length = μ' := by simp
    conv => rhs; rw [← e2]
    exact .rtT (Nat.le_refl _)
theorem ok_merged (F : Fun K "_merged" "_merged" sMerged f fd) (T : TM mg) : FnOk P w K mg base (L2.CX P w) 1 f fd ["runs"] (spD K rMerged) := by
  refine fn_D (k := 0) F scMerged (fun ss μ r μ' h => by obtain (⟨_, (⟨_, rfl, _⟩ | ⟨_, _, _, _, _, _, rfl, _⟩)⟩ | ⟨_, (⟨_, rfl, _⟩ | ⟨_, _, _, _, _, _, rfl, _⟩)⟩) := h <;> rfl) ?_
  intro cdv A0 outer s0 H E N W ss μ r μ' g hA hR
  rcases hR with hR | hR
  · exact mer_body kd_str T g hA hR
  · exact mer_body kd_pair T g hA hR
end
end K20
set_option Elab.async false
set_option linter.all false
set_option maxRecDepth 100000
set_option maxHeartbeats 4000000
set_option autoImplicit false
namespace K20
open PySem PySem.Spec PyProof.Rows L2 Dl Cq
theorem pairUp_at {T1 : Type} [DecidableEq T1] (le : T1 → T1 → Bool) : ∀ (rs : List (List T1)) (i : Nat), i < (rs.length + 1) / 2 → (∃ a, a ∈ rs ∧ (rs.drop (2 * i)).take 2 = [a] ∧ (pairUp le rs).getD i [] = a) ∨ (∃ a b, a ∈ rs ∧ b ∈ rs ∧ (rs.drop (2 * i)).take 2 = [a, b] ∧ (pairUp le rs).getD i [] = mrg le a b)
  | [], i, h => by simp at h
  | [a], i, h => by
    have : i = 0 := by simp at h; omega
    subst this
    exact .inl ⟨a, by simp, rfl, rfl⟩
  | a :: b :: r, 0, _ => .inr ⟨a, b, by simp, by simp, rfl, rfl⟩
  | a :: b :: r, i + 1, h => by
    have h' : i < (r.length + 1) / 2 := by simp at h; omega
    have e : (a :: b :: r).drop (2 * (i + 1)) = r.drop (2 * i) := by
      rw [show 2 * (i + 1) = 2 * i + 2 by omega]
      rfl
    rw [e]
    rcases pairUp_at le r i h' with ⟨x, h1, h2, h3⟩ | ⟨x, y, h1, h2, h3, h4⟩
    · exact .inl ⟨x, by simp [h1], h2, h3⟩
    · exact .inr ⟨x, y, by simp [h1], by simp [h2], h3, h4⟩
abbrev lsD {T1 : Type} (toD : T1 → D) (rs : List (List T1)) : List D := rs.map fun r => .lst (r.map toD)
theorem range_getD {α β : Type} (q : α → β) (d : α) (l : List α) : (List.range l.length).map (fun i => q (l.getD i d)) = l.map q := by
  apply List.ext_getElem?
  intro i
  rw [List.getElem?_map, List.getElem?_map]
  by_cases h : i < l.length
  · rw [List.getElem?_range h, List.getElem?_eq_getElem h]
    simp [List.getD, h]
  · rw [List.getElem?_eq_none (by simpa using h), List.getElem?_eq_none (by omega)]
    rfl
def esL : D → List D
  | .lst l => l
  | _ => []
theorem flat_ls {T1 : Type} (toD : T1 → D) : ∀ rs : List (List T1), flat2 (fun _ => true) esL (fun _ e => e) (lsD toD rs) = rs.flatten.map toD
  | [] => rfl
  | a :: r => by
    show (esL (.lst (a.map toD))).map (fun e => e) ++ flat2 (fun _ => true) esL (fun _ e => e) (lsD toD r) = _
    rw [flat_ls toD r, List.flatten_cons, List.map_append, List.map_id']
    rfl
theorem rg_two {n : Nat} (h : n ≤ 50) : RgC 0 (n : Int) 2 ((n + 1) / 2) := by
  have hs : Builtin.Range.rangeSize 0 (n : Int) 2 = (((n + 1) / 2 : Nat) : Int) := by
    unfold Builtin.Range.rangeSize
    rw [if_pos (by decide)]
    split <;> omega
  refine ⟨by decide, by decide, ?_, hs⟩
  unfold Builtin.Range.small
  rw [hs]
  have h2 : (n : Int) ≤ 50 := by omega
  have h0 : (0 : Int) ≤ n := by omega
  have h3 : (((n + 1) / 2 : Nat) : Int) ≤ 50 := by omega
  have h4 : (0 : Int) ≤ (((n + 1) / 2 : Nat) : Int) := by omega
  generalize (((n + 1) / 2 : Nat) : Int) = k at h3 h4
  generalize (n : Int) = m at h2 h0
  simp only [Builtin.Range.rangeFitsLong, Bool.and_eq_true, Bool.or_eq_true, decide_eq_true_eq, beq_iff_eq, show ((2 : Int) > 0) by decide, if_true]
  omega
theorem mem_flat_le {α : Type} {a : List α} : ∀ {rs : List (List α)}, a ∈ rs → a.length ≤ rs.flatten.length
  | [], h => by cases h
  | x :: r, h => by
    rw [List.flatten_cons, List.length_append]
    rcases List.mem_cons.mp h with rfl | h
    · omega
    · have := mem_flat_le h
      omega
section
variable {P : Program} {w : World} {K : PySem.W.Frag} {mg : Str → Option Value} {base : Heap} {f C : Addr} {fd : FuncData}
theorem asc_loop {T1 : Type} [DecidableEq T1] {toD : T1 → D} {le : T1 → T1 → Bool} {ok : T1 → Prop} (T : TM mg) (cm : Cf P w K mg base 1 "_merged" [] rMerged) (emb : ∀ ss μ r μ', mRel toD le ok ss μ r μ' → rMerged ss μ r μ') {cdv : Value} {A0 : Around} {outer : List Env} {s0 : Shared} {H : Hp} {E : XK} {N : En} {W : WX} {μ : List M} (g : Go (cxOf (L2.CX P w) P w K mg base ["rows", "row", "runs", "at", "run"] "ascending" (defScope sAsc) f cdv A0 outer s0 H E) N W 1) (d0 : D) :
    ∀ (m : Nat) (rs : List (List T1)), rs.length ≤ m → rs.length ≤ 50 → rs.flatten.length ≤ 50 → (∀ x ∈ rs.flatten, ok x) → ∃ q, Wl (cxOf (L2.CX P w) P w K mg base ["rows", "row", "runs", "at", "run"] "ascending" (defScope sAsc) f cdv A0 outer s0 H E) N W (whC sAsc 1) (whB sAsc 1) q [some (.p d0), none, some (.p (.lst (lsD toD rs))), none, none] μ (.nx [some (.p d0), none, some (.p (.lst (lsD toD (ascR le rs)))), none, none] μ) := by
  intro m
  induction m with
  | zero =>
    intro rs h0 h1 h2 h3
    have e : ascR le rs = rs := by unfold ascR; rw [dif_neg (by omega)]
    rw [e]
    exact ⟨0, .stop (dt_of (dt_cmp (de_callB (id := "len") (da_cons (de_var 2) da_nil) (c_lenL g) T.len (by decide +kernel)) de_int o_gt) (decide_eq_false (by rw [List.length_map]; omega)))⟩
  | succ m ih =>
    intro rs h0 h1 h2 h3
    by_cases hl : 1 < rs.length
    case neg =>
      have e : ascR le rs = rs := by unfold ascR; rw [dif_neg hl]
      rw [e]
      exact ⟨0, .stop (dt_of (dt_cmp (de_callB (id := "len") (da_cons (de_var 2) da_nil) (c_lenL g) T.len (by decide +kernel)) de_int o_gt) (decide_eq_false (by rw [List.length_map]; omega)))⟩
    have e : ascR le rs = ascR le (pairUp le rs) := by conv => lhs; unfold ascR; rw [dif_pos hl]
    have hp := pairUp_len le rs
    have hs := pairUp_sum le rs
    obtain ⟨q, hq⟩ := ih (pairUp le rs) (by omega) (by omega) (by omega) (fun x hx => h3 x ((mem_pairUp le x rs).mp hx))
    rw [e]
    refine ⟨q + 1, .turn (dt_of (dt_cmp (de_callB (id := "len") (da_cons (de_var 2) da_nil) (c_lenL g) T.len (by decide +kernel)) de_int o_gt) (decide_eq_true (by rw [List.length_map]; omega))) (dss_cons (ds_set 2 (de_lc g [("at", 3)] (di_range3 (m := (rs.length + 1) / 2) (da_cons de_int (da_cons (de_callB (id := "len") (da_cons (de_var 2) da_nil) (c_lenL g) T.len (by decide +kernel)) (da_cons de_int da_nil))) T.range ?rg) (fun s H C cl fp => dg_name 3 g.nd) (of_maps (l := List.range ((rs.length + 1) / 2)) (gd := fun i => D.int (0 + ((i : Nat) : Int) * 2)) (fy := fun i => .lst (((pairUp le rs).getD i []).map toD)) ?el) (ok := blkOk_by (by rfl)) (hds := ?hds)) g.nd) (cn dss_nil)) ?fin⟩
    case rg =>
      rw [List.length_map]
      exact rg_two h1
    case hds =>
      show (List.map _ (List.range ((rs.length + 1) / 2))).length < _
      rw [List.length_map, List.length_range]
      exact sz' (by omega)
    case fin =>
      rw [← hp, range_getD (fun r => D.lst (r.map toD)) []]
      exact hq
    case el =>
      intro i hi
      have hi : i < (rs.length + 1) / 2 := List.mem_range.mp hi
      refine ⟨_, rfl, fun s H C cl fp N' hK g' => de_call g' cm (da_cons (de_cutLm g' (de_var 2) (de_var 3) (de_bin (de_var 3) de_int o_add)) da_nil) (emb _ _ _ _ ⟨rfl, ?_⟩)⟩
      have ec : cutX (lsD toD rs) (some (0 + (i : Int) * 2)) (some (0 + (i : Int) * 2 + 2)) = lsD toD ((rs.drop (2 * i)).take 2) := by
        rw [show (0 + (i : Int) * 2) = ((2 * i : Nat) : Int) by omega, show (((2 * i : Nat) : Int) + 2) = ((2 * i + 2 : Nat) : Int) by omega, cutX_mid, show 2 * i + 2 - 2 * i = 2 by omega]
        simp only [lsD, List.map_take, List.map_drop]
      show (∃ xs : List T1, [S.p (D.lst (cutX (lsD toD rs) (some (0 + (i : Int) * 2)) (some (0 + (i : Int) * 2 + 2))))] ++ [] = _ ∧ _) ∨ _
      rcases pairUp_at le rs i hi with ⟨a, m1, h4, h5⟩ | ⟨a, b, m1, m2, h4, h5⟩
      · exact .inl ⟨a, by rw [ec, h4]; rfl, by rw [h5]⟩
      · refine .inr ⟨a, b, fun x hx => h3 x (List.mem_flatten.mpr ⟨a, m1, hx⟩), fun x hx => h3 x (List.mem_flatten.mpr ⟨b, m2, hx⟩), ?_, ?_, ?_, by rw [h5]⟩
        · have := mem_flat_le m1
          omega
        · have := mem_flat_le m2
          omega
        · show [S.p (D.lst (cutX (lsD toD rs) (some (0 + (i : Int) * 2)) (some (0 + (i : Int) * 2 + 2))))] ++ [] = _
          rw [ec, h4]
          rfl
theorem asc_body {T1 : Type} [DecidableEq T1] {toD : T1 → D} {le : T1 → T1 → Bool} {ok : T1 → Prop} (T : TM mg) (cm : Cf P w K mg base 1 "_merged" [] rMerged) (emb : ∀ ss μ r μ', mRel toD le ok ss μ r μ' → rMerged ss μ r μ') {cdv : Value} {A0 : Around} {outer : List Env} {s0 : Shared} {H : Hp} {E : XK} {N : En} {W : WX} {ss : List S} {μ μ' : List M} {r : Rx} (g : Go (cxOf (L2.CX P w) P w K mg base ["rows", "row", "runs", "at", "run"] "ascending" (defScope sAsc) f cdv A0 outer s0 H E) N W 1) (hA : N.A0.length = μ.length) (hR : aRel toD le ok ss μ r μ') : ∃ o, DSs (cxOf (L2.CX P w) P w K mg base ["rows", "row", "runs", "at", "run"] "ascending" (defScope sAsc) f cdv A0 outer s0 H E) N W (starts ["rows", "row", "runs", "at", "run"] ss) μ (defBody sAsc) o ∧ Fit μ.length o r μ' := by
  obtain ⟨rfl, xs, hl, ho, rfl, rfl⟩ := hR
  have hfl : (xs.map fun x => [x]).flatten = xs := by
    clear hl ho
    induction xs with
    | nil => rfl
    | cons x xs ih => rw [List.map_cons, List.flatten_cons, ih]; rfl
  obtain ⟨q, w1⟩ := asc_loop (le := le) (μ := μ') T cm emb g (.lst (xs.map toD)) xs.length (xs.map fun x => [x]) (by simp) (by simp; exact ho) (by rw [hfl]; exact ho) (by rw [hfl]; exact hl)
  refine ⟨_, dss_cons (ds_set 2 (de_lc g [("row", 1)] (di_lst g (de_var 0)) (fun s H C cl fp => dg_name 1 g.nd) (of_maps (gd := toD) (fy := fun x => .lst [toD x]) fun x hx => ⟨_, rfl, fun s H C cl fp N' hK g' => de_lst (dp_cons (de_var 1) dp_nil) (sz (by show 1 ≤ 100000; decide))⟩) (ok := blkOk_by (by rfl)) (hds := by rw [List.length_map]; exact sz' (by omega))) g.nd) (cn
    (dss_cons (ds_while g (by
      have e : (xs.map fun x => D.lst [toD x]) = lsD toD (xs.map fun x => [x]) := by simp [lsD, List.map_map, Function.comp_def]
      rw [e]
      exact w1)) (cn
    (dss_ret (de_of (d' := .tup ((ascF le xs).map toD)) (de_callT (T := "tuple") (da_cons (de_lc2 esL (fun _ e => e) g [("run", 4), ("row", 1)] [1] (di_lst g (de_var 2)) (fun s H C cl fp => dg_name 4 g.nd) (fun s H C cl fp => dg_name 1 g.nd) ?hf ?hz (ok := blkOk_by (by rfl))) da_nil) c_tupL T.tuple (by decide +kernel)) ?hd))))), .rt⟩
  case hf =>
    intro d hd
    obtain ⟨a, ha, rfl⟩ := List.mem_map.mp hd
    exact ⟨_, rfl, fun s H C cl fp N' hK g' => di_lst g' (de_var 4), fun e he => ⟨_, rfl, fun s H C cl fp N' hK g' => de_var 1⟩⟩
  case hz =>
    rw [flat_ls, List.length_map]
    have := ascF_len le xs
    exact sz (by unfold ascF at this; omega)
  case hd =>
    rw [flat_ls]
    rfl
theorem ok_asc (F : Fun K "ascending" "ascending" sAsc f fd) (T : TM mg) (cm : Cf P w K mg base 1 "_merged" [] rMerged) : FnOk P w K mg base (L2.CX P w) 2 f fd ["rows"] (spD K rAsc) := by
  refine fn_D (k := 1) F scAsc (fun ss μ r μ' h => by obtain (⟨_, _, _, _, rfl, _⟩ | ⟨_, _, _, _, rfl, _⟩) := h <;> rfl) ?_
  intro cdv A0 outer s0 H E N W ss μ r μ' g hA hR
  rcases hR with hR | hR
  · exact asc_body T cm (fun _ _ _ _ h => .inl h) g hA hR
  · exact asc_body T cm (fun _ _ _ _ h => .inr h) g hA hR
end
end K20
set_option Elab.async false
set_option linter.all false
set_option maxRecDepth 100000
set_option maxHeartbeats 4000000
set_option autoImplicit false
namespace K20
open PySem PySem.Spec PyProof.Rows L2 Dl Cq
theorem scIsTurn : FnScope ["step"] ["step"] (defScope sIsTurn) := ⟨rfl, rfl, rfl, by decide +kernel, rfl, by decide +kernel, by decide +kernel⟩
theorem scIsAbout : FnScope ["text", "wires", "letters"] ["text", "wires"] (defScope sIsAbout) := ⟨rfl, rfl, rfl, by decide +kernel, rfl, by decide +kernel, by decide +kernel⟩
theorem scWires : FnScope ["texts", "wires", "text"] ["texts", "wires"] (defScope sWires) := ⟨rfl, rfl, rfl, by decide +kernel, rfl, by decide +kernel, by decide +kernel⟩
theorem scAbout : FnScope ["name", "rest", "wires", "word"] ["name", "rest", "wires"] (defScope sAbout) := ⟨rfl, rfl, rfl, by decide +kernel, rfl, by decide +kernel, by decide +kernel⟩
def AZ : List Nat := [97, 98, 99, 100, 101, 102, 103, 104, 105, 106, 107, 108, 109, 110, 111, 112, 113, 114, 115, 116, 117, 118, 119, 120, 121, 122]
theorem mem_AZ {c : Nat} (h : 97 ≤ c ∧ c ≤ 122) : c ∈ AZ := by
  unfold AZ
  simp only [List.mem_cons, List.not_mem_nil, or_false]
  omega
/-- a tuple of texts among the module's own -/
def TupK (K : PySem.W.Frag) (a : Addr) (zs : List Str) : Prop := ∃ (o : Obj) (its : Array Value) (n : Nat), K.lookup a = some o ∧ o.cls = .type "tuple" ∧ o.data = .seq its n ∧ its.size ≤ sizeLine ∧ Vals (zs.map V.str) its.toList
def DicK (w : World) (K : PySem.W.Frag) (a : Addr) : Prop := ∃ es m, KDict K w a es m
structure TG (w : World) (K : PySem.W.Frag) (mg : Str → Option Value) (aS aT aW aA aP : Addr) : Prop where
  lets : ∃ u, mg "LETTERS" = some u ∧ RelV (.str (st IXYZ)) u
  most : ∃ u, mg "MOST_WIRES" = some u ∧ RelV (.int 4) u
  nml : ∃ u, mg "NAME_LETTERS" = some u ∧ RelV (.str (st AZ)) u
  lnm : ∃ u, mg "LONGEST_NAME" = some u ∧ RelV (.int 8) u
  mln : ∃ u, mg "MOST_LINES" = some u ∧ RelV (.int 40) u
  mtn : ∃ u, mg "MOST_TURNS" = some u ∧ RelV (.int 6) u
  mkn : ∃ u, mg "MOST_KNOBS" = some u ∧ RelV (.int 3) u
  gS : mg "SIZES" = some (.ref aS)
  gT : mg "TIMES" = some (.ref aT)
  gW : mg "WIRES" = some (.ref aW)
  gA : mg "ABOUT" = some (.ref aA)
  gP : mg "PAIRS" = some (.ref aP)
  kS : DicK w K aS
  kT : DicK w K aT
  nS : ∀ n, 1 ≤ n → n ≤ 4 → ∃ u, PySem.W.nsIn K aS (st (wT n)) = some (some u) ∧ RelV (.int (n : Nat)) u
  nT : ∀ i ∈ manys, ∃ u, PySem.W.nsIn K aT (st (mt i)) = some (some u) ∧ RelV (.int i) u
  tW : TupK K aW [st [48], st [49], st [50], st [51]]
  tA : TupK K aA [st wFlip, st wQuarter]
  tP : TupK K aP [st (pn 0), st (pn 1), st (pn 2)]
theorem reps_strs {K : PySem.W.Frag} {F : Hp} : ∀ zs : List Str, Reps K F (zs.map V.str) (zs.map D.str)
  | [] => .nil
  | z :: zs => .cons (.str z) (reps_strs zs)
theorem TupK.sq {K : PySem.W.Frag} {a : Addr} {zs : List Str} (h : TupK K a zs) : ∀ H, ∃ vs, SqT K H a vs ∧ ∀ F, Reps K F vs (zs.map D.str) := fun H => by
  obtain ⟨o, its, n, h1, h2, h3, h4, h5⟩ := h
  exact ⟨_, .inr ⟨o, its, n, h1, h2, h3, h4, h5⟩, fun F => reps_strs zs⟩
def rName : Rel := fun ss μ r μ' => ∃ k, okNm k ∧ ss = [.p (.str (st k))] ∧ r = .v (.p (.bl true)) ∧ μ' = μ
def rAre : Rel := fun ss μ r μ' => ∃ L, okL L ∧ ss = [.p (.str (st L))] ∧ r = .v (.p (.bl true)) ∧ μ' = μ
def rIsTurn : Rel := fun ss μ r μ' => ∃ l, ss = [.p (stpD l)] ∧ r = .v (.p (.bl (isT l))) ∧ μ' = μ
def rIsAbout : Rel := fun ss μ r μ' => ∃ w s L, w ≤ 4 ∧ okWd w s L ∧ ss = [.p (.str (st (sgL L s))), .p (.int (w : Nat))] ∧ r = .v (.p (.bl true)) ∧ μ' = μ
def digs (as : List Nat) : List D := as.map fun a => .str (st [48 + a])
def rWires : Rel := fun ss μ r μ' => ∃ (w : Nat) (as : List Nat), 1 ≤ w ∧ w ≤ 4 ∧ as.length ≤ 2 ∧ as.Nodup ∧ (∀ a ∈ as, a < w) ∧ ss = [.p (.lst (digs as)), .p (.int (w : Nat))] ∧ r = .v (.p (.bl true)) ∧ μ' = μ
structure TC (K : PySem.W.Frag) (mg : Str → Option Value) (C : Addr) : Prop where
  ci : ClsI K C
  nL : NoAttr K C "letters"
  nS : NoAttr K C "sign"
  at_ : mg "Word" = some (.ref C)
def pm (s : Int) : Prop := s = 1 ∨ s = -1
def wF : List Str := ["letters", "sign"]
def rInit (C : Addr) : Rel := fun ss μ r μ' => ∃ (j : Nat) (L : List Nat) (s : Int), okL L ∧ pm s ∧ ss = [.l j, .p (.str (sgn L s))] ∧ μ[j]? = some (.obj C [] []) ∧ r = .v (.p .non) ∧ μ' = μ.set j (.obj C wF [.str (st L), .int s])
def rAbout : Rel := fun ss μ r μ' => ∃ w q s L, w ≤ 4 ∧ okWd w s L ∧ ss = [.p (.str (st (if q = true then wQuarter else wFlip))), .p (.lst [.str (st (sgL L s))]), .p (.int (w : Nat))] ∧ r = .v (.p (stpD (.ab q s L))) ∧ μ' = μ
theorem sgn_sgL (L : List Nat) (s : Int) : sgn L s = st (sgL L s) := by
  unfold sgn sgL
  split <;> rfl
theorem kit_same {K : PySem.W.Frag} {t : Value} : PySem.W.kitOne K t t = some true := by
  unfold PySem.W.kitOne
  rw [if_pos (by simp)]
theorem sgn_prefix {L : List Nat} {s : Int} (h : okL L) : Txt.removeprefix (sgn L s) (Str.ofString "-") = st L := by
  obtain ⟨h1, h4, ha⟩ := h
  unfold sgn
  split
  · match L, h1, h4 with
    | [a], _, _ => rfl
    | [a, b], _, _ => rfl
    | [a, b, c], _, _ => rfl
    | [a, b, c, d], _, _ => rfl
  · match L, h1, h4, ha with
    | a :: l, _, h4, ha =>
      have hm := ha a (by simp)
      clear ha
      simp only [IXYZ, List.mem_cons, List.not_mem_nil, or_false] at hm
      rcases hm with rfl | rfl | rfl | rfl <;> (match l, h4 with
        | [], _ => rfl
        | [b], _ => rfl
        | [b, c], _ => rfl
        | [b, c, d], _ => rfl)
theorem sgn_starts {L : List Nat} {s : Int} (h : okL L) : Txt.startswith (sgn L s) (Str.ofString "-") = decide (s < 0) := by
  obtain ⟨h1, h4, ha⟩ := h
  unfold sgn
  split
  · rename_i hs
    rw [decide_eq_true hs]
    match L, h1, h4 with
    | [a], _, _ => rfl
    | [a, b], _, _ => rfl
    | [a, b, c], _, _ => rfl
    | [a, b, c, d], _, _ => rfl
  · rename_i hs
    rw [decide_eq_false hs]
    match L, h1, h4, ha with
    | a :: l, _, h4, ha =>
      have hm := ha a (by simp)
      clear ha
      simp only [IXYZ, List.mem_cons, List.not_mem_nil, or_false] at hm
      rcases hm with rfl | rfl | rfl | rfl <;> (match l, h4 with
        | [], _ => rfl
        | [b], _ => rfl
        | [b, c], _ => rfl
        | [b, c, d], _ => rfl)
theorem st_ne {L M : List Nat} (h : L ≠ M) : (!decide (st L = st M)) = true := by
  rw [decide_eq_false (fun e => h (st_inj.mp e))]
  rfl
theorem uniq_nodup : ∀ {zs : List Str}, zs.Nodup → zs.length ≤ 3 → (uniqN zs).length = zs.length
  | [], _, _ => rfl
  | [a], _, _ => rfl
  | [a, b], h, _ => by
    have h1 : ¬ b = a := fun e => by subst e; simp at h
    show (addN (addN [] a) b).length = 2
    unfold addN
    simp [h1]
  | [a, b, c], h, _ => by
    have h1 : ¬ b = a := fun e => by subst e; simp at h
    have h2 : ¬ c = a := fun e => by subst e; simp at h
    have h3 : ¬ c = b := fun e => by subst e; simp at h
    show (addN (addN (addN [] a) b) c).length = 3
    unfold addN
    simp [h1, h2, h3]
  | _ :: _ :: _ :: _ :: _, _, h => by simp at h
section
variable {P : Program} {w : World} {K : PySem.W.Frag} {mg : Str → Option Value} {base : Heap} {f C aS aT aW aA aP : Addr} {fd : FuncData}
theorem ok_are (F : Fun K "are_letters" "are_letters" sAre f fd) (T : TM mg) (Z : TG w K mg aS aT aW aA aP) : FnOk P w K mg base (L2.CX P w) 1 f fd ["text"] (spD K rAre) := by
  refine fn_D (k := 0) F scAre (fun ss μ r μ' h => by obtain ⟨L, _, rfl, _⟩ := h; rfl) ?_
  intro cdv A outer s H E N W ss μ r μ' g hA hR
  obtain ⟨L, hL, rfl, rfl, rfl⟩ := hR
  obtain ⟨u1, hu1, ru1⟩ := Z.lets
  obtain ⟨u2, hu2, ru2⟩ := Z.most
  have h4 := hL.four
  have h1 := hL.one
  refine ⟨_, dss_ret (de_of (de_and (de_chn de_int (de_callB (id := "len") (da_cons (de_var 0) da_nil) (c_lenS (by rw [st_len]; exact size4 (by omega))) T.len (by decide +kernel)) o_le (fun _ => de_glob hu2 ru2 (fun _ _ => .int 4)) (fun _ => o_le))
    (fun _ => de_one (de_callB (id := "all") (da_cons (de_lc g [("letter", 1)] (di_of (di_str (de_var 0)) (chars_st L)) (fun s H C cl fp => dg_name 1 g.nd)
      (of_maps (fy := fun c => .bl (decide (c ∈ IXYZ))) fun c hc => ⟨_, rfl, fun s H C cl fp N' hK g' => de_cmp (de_var 1) (de_glob hu1 ru1 (fun _ _ => .str _)) o_inS⟩) (ok := blkOk_by (by rfl)) (hds := by rw [List.length_map]; exact size4' (by omega))) da_nil) (c_allm g) T.all (by decide +kernel)))) ?_), .rt⟩
  rw [st_len, decide_eq_true (show (1 : Int) ≤ (L.length : Int) by omega), decide_eq_true (show (L.length : Int) ≤ 4 by omega), show (L.all fun c => decide (c ∈ IXYZ)) = true by simpa using hL.all]
  rfl
theorem ok_name (F : Fun K "is_name" "is_name" sName f fd) (T : TM mg) (Z : TG w K mg aS aT aW aA aP) : FnOk P w K mg base (L2.CX P w) 1 f fd ["value"] (spD K rName) := by
  refine fn_D (k := 0) F scName (fun ss μ r μ' h => by obtain ⟨L, _, rfl, _⟩ := h; rfl) ?_
  intro cdv A outer s H E N W ss μ r μ' g hA hR
  obtain ⟨L, hL, rfl, rfl, rfl⟩ := hR
  obtain ⟨u1, hu1, ru1⟩ := Z.nml
  obtain ⟨u2, hu2, ru2⟩ := Z.lnm
  have h4 := hL.eight
  have h1 := hL.one
  refine ⟨_, dss_skip (dt_w (dw_or (k := false) (k' := false) (dt_not (dt_val (de_callB (id := "isinstance") (da_cons (de_var 0) (da_cons (de_ty T.str (by decide +kernel)) da_nil)) (c_isi g (.str _) (.ty _) kit_same) T.isinstance (by decide +kernel)))) (fun _ => dw_or1 (dt_of (dt_not (dt_chn de_int (de_callB (id := "len") (da_cons (de_var 0) da_nil) (c_lenS (by rw [st_len]; exact size4 (by omega))) T.len (by decide +kernel)) o_le (fun _ => de_glob hu2 ru2 (fun _ _ => .int 8)) (fun _ => o_le))) ?_))))
    (dss_ret (de_of (de_callB (id := "all") (da_cons (de_lc g [("letter", 1)] (di_of (di_str (de_var 0)) (chars_st L)) (fun s H C cl fp => dg_name 1 g.nd)
      (of_maps (fy := fun c => .bl (decide (c ∈ AZ))) fun c hc => ⟨_, rfl, fun s H C cl fp N' hK g' => de_cmp (de_var 1) (de_glob hu1 ru1 (fun _ _ => .str _)) o_inS⟩) (ok := blkOk_by (by rfl)) (hds := by rw [List.length_map]; exact size4' (by omega))) da_nil) (c_allm g) T.all (by decide +kernel)) ?_)), .rt⟩
  · rw [st_len, decide_eq_true (show (1 : Int) ≤ (L.length : Int) by omega), decide_eq_true (show (L.length : Int) ≤ 8 by omega)]
    rfl
  · rw [show (L.all fun c => decide (c ∈ AZ)) = true by simpa using fun c hc => mem_AZ (hL.az c hc)]
theorem ok_init (F : Fun K "__init__" "Word.__init__" sInit f fd) (T : TM mg) (T2 : TC K mg C) (ca : Cf P w K mg base 1 "are_letters" [] rAre) : FnOk P w K mg base (L2.CX P w) 2 f fd ["self", "text"] (spD K (rInit C)) := by
  refine fn_D (k := 1) F scInit (fun ss μ r μ' h => by obtain ⟨j, L, s, _, _, rfl, _⟩ := h; rfl) ?_
  intro cdv A0 outer s0 H E N W ss μ r μ' g hA hR
  obtain ⟨j, L, s, hL, hs, rfl, hj, rfl, rfl⟩ := hR
  have h4 := hL.four
  have hlen : (sgn L s).length ≤ sizeLine := by
    unfold sgn
    rw [st_len]
    split
    · exact size4 (by rw [List.length_cons]; omega)
    · exact size4 (by omega)
  refine ⟨_, dss_skip (dt_not (dt_val (de_callB (id := "isinstance") (da_cons (de_var 1) (da_cons (de_ty T.str (by decide +kernel)) da_nil)) (c_isi g (.str _) (.ty _) kit_same) T.isinstance (by decide +kernel))))
    (dss_cons (ds_set 2 (de_of (de_bm PySem.F.plainAttrs_str PySem.F.slot_str_removeprefix PySem.F.type_str_removeprefix (de_var 1) (da_cons de_str da_nil) (m_removeprefix hlen)) (congrArg D.str (sgn_prefix hL))) g.nd) (cn
    (dss_skip (dt_not (dt_val (de_call g ca (da_cons (de_var 2) da_nil) ⟨L, hL, rfl, rfl, rfl⟩)))
    (dss_cons (ds_fldNew (de_var 2) (de_var 0) T2.ci.cl T2.nL hj) (cn
    (dss_cons (ds_fldNew (de_if (r := .v (.p (.int s))) (k := decide (s < 0)) (dt_of (dt_val (de_bm PySem.F.plainAttrs_str PySem.F.slot_str_startswith PySem.F.type_str_startswith (de_var 1) (da_cons de_str da_nil) m_startswith)) (sgn_starts hL)) (fun h => de_of (de_un de_int u_neg) (congrArg D.int ?_)) (fun h => de_of de_int (congrArg D.int ?_))) (de_var 0) T2.ci.cl T2.nS (List.getElem?_set_self (List.getElem?_eq_some_iff.mp hj).1)) (cn dss_nil))))))), ?_⟩
  · rcases hs with rfl | rfl
    · simp at h
    · rfl
  · rcases hs with rfl | rfl
    · rfl
    · simp at h
  · rw [List.set_set]
    exact .nx
theorem ok_isturn (F : Fun K "is_turn" "is_turn" sIsTurn f fd) : FnOk P w K mg base (L2.CX P w) 1 f fd ["step"] (spD K rIsTurn) := by
  refine fn_D (k := 0) F scIsTurn (fun ss μ r μ' h => by obtain ⟨l, rfl, _⟩ := h; rfl) ?_
  intro cdv A outer s H E N W ss μ r μ' g hA hR
  obtain ⟨l, rfl, rfl, rfl⟩ := hR
  cases l with
  | ab q s L => exact ⟨_, dss_ret (de_of (de_cmp (de_ix (de_var 0) de_int (i_tup (i := 0) g rfl)) de_str o_eqS) (congrArg D.bl (by cases q <;> (show decide _ = false; decide +kernel)))), .rt⟩
  | h a => exact ⟨_, dss_ret (de_of (de_cmp (de_ix (de_var 0) de_int (i_tup (i := 0) g rfl)) de_str o_eqS) (congrArg D.bl (by show decide _ = false; decide +kernel))), .rt⟩
  | pr k a b =>
    refine ⟨_, dss_ret (de_of (de_cmp (de_ix (de_var 0) de_int (i_tup (i := 0) g rfl)) de_str o_eqS) (congrArg D.bl ?_)), .rt⟩
    show decide _ = false
    unfold pn
    split
    · decide +kernel
    · split <;> decide +kernel
  | tn s L ps => exact ⟨_, dss_ret (de_of (de_cmp (de_ix (de_var 0) de_int (i_tup (i := 0) g rfl)) de_str o_eqS) (congrArg D.bl (by show decide _ = true; decide +kernel))), .rt⟩
theorem ok_isabout (F : Fun K "_is_about" "_is_about" sIsAbout f fd) (T : TM mg) (ca : Cf P w K mg base 1 "are_letters" [] rAre) : FnOk P w K mg base (L2.CX P w) 2 f fd ["text", "wires"] (spD K rIsAbout) := by
  refine fn_D (k := 1) F scIsAbout (fun ss μ r μ' h => by obtain ⟨_, _, _, _, _, rfl, _⟩ := h; rfl) ?_
  intro cdv A outer s0 H E N W ss μ r μ' g hA hR
  obtain ⟨n, s, L, hn, ⟨hL, hs, rfl, hne⟩, rfl, rfl, rfl⟩ := hR
  have h4 := hL.four
  have h1 := hL.one
  have e1 := sgn_prefix (s := s) hL
  rw [sgn_sgL] at e1
  refine ⟨_, dss_cons (ds_set 2 (de_of (de_bm PySem.F.plainAttrs_str PySem.F.slot_str_removeprefix PySem.F.type_str_removeprefix (de_var 0) (da_cons de_str da_nil) (m_removeprefix ?hl)) (congrArg D.str e1)) g.nd) (cn
    (dss_ret (de_of (d' := .bl true) (de_and (k := true) (k' := true) (de_of (de_cmp (de_callB (id := "len") (da_cons (de_var 2) da_nil) (c_lenS (by rw [st_len]; exact size4 (by omega))) T.len (by decide +kernel)) (de_var 1) o_eqI) ?e1) (fun _ => de_and (k := true) (k' := true) (de_call g ca (da_cons (de_var 2) da_nil) ⟨L, hL, rfl, rfl, rfl⟩) (fun _ => de_one (de_of (de_cmp (de_var 2) (de_bin de_str (de_var 1) (o_mulSn (c := 73) ⟨h1, h4⟩)) o_neS) ?e2)))) rfl))), .rt⟩
  case hl =>
    rw [st_len]
    unfold sgL
    split
    · exact size4 (by rw [List.length_cons]; omega)
    · exact size4 (by omega)
  case e1 => rw [st_len]; simp
  case e2 => exact congrArg D.bl (st_ne hne)
theorem ok_wires (F : Fun K "_are_wires" "_are_wires" sWires f fd) (T : TM mg) (Z : TG w K mg aS aT aW aA aP) : FnOk P w K mg base (L2.CX P w) 1 f fd ["texts", "wires"] (spD K rWires) := by
  refine fn_D (k := 0) F scWires (fun ss μ r μ' h => by obtain ⟨_, _, _, _, _, _, _, rfl, _⟩ := h; rfl) ?_
  intro cdv A outer s0 H E N W ss μ r μ' g hA hR
  obtain ⟨n, as, h1, h4, hl, hnd, hlt, rfl, rfl, rfl⟩ := hR
  have hu : (uniqN (as.map fun a => st [48 + a])).length = as.length := by
    rw [uniq_nodup ?_ (by rw [List.length_map]; omega), List.length_map]
    refine List.Pairwise.map _ (fun a b hab e => hab ?_) hnd
    have := st_inj.mp e
    simpa using this
  have hin : ∀ a ∈ as, decide (st [48 + a] ∈ ([st [48], st [49], st [50], st [51]] : List Str).take n) = true := fun a ha => by
    have := hlt a ha
    refine decide_eq_true ?_
    match n, a, this, h4 with
    | 1, 0, _, _ => simp
    | 2, 0, _, _ => simp
    | 2, 1, _, _ => simp
    | 3, 0, _, _ => simp
    | 3, 1, _, _ => simp
    | 3, 2, _, _ => simp
    | 4, 0, _, _ => simp
    | 4, 1, _, _ => simp
    | 4, 2, _, _ => simp
    | 4, 3, _, _ => simp
  refine ⟨_, dss_ret (de_of (d' := .bl true) (de_and (k := true) (k' := true) (de_of (de_callB (id := "all") (da_cons (de_lc g [("text", 2)] (di_lst g (de_var 0)) (fun s H C cl fp => dg_name 2 g.nd) (of_maps (gd := fun a => .str (st [48 + a])) (fy := fun a => .bl (decide (st [48 + a] ∈ ([st [48], st [49], st [50], st [51]] : List Str).take n))) fun a ha => ⟨_, rfl, fun s H C cl fp N' hK g' => de_cmp (de_var 2) (de_of (d' := .tup ((([st [48], st [49], st [50], st [51]] : List Str).take n).map D.str)) (de_cutTt g' (de_globT g' Z.gW Z.tW.sq) (de_var 1)) ?cut) (o_inStrT g')⟩) (ok := blkOk_by (by rfl)) (hds := by rw [List.length_map]; exact size4' (by omega))) da_nil) (c_allm g) T.all (by decide +kernel)) ?all) (fun _ => de_one (de_of (de_cmp (de_lenSet (zs := as.map fun a => st [48 + a]) g (de_of (de_var 0) ?ls) (by rw [List.length_map]; omega) T.len T.set) (de_callB (id := "len") (da_cons (de_var 0) da_nil) (c_lenL g) T.len (by decide +kernel)) o_eqI) ?len))) rfl), .rt⟩
  case cut => rw [cutX_to, List.map_take]
  case all =>
    rw [show (as.all fun a => decide (st [48 + a] ∈ ([st [48], st [49], st [50], st [51]] : List Str).take n)) = true from List.all_eq_true.mpr hin]
  case ls => rw [List.map_map]; rfl
  case len =>
    rw [hu, digs, List.length_map]
    simp
theorem de_word {X : Cx} {N : En} {W : WX} {n : Nat} {δ : List (Option S)} {μ μ1 : List M} {e : Expr} {p pos : Pos} {L : List Nat} {s : Int} (g : Go X N W n) (ci : Ci X.prog X.w X.K X.mg X.base 2 C "Word" [] (rInit C)) (hL : okL L) (hs : pm s) (h : DE X N W δ μ e (.v (.p (.str (sgn L s)))) μ1) (hk : 2 + 1 ≤ n := by decide) (hg : Gl X "Word" := by rfl)
    (he : starEach [e] X.env = (false, eval e X.env) :: starEach [] X.env := by rfl) (hpl : (backTo pos (starEach [] X.env)).any (·.1) = false := by rfl) : DE X N W δ μ (.Call (.Name "Word" p) [e] [] pos) (.v (.p (wd C L s))) μ1 := by
  refine de_make g ci (da_cons h da_nil he) (μ0 := (μ1 ++ [M.obj C [] []]).set μ1.length (M.obj C wF [.str (st L), .int s])) ⟨μ1.length, L, s, hL, hs, rfl, by simp, rfl, rfl⟩ (List.getElem?_set_self (by simp)) ?_ hk hg (by decide) he hpl
  rw [List.set_append_right _ _ (Nat.le_refl _)]
  simp
theorem ok_rabout (F : Fun K "_read_about" "_read_about" sAbout f fd) (T : TM mg) (T2 : TC K mg C) (ca : Cf P w K mg base 2 "_is_about" [] rIsAbout) (ci : Ci P w K mg base 2 C "Word" [] (rInit C)) : FnOk P w K mg base (L2.CX P w) 4 f fd ["name", "rest", "wires"] (spD K rAbout) := by
  refine fn_D (k := 3) F scAbout (fun ss μ r μ' h => by obtain ⟨_, _, _, _, _, _, rfl, _⟩ := h; rfl) ?_
  intro cdv A outer s0 H E N W ss μ r μ' g hA hR
  obtain ⟨n, q, s, L, hn, hw, rfl, rfl, rfl⟩ := hR
  refine ⟨_, dss_skip (dt_w (dw_or (k := false) (k' := false) (dt_of (dt_cmp (de_callB (id := "len") (da_cons (de_var 1) da_nil) (c_lenL g) T.len (by decide +kernel)) de_int o_neI) rfl) (fun _ => dw_or1 (dt_not (dt_val (de_call g ca (da_cons (de_ix (de_var 1) de_int (i_lst g rfl)) (da_cons (de_var 2) da_nil)) ⟨n, s, L, hn, hw, rfl, rfl, rfl⟩))))))
    (dss_cons (ds_set 3 (de_word g ci hw.okL hw.pm (de_of (de_ix (de_var 1) de_int (i_lst g rfl)) (congrArg D.str (sgn_sgL L s).symm))) g.nd) (cn
    (dss_ret (de_tup (dp_cons (de_var 0) (dp_cons (de_fld (de_var 3) g T2.ci.cl T2.nL) (dp_cons (de_fld (de_var 3) g T2.ci.cl T2.nS) dp_nil))))))), .rt⟩
end
end K20
set_option Elab.async false
set_option linter.all false
set_option maxRecDepth 100000
set_option maxHeartbeats 4000000
set_option autoImplicit false
namespace Cq
open PySem PySem.Spec PyProof.Rows L2 Dl
theorem evens_pairs {α β : Type} (a b : β → α) : ∀ ps : List β, evens (ps.flatMap fun p => [a p, b p]) = ps.map a
  | [] => rfl
  | p :: ps => by
    show a p :: evens (ps.flatMap fun p => [a p, b p]) = _
    rw [evens_pairs a b ps]
    rfl
theorem evens_pairs' {α β : Type} (a b : β → α) : ∀ ps : List β, evens ((ps.flatMap fun p => [a p, b p]).drop 1) = ps.map b
  | [] => rfl
  | [p] => rfl
  | p :: q :: ps => by
    show b p :: evens (((q :: ps).flatMap fun p => [a p, b p]).drop 1) = _
    rw [evens_pairs' a b (q :: ps)]
    rfl
theorem zip_self {β : Type} (a b : β → D) : ∀ ps : List β, (ps.map a).zipWith (fun x y => D.tup [x, y]) (ps.map b) = ps.map fun p => .tup [a p, b p]
  | [] => rfl
  | p :: ps => by
    show D.tup [a p, b p] :: _ = _
    rw [zip_self a b ps]
    rfl
theorem flat_len {β α : Type} (a b : β → α) : ∀ ps : List β, (ps.flatMap fun p => [a p, b p]).length = 2 * ps.length
  | [] => rfl
  | p :: ps => by
    rw [List.flatMap_cons, List.length_append, flat_len a b ps, List.length_cons]
    show 2 + 2 * ps.length = 2 * (ps.length + 1)
    omega
/-- the knobs of all turns are few -/
theorem knobs_len {w : Nat} : ∀ {ls : List Ln}, (∀ l ∈ ls, okLn w l) → (ls.flatMap formK).length ≤ 3 * (ls.filter isT).length
  | [], _ => Nat.zero_le _
  | l :: ls, h => by
    have ih := knobs_len (ls := ls) fun x hx => h x (by simp [hx])
    have h0 := h l (by simp)
    rw [List.flatMap_cons, List.length_append, List.filter_cons]
    cases l with
    | tn s L ps =>
      have h3 : (formK (.tn s L ps)).length ≤ 3 := by
        show ((formF ps).map (·.1)).length ≤ 3
        rw [List.length_map]
        exact Nat.le_trans (formF_len ps) h0.2.2.1
      rw [if_pos (show isT (.tn s L ps) = true from rfl), List.length_cons]
      omega
    | ab q s L => rw [if_neg (show ¬ isT (.ab q s L) = true from nofun)]; show 0 + _ ≤ _; omega
    | h a => rw [if_neg (show ¬ isT (.h a) = true from nofun)]; show 0 + _ ≤ _; omega
    | pr k a b => rw [if_neg (show ¬ isT (.pr k a b) = true from nofun)]; show 0 + _ ≤ _; omega
def isTD : D → Bool
  | .tup (.str z :: _) => decide (z = st wTurn)
  | _ => false
def esT : D → List D
  | .tup [_, _, _, .tup fs] => fs
  | _ => []
def fstD : D → D
  | .tup [a, _] => a
  | _ => .non
theorem st_no {L M : List Nat} (h : L ≠ M) : decide (st L = st M) = false := decide_eq_false fun e => h (st_inj.mp e)
theorem isTD_stp : ∀ l : Ln, isTD (stpD l) = isT l
  | .ab q s L => by
    show decide (st (if q then wQuarter else wFlip) = st wTurn) = false
    cases q
    · exact st_no (by decide)
    · exact st_no (by decide)
  | .h a => by
    show decide (st [104] = st wTurn) = false
    exact st_no (by decide)
  | .pr k a b => by
    show decide (st (pn k) = st wTurn) = false
    refine st_no ?_
    unfold pn
    split
    · decide
    · split <;> decide
  | .tn s L ps => by
    show decide (st wTurn = st wTurn) = true
    exact decide_eq_true rfl
theorem flat_knobs : ∀ ls : List Ln, flat2 isTD esT (fun _ e => fstD e) (ls.map stpD) = (ls.flatMap formK).map D.str
  | [] => rfl
  | l :: ls => by
    show (if isTD (stpD l) = true then (esT (stpD l)).map (fun e => fstD e) else []) ++ flat2 isTD esT (fun _ e => fstD e) (ls.map stpD) = _
    rw [flat_knobs ls, isTD_stp, List.flatMap_cons, List.map_append]
    congr 1
    cases l with
    | tn s L ps =>
      show ((formF ps).map Dl.pairD).map fstD = ((formF ps).map (·.1)).map D.str
      rw [List.map_map, List.map_map]
      rfl
    | ab q s L => rfl
    | h a => rfl
    | pr k a b => rfl
/-- joined pieces, joined -/
theorem joinL_two {S : List Nat} {β : Type} (a b : β → List Nat) : ∀ (xs : List (List Nat)) (ps : List β), TL.joinL S (xs ++ ps.map fun p => a p ++ (S ++ b p)) = TL.joinL S (xs ++ ps.flatMap fun p => [a p, b p])
  | [], [] => rfl
  | [], [p] => rfl
  | [], p :: q :: ps => by
    have ih := joinL_two (S := S) a b [] (q :: ps)
    show (a p ++ (S ++ b p)) ++ (S ++ TL.joinL S ([] ++ (q :: ps).map fun p => a p ++ (S ++ b p))) = a p ++ (S ++ (b p ++ (S ++ TL.joinL S ([] ++ (q :: ps).flatMap fun p => [a p, b p]))))
    rw [ih]
    simp
  | [x], [] => rfl
  | [x], p :: ps => by
    have ih := joinL_two (S := S) a b [] (p :: ps)
    show x ++ (S ++ TL.joinL S ([] ++ (p :: ps).map fun p => a p ++ (S ++ b p))) = x ++ (S ++ TL.joinL S ([] ++ (p :: ps).flatMap fun p => [a p, b p]))
    rw [ih]
  | x :: y :: xs, ps => by
    have ih := joinL_two (S := S) a b (y :: xs) ps
    show x ++ (S ++ TL.joinL S (y :: xs ++ ps.map fun p => a p ++ (S ++ b p))) = x ++ (S ++ TL.joinL S (y :: xs ++ ps.flatMap fun p => [a p, b p]))
    rw [ih]
end Cq
set_option Elab.async false
set_option linter.all false
set_option maxRecDepth 100000
set_option maxHeartbeats 4000000
set_option autoImplicit false
namespace Dl
open PySem PySem.Spec PyProof.Rows L2
section
variable {X : Cx} {N : En} {W : WX} {n : Nat} {e : Expr} {p : Pos} {f : As} {ix : List Nat}
/-- the last target, with a star -/
theorem dgs_last (h : DG X N e f ix) (h1 : (assignEach [e] X.env).map (·.2) = assign e X.env :: (assignEach [] X.env).map (·.2) := by rfl) (h2 : (assignEach [.Starred e p] X.env).map (·.2) = (assignEach [e] X.env).map (·.2) := by rfl) : DGs X N [.Starred e p] [f] (ix ++ []) := by
  have k : DGs X N [e] [f] (ix ++ []) := dgs_cons h dgs_nil h1
  refine ⟨fun pins s σ H us vs Q I r hh => ?_⟩
  have := k.run pins s σ H us vs Q I r hh
  rw [h2]
  exact this
end
end Dl
set_option Elab.async false
set_option linter.all false
set_option maxRecDepth 100000
set_option maxHeartbeats 4000000
set_option autoImplicit false
namespace K20
open PySem PySem.Spec PyProof.Rows L2 Dl Cq
theorem scTurn : FnScope ["rest", "wires", "about", "by", "pairs", "times", "knobs", "many", "knob", "word", "form"] ["rest", "wires"] (defScope sTurn) := ⟨rfl, rfl, rfl, by decide +kernel, rfl, by decide +kernel, by decide +kernel⟩
theorem scReadL : FnScope ["line", "wires", "name", "rest"] ["line", "wires"] (defScope sReadL) := ⟨rfl, rfl, rfl, by decide +kernel, rfl, by decide +kernel, by decide +kernel⟩
theorem scReadC : FnScope ["text", "first", "lines", "wires", "steps", "turns", "number", "line", "step"] ["text"] (defScope sReadC) := ⟨rfl, rfl, rfl, by decide +kernel, rfl, by decide +kernel, by decide +kernel⟩
abbrev wsD (ws : List (List Nat)) : List D := ws.map fun v => .str (st v)
def rTurn : Rel := fun ss μ r μ' => ∃ w s L ps, w ≤ 4 ∧ okLn w (.tn s L ps) ∧ ss = [.p (.lst (wsD ((lw (.tn s L ps)).drop 1))), .p (.int (w : Nat))] ∧ r = .v (.p (stpD (.tn s L ps))) ∧ μ' = μ
def rReadL : Rel := fun ss μ r μ' => ∃ w l, 1 ≤ w ∧ w ≤ 4 ∧ okLn w l ∧ ss = [.p (.str (st (lt l))), .p (.int (w : Nat))] ∧ r = .v (.p (stpD l)) ∧ μ' = μ
abbrev lnsD (ls : List Ln) : List D := ls.map fun l => .str (st (lt l))
def rReadC : Rel := fun ss μ r μ' => ∃ w ls, okC w ls ∧ ss = [.p (.str (st (ct w ls)))] ∧ r = .v (.p (.tup [.int (w : Nat), .tup (lnsD ls), .tup (ls.map stpD)])) ∧ μ' = μ
theorem okP_nm {p : List Nat × Int} (h : okNm p.1) : okP (pairS p) := by
  show (st p.1).cps.all (· < 0x110000) = true
  rw [Array.all_eq_true_iff_forall_mem]
  intro c hc
  have := h.az c (by simpa [Dl.st] using hc)
  simp only [decide_eq_true_eq]
  omega
theorem st_inj' : ∀ {ks : List (List Nat)}, ks.Nodup → (ks.map st).Nodup := fun {ks} h => List.Pairwise.map _ (fun a b hab e => hab (st_inj.mp e)) h
theorem split_is {w : Nat} {l : Ln} (hw : w ≤ 4) (h : okLn w l) : (Txt.split (st (lt l)) (Str.ofString " ")).map D.str = wsD (lw l) := by
  have e : Txt.split (st (lt l)) (Str.ofString " ") = (TL.spl [32] 0 [] (lt l)).map st := SX.split_S (b := [32]) (by simp) (by decide)
  rw [e, split_lt hw h, List.map_map]
  rfl
theorem split_ls {w : Nat} {ls : List Ln} (h : okC w ls) : (Txt.split (st (ct w ls)) (Str.ofString "\n")).map D.str = .str (st (wT w)) :: lnsD ls := by
  have e : Txt.split (st (ct w ls)) (Str.ofString "\n") = (TL.spl [10] 0 [] (ct w ls)).map st := SX.split_S (b := [10]) (by simp) (by decide)
  rw [e, split_ct h, List.map_cons, List.map_cons, List.map_map, List.map_map]
  rfl
theorem int_of {a : Nat} (h : a < 4) : PySem.intText? (st [48 + a]) = some ((a : Nat) : Int) := by
  have : ∀ a < 4, PySem.intText? (st [48 + a]) = some ((a : Nat) : Int) := by decide +kernel
  exact this a h
theorem decs (L M : List Nat) : decide (st L = st M) = decide (L = M) := decide_eq_decide.mpr st_inj
section
variable {P : Program} {w : World} {K : PySem.W.Frag} {mg : Str → Option Value} {base : Heap} {f C aS aT aW aA aP : Addr} {fd : FuncData}
theorem ok_rturn (F : Fun K "_read_turn" "_read_turn" sTurn f fd) (T : TM mg) (Z : TG w K mg aS aT aW aA aP) (T2 : TC K mg C) (ca : Cf P w K mg base 2 "_is_about" [] rIsAbout) (ci : Ci P w K mg base 2 C "Word" [] (rInit C)) (cn_ : Cf P w K mg base 1 "is_name" [] rName) (cas : Cf P w K mg base 2 "ascending" [] rAsc) : FnOk P w K mg base (L2.CX P w) 4 f fd ["rest", "wires"] (spD K rTurn) := by
  refine fn_D (k := 3) F scTurn (fun ss μ r μ' h => by obtain ⟨_, _, _, _, _, _, rfl, _⟩ := h; rfl) ?_
  intro cdv A outer s0 H E N W ss μ r μ' g hA hR
  obtain ⟨n, s, L, ps, hn, hok, rfl, rfl, rfl⟩ := hR
  obtain ⟨hw, h1, h3, hnd, hps⟩ := hok
  obtain ⟨u3, hu3, ru3⟩ := Z.mkn
  obtain ⟨es, m, Dk⟩ := Z.kT
  have hl2 : (ps.flatMap fun p => [mt p.2, p.1]).length = 2 * ps.length := flat_len _ _ ps
  have hpl : (wsD (ps.flatMap fun p => [mt p.2, p.1])).length ≤ 100000 := by rw [List.length_map, hl2]; omega
  have ev : evens (wsD (ps.flatMap fun p => [mt p.2, p.1])) = ps.map fun p => .str (st (mt p.2)) := by
    have := evens_pairs (fun p : List Nat × Int => D.str (st (mt p.2))) (fun p => .str (st p.1)) ps
    rw [← this]
    congr 1
    simp [List.map_flatMap]
  have od : evens ((wsD (ps.flatMap fun p => [mt p.2, p.1])).drop 1) = ps.map fun p => .str (st p.1) := by
    have := evens_pairs' (fun p : List Nat × Int => D.str (st (mt p.2))) (fun p => .str (st p.1)) ps
    rw [← this]
    congr 2
    simp [List.map_flatMap]
  have hu : (uniqN (ps.map fun p => st p.1)).length = ps.length := by
    rw [show (ps.map fun p => st p.1) = (ps.map (·.1)).map st by simp [List.map_map, Function.comp_def], uniq_nodup (st_inj' hnd) (by simp; omega)]
    simp
  refine ⟨_, dss_skip (dt_w (dw_or (k := false) (k' := false) (dt_of (dt_cmp (de_callB (id := "len") (da_cons (de_var 0) da_nil) (c_lenL g) T.len (by decide +kernel)) de_int o_lt) ?c1) (fun _ => dw_or (k := false) (k' := false) (dt_of (dt_cmp (de_callB (id := "len") (da_cons (de_var 0) da_nil) (c_lenL g) T.len (by decide +kernel)) (de_bin de_int (de_bin de_int (de_glob hu3 ru3 (fun _ _ => .int 3)) (o_mul (.inl (by decide)))) o_add) o_gt) ?c2) (fun _ => dw_or1 (dt_of (dt_cmp (de_bin (de_callB (id := "len") (da_cons (de_var 0) da_nil) (c_lenL g) T.len (by decide +kernel)) de_int (o_mod (by decide))) de_int o_neI) ?c3)))))
    (dss_cons (ds_star 2 g (de_var 0) (dgs_cons (dg_name 2 g.nd) (dgs_cons (dg_name 3 g.nd) (dgs_last (dg_name 4 g.nd)))) ?l2 rfl) (cn
    (dss_cons (ds_par 5 6 g (da_cons (de_of (d' := .lst (ps.map fun p => .str (st (mt p.2)))) (de_even g (de_var 4) hpl) (congrArg D.lst ev)) (da_cons (de_of (d' := .lst (ps.map fun p => .str (st p.1))) (de_odd g (de_var 4) hpl) (congrArg D.lst od)) da_nil))) (cn
    (dss_skip (dt_w (dw_or (k := false) (k' := false) (dt_of (dt_cmp (de_var 3) de_str o_neS) ?c4) (fun _ => dw_or (k := false) (k' := false) (dt_not (dt_val (de_call g ca (da_cons (de_var 2) (da_cons (de_var 1) da_nil)) ⟨n, s, L, hn, hw, rfl, rfl, rfl⟩))) (fun _ => dw_or1 (dt_of (dt_not (dt_val (de_callB (id := "all") (da_cons (de_lc g [("many", 7)] (di_lst g (de_var 5)) (fun s H C cl fp => dg_name 7 g.nd) (of_maps (gd := fun p : List Nat × Int => D.str (st (mt p.2))) (fy := fun _ => .bl true) fun p hp => ⟨_, rfl, fun s H C cl fp N' hK g' => ?in1⟩) (ok := blkOk_by (by rfl)) (hds := by rw [List.length_map]; exact sz' (by omega))) da_nil) (c_allm (q := fun _ => true) g) T.all (by decide +kernel)))) ?c5)))))
    (dss_skip (dt_w (dw_or (k := false) (k' := false) (dt_of (dt_not (dt_val (de_callB (id := "all") (da_cons (de_lc g [("knob", 8)] (di_lst g (de_var 6)) (fun s H C cl fp => dg_name 8 g.nd) (of_maps (gd := fun p : List Nat × Int => D.str (st p.1)) (fy := fun _ => .bl true) fun p hp => ⟨_, rfl, fun s H C cl fp N' hK g' => de_call g' cn_ (da_cons (de_var 8) da_nil) ⟨p.1, (hps p hp).1, rfl, rfl, rfl⟩⟩) (ok := blkOk_by (by rfl)) (hds := by rw [List.length_map]; exact sz' (by omega))) da_nil) (c_allm (q := fun _ => true) g) T.all (by decide +kernel)))) ?c6) (fun _ => dw_or1 (dt_of (dt_cmp (de_lenSet (zs := ps.map fun p => st p.1) g (de_of (de_var 6) ?ls) (by rw [List.length_map]; omega) T.len T.set) (de_callB (id := "len") (da_cons (de_var 6) da_nil) (c_lenL g) T.len (by decide +kernel)) o_neI) ?c7))))
    (dss_cons (ds_set 9 (de_word g ci hw.okL hw.pm (de_of (de_var 2) (congrArg D.str (sgn_sgL L s).symm))) g.nd) (cn
    (dss_cons (ds_set 10 (de_call (r := .v (.p (.tup ((formF ps).map Dl.pairD)))) g cas (da_cons (s := .p (.lst ((ps.map pairS).map Dl.pairD))) (de_of (de_lc g [("many", 7), ("knob", 8)] (di_of (di_zip g (da_cons (de_var 5) (da_cons (de_var 6) da_nil)) (.lst _) (.lst _) T.zip) (zip_self _ _ ps)) (fun s H C cl fp => dg_tup (dgs_cons (dg_name 7 g.nd) (dgs_cons (dg_name 8 g.nd) dgs_nil)) g.hK g.calm) (of_maps (gd := fun p : List Nat × Int => D.tup [.str (st (mt p.2)), .str (st p.1)]) (fy := fun p => Dl.pairD (pairS p)) fun p hp => ⟨_, rfl, fun s H C cl fp N' hK g' => ?el⟩) (ok := blkOk_by (by rfl)) (hds := by rw [List.length_map]; exact sz' (by omega))) ?ec) da_nil) (.inr ⟨rfl, ps.map pairS, ?oks, by rw [List.length_map]; omega, rfl, rfl⟩)) g.nd) (cn
    (dss_ret (de_tup (dp_cons de_str (dp_cons (de_fld (de_var 9) g T2.ci.cl T2.nL) (dp_cons (de_fld (de_var 9) g T2.ci.cl T2.nS) (dp_cons (de_var 10) dp_nil)))))))))))))))), .rt⟩
  case c1 => exact decide_eq_false (by show ¬ ((((wsD ((lw (.tn s L ps)).drop 1)).length : Nat) : Int) < 4); simp only [lw, List.drop_succ_cons, List.drop_zero, List.length_map, List.length_cons, hl2]; omega)
  case c2 => exact decide_eq_false (by show ¬ (2 + 2 * 3 < (((wsD ((lw (.tn s L ps)).drop 1)).length : Nat) : Int)); simp only [lw, List.drop_succ_cons, List.drop_zero, List.length_map, List.length_cons, hl2]; omega)
  case c3 =>
    show (!decide ((((wsD ((lw (.tn s L ps)).drop 1)).length : Nat) : Int) % 2 = 0)) = false
    rw [decide_eq_true (by simp only [lw, List.drop_succ_cons, List.drop_zero, List.length_map, List.length_cons, hl2]; omega)]
    rfl
  case l2 => simp [lw]
  case c4 => decide +kernel
  case in1 =>
    obtain ⟨u, hu1, hu2⟩ := Z.nT p.2 (hps p hp).2
    exact de_cmp (de_var 7) (de_glob (v := .ref aT) Z.gT rfl (fun _ _ => .adr _)) (o_inKd (r := some u) Dk hu1)
  case c5 => simp
  case c6 => simp
  case ls => rw [List.map_map]; rfl
  case c7 =>
    rw [hu, List.length_map]
    simp
  case el =>
    obtain ⟨u, hu1, hu2⟩ := Z.nT p.2 (hps p hp).2
    exact de_tup (dp_cons (de_var 8) (dp_cons (de_kdIx Dk (de_glob (v := .ref aT) Z.gT rfl (fun _ _ => .adr _)) (de_var 7) hu1 hu2 (fun _ _ => .int _)) dp_nil)) (sz (by show 2 ≤ 100000; decide))
  case ec => rw [List.map_map]; rfl
  case oks =>
    intro x hx
    obtain ⟨p, hp, rfl⟩ := List.mem_map.mp hx
    exact okP_nm (hps p hp).1
end
end K20
set_option Elab.async false
set_option linter.all false
set_option maxRecDepth 100000
set_option maxHeartbeats 4000000
set_option autoImplicit false
namespace K20
open PySem PySem.Spec PyProof.Rows L2 Dl Cq
def bodyOf (s : Stmt) (i : Nat) : List Stmt := match (defBody s).getD i (.Pass ⟨0, 0, 0, 0⟩) with
  | .For _ _ b _ _ => b
  | _ => []
def cntT (ls : List Ln) : Nat := (ls.filter isT).length
theorem cnt_snoc (ls : List Ln) (l : Ln) : cntT (ls ++ [l]) = cntT ls + (if isT l then 1 else 0) := by
  unfold cntT
  rw [List.filter_append, List.length_append]
  congr 1
  rw [List.filter_cons]
  split <;> rfl
theorem cnt_le {ls done rest : List Ln} (h : ls = done ++ rest) : cntT done ≤ cntT ls := by
  subst h
  unfold cntT
  rw [List.filter_append, List.length_append]
  omega
theorem isNon_stp (l : Ln) : Dl.isNon (stpD l) = false := by cases l <;> rfl
section
variable {P : Program} {w : World} {K : PySem.W.Frag} {mg : Str → Option Value} {base : Heap} {f C aS aT aW aA aP : Addr} {fd : FuncData}
theorem ok_readl (F : Fun K "read_line" "read_line" sReadL f fd) (T : TM mg) (Z : TG w K mg aS aT aW aA aP) (ct_ : Cf P w K mg base 4 "_read_turn" [] rTurn) (ca : Cf P w K mg base 4 "_read_about" [] rAbout) (cw : Cf P w K mg base 1 "_are_wires" [] rWires) : FnOk P w K mg base (L2.CX P w) 5 f fd ["line", "wires"] (spD K rReadL) := by
  refine fn_D (k := 4) F scReadL (fun ss μ r μ' h => by obtain ⟨_, _, _, _, _, rfl, _⟩ := h; rfl) ?_
  intro cdv A outer s0 H E N W ss μ r μ' g hA hR
  obtain ⟨n, l, h1, h4, hok, rfl, rfl, rfl⟩ := hR
  have hlen := lt_len hok
  have hs := split_is h4 hok
  have hz : (st (lt l)).length + 2 ≤ sizeLine := by rw [st_len]; exact sz (by omega)
  cases l with
  | ab q s L =>
    have hn : ∀ z, z ≠ (if q = true then wQuarter else wFlip) → decide (st (if q = true then wQuarter else wFlip) = st z) = false := fun z hz => st_no (Ne.symm hz)
    exact ⟨_, dss_skip (dt_not (dt_val (de_callB (id := "isinstance") (da_cons (de_var 0) (da_cons (de_ty T.str (by decide +kernel)) da_nil)) (c_isi g (.str _) (.ty _) kit_same) T.isinstance (by decide +kernel))))
      (dss_cons (ds_star 1 g (de_of (d' := .lst (wsD (lw (.ab q s L)))) (de_bm PySem.F.plainAttrs_str PySem.F.slot_str_split PySem.F.type_str_split (de_var 0) (da_cons de_str da_nil) (m_split (by decide) hz)) (congrArg D.lst hs)) (dgs_cons (dg_name 2 g.nd) (dgs_last (dg_name 3 g.nd))) (by simp [lw]) rfl) (cn
      (dss_skip (dt_of (dt_cmp (de_var 2) de_str o_eqS) (hn wTurn (by cases q <;> decide)))
      (dss_ifT (dt_of (dt_cmp (de_var 2) (de_globT g Z.gA Z.tA.sq) (o_inStrT g)) (decide_eq_true (by cases q <;> simp))) (dss_ret (de_call g ca (da_cons (de_var 2) (da_cons (de_var 3) (da_cons (de_var 1) da_nil))) ⟨n, q, s, L, h4, hok, rfl, rfl, rfl⟩)) cr)))), .rt⟩
  | h a =>
    have ha : a < n := hok
    exact ⟨_, dss_skip (dt_not (dt_val (de_callB (id := "isinstance") (da_cons (de_var 0) (da_cons (de_ty T.str (by decide +kernel)) da_nil)) (c_isi g (.str _) (.ty _) kit_same) T.isinstance (by decide +kernel))))
      (dss_cons (ds_star 1 g (de_of (d' := .lst (wsD (lw (.h a)))) (de_bm PySem.F.plainAttrs_str PySem.F.slot_str_split PySem.F.type_str_split (de_var 0) (da_cons de_str da_nil) (m_split (by decide) hz)) (congrArg D.lst hs)) (dgs_cons (dg_name 2 g.nd) (dgs_last (dg_name 3 g.nd))) (by simp [lw]) rfl) (cn
      (dss_skip (dt_of (dt_cmp (de_var 2) de_str o_eqS) (by decide +kernel))
      (dss_skip (dt_of (dt_cmp (de_var 2) (de_globT g Z.gA Z.tA.sq) (o_inStrT g)) (by decide +kernel))
      (dss_ifT (dt_w (k := true) (dw_and (k := true) (k' := true) (dt_of (dt_cmp (de_var 2) de_str o_eqS) (by decide +kernel)) (fun _ => dw_and (k := true) (k' := true) (dt_of (dt_cmp (de_callB (id := "len") (da_cons (de_var 3) da_nil) (c_lenL g) T.len (by decide +kernel)) de_int o_eqI) rfl) (fun _ => dw_and1 (dt_val (de_call g cw (da_cons (de_var 3) (da_cons (de_var 1) da_nil)) ⟨n, [a], h1, h4, by simp, by simp, by simpa using ha, rfl, rfl, rfl⟩)))))) (dss_ret (de_tup (dp_cons (de_var 2) (dp_cons (de_callT (T := "int") (da_cons (de_ix (de_var 3) de_int (i_lst g rfl)) da_nil) (c_intT (int_of (by omega)) (by show 1 ≤ 640; decide)) T.int (by decide +kernel)) dp_nil)))) cr))))), .rt⟩
  | pr k a b =>
    obtain ⟨hk, ha, hb, hab⟩ := id hok
    have hpn : ∀ z, (∀ k < 3, z ≠ pn k) → decide (st (pn k) = st z) = false := fun z hz => st_no (Ne.symm (hz k hk))
    have hk3 : k = 0 ∨ k = 1 ∨ k = 2 := by omega
    exact ⟨_, dss_skip (dt_not (dt_val (de_callB (id := "isinstance") (da_cons (de_var 0) (da_cons (de_ty T.str (by decide +kernel)) da_nil)) (c_isi g (.str _) (.ty _) kit_same) T.isinstance (by decide +kernel))))
      (dss_cons (ds_star 1 g (de_of (d' := .lst (wsD (lw (.pr k a b)))) (de_bm PySem.F.plainAttrs_str PySem.F.slot_str_split PySem.F.type_str_split (de_var 0) (da_cons de_str da_nil) (m_split (by decide) hz)) (congrArg D.lst hs)) (dgs_cons (dg_name 2 g.nd) (dgs_last (dg_name 3 g.nd))) (by simp [lw]) rfl) (cn
      (dss_skip (dt_of (dt_cmp (de_var 2) de_str o_eqS) (hpn wTurn (by decide)))
      (dss_skip (dt_of (dt_cmp (de_var 2) (de_globT g Z.gA Z.tA.sq) (o_inStrT g)) (by rcases hk3 with rfl | rfl | rfl <;> decide +kernel))
      (dss_skip (dt_w (k := false) (dw_and (k := false) (k' := true) (dt_of (dt_cmp (de_var 2) de_str o_eqS) (hpn [104] (by decide))) (fun h => by cases h)))
      (dss_ifT (dt_w (k := true) (dw_and (k := true) (k' := true) (dt_of (dt_cmp (de_var 2) (de_globT g Z.gP Z.tP.sq) (o_inStrT g)) (decide_eq_true (by rcases hk3 with rfl | rfl | rfl <;> simp))) (fun _ => dw_and (k := true) (k' := true) (dt_of (dt_cmp (de_callB (id := "len") (da_cons (de_var 3) da_nil) (c_lenL g) T.len (by decide +kernel)) de_int o_eqI) rfl) (fun _ => dw_and1 (dt_val (de_call g cw (da_cons (de_var 3) (da_cons (de_var 1) da_nil)) ⟨n, [a, b], h1, h4, by simp, by simpa using hab, by simpa using ⟨ha, hb⟩, rfl, rfl, rfl⟩)))))) (dss_ret (de_tup (dp_cons (de_var 2) (dp_cons (de_callT (T := "int") (da_cons (de_ix (de_var 3) de_int (i_lst g rfl)) da_nil) (c_intT (int_of (by omega)) (by show 1 ≤ 640; decide)) T.int (by decide +kernel)) (dp_cons (de_callT (T := "int") (da_cons (de_ix (de_var 3) de_int (i_lst g rfl)) da_nil) (c_intT (int_of (by omega)) (by show 1 ≤ 640; decide)) T.int (by decide +kernel)) dp_nil))))) cr)))))), .rt⟩
  | tn s L ps =>
    exact ⟨_, dss_skip (dt_not (dt_val (de_callB (id := "isinstance") (da_cons (de_var 0) (da_cons (de_ty T.str (by decide +kernel)) da_nil)) (c_isi g (.str _) (.ty _) kit_same) T.isinstance (by decide +kernel))))
      (dss_cons (ds_star 1 g (de_of (d' := .lst (wsD (lw (.tn s L ps)))) (de_bm PySem.F.plainAttrs_str PySem.F.slot_str_split PySem.F.type_str_split (de_var 0) (da_cons de_str da_nil) (m_split (by decide) hz)) (congrArg D.lst hs)) (dgs_cons (dg_name 2 g.nd) (dgs_last (dg_name 3 g.nd))) (by simp [lw]) rfl) (cn
      (dss_ifT (dt_of (dt_cmp (de_var 2) de_str o_eqS) (by decide +kernel)) (dss_ret (de_call g ct_ (da_cons (de_var 3) (da_cons (de_var 1) da_nil)) ⟨n, s, L, ps, h4, hok, rfl, rfl, rfl⟩)) cr))), .rt⟩
abbrev rcN : List Str := ["text", "first", "lines", "wires", "steps", "turns", "number", "line", "step"]
theorem ok_readc (F : Fun K "read_circuit" "read_circuit" sReadC f fd) (T : TM mg) (Z : TG w K mg aS aT aW aA aP) (cr_ : Cf P w K mg base 5 "read_line" [] rReadL) (ci : Cf P w K mg base 1 "is_turn" [] rIsTurn) : FnOk P w K mg base (L2.CX P w) 6 f fd ["text"] (spD K rReadC) := by
  refine fn_D (k := 5) F scReadC (fun ss μ r μ' h => by obtain ⟨_, _, _, rfl, _⟩ := h; rfl) ?_
  intro cdv A outer s0 H E N W ss μ r μ' g hA hR
  obtain ⟨n, ls, hok, rfl, rfl, rfl⟩ := hR
  obtain ⟨u1, hu1, ru1⟩ := Z.mtn
  obtain ⟨u2, hu2, ru2⟩ := Z.mln
  obtain ⟨es, m, Dk⟩ := Z.kS
  obtain ⟨u3, hu3, ru3⟩ := Z.nS n hok.w1 hok.w4
  have hlen := ct_len hok
  have hz : (st (ct n ls)).length + 2 ≤ sizeLine := by rw [st_len]; exact sz (by omega)
  have hs := split_ls hok
  have go : ∀ (rest done : List Ln) (δ : List (Option S)), ls = done ++ rest → (∃ x6 x7 x8, δ = [some (.p (.str (st (ct n ls)))), some (.p (.str (st (wT n)))), some (.p (.lst (lnsD ls))), some (.p (.int (n : Nat))), some (.l μ'.length), some (.p (.int (cntT done : Nat))), x6, x7, x8]) →
      ∃ δ', Loop (cxOf (L2.CX P w) P w K mg base rcN "read_circuit" (defScope sReadC) f cdv A outer s0 H E) N W (asTup [asName 6, asName 7]) (bodyOf sReadC 6) (enumD done.length (lnsD rest)) δ (μ' ++ [.lst (done.map stpD)]) (.nx δ' (μ' ++ [.lst (ls.map stpD)])) ∧ (∃ x5 x6 x7 x8, δ' = [some (.p (.str (st (ct n ls)))), some (.p (.str (st (wT n)))), some (.p (.lst (lnsD ls))), some (.p (.int (n : Nat))), some (.l μ'.length), x5, x6, x7, x8]) := by
    intro rest
    induction rest with
    | nil =>
      rintro done _ he ⟨x6, x7, x8, rfl⟩
      rw [List.append_nil] at he
      subst he
      exact ⟨_, .nil, _, _, _, _, rfl⟩
    | cons l rest ih =>
      rintro done _ he ⟨x6, x7, x8, rfl⟩
      have hl : okLn n l := hok.ok l (by rw [he]; simp)
      have he' : ls = (done ++ [l]) ++ rest := by rw [he]; simp
      have hc := cnt_snoc done l
      have hc2 := cnt_le he'
      have h6 : cntT ls ≤ 6 := hok.six
      have hd : done.length < 40 := by have := hok.len; rw [he] at this; simp at this; omega
      obtain ⟨δ', h1, h2⟩ := ih (done ++ [l]) [some (.p (.str (st (ct n ls)))), some (.p (.str (st (wT n)))), some (.p (.lst (lnsD ls))), some (.p (.int (n : Nat))), some (.l μ'.length), some (.p (.int (cntT (done ++ [l]) : Nat))), some (.p (.int (done.length : Nat))), some (.p (.str (st (lt l)))), some (.p (stpD l))] he' ⟨_, _, _, rfl⟩
      refine ⟨δ', ?_, h2⟩
      rw [show (done ++ [l]).length = done.length + 1 by simp] at h1
      refine .next rfl ?_ h1
      have e1 : μ' ++ [M.lst ((done ++ [l]).map stpD)] = (μ' ++ [M.lst (done.map stpD)]).set μ'.length (.lst (done.map stpD ++ [stpD l])) := by rw [end_set rfl, List.map_append]; rfl
      have tail : ∀ (c : Nat), c = cntT (done ++ [l]) → DSs (cxOf (L2.CX P w) P w K mg base rcN "read_circuit" (defScope sReadC) f cdv A outer s0 H E) N W [some (.p (.str (st (ct n ls)))), some (.p (.str (st (wT n)))), some (.p (.lst (lnsD ls))), some (.p (.int (n : Nat))), some (.l μ'.length), some (.p (.int (c : Nat))), some (.p (.int (done.length : Nat))), some (.p (.str (st (lt l)))), some (.p (stpD l))] (μ' ++ [.lst (done.map stpD)]) ((bodyOf sReadC 6).drop 2) (.nx [some (.p (.str (st (ct n ls)))), some (.p (.str (st (wT n)))), some (.p (.lst (lnsD ls))), some (.p (.int (n : Nat))), some (.l μ'.length), some (.p (.int (cntT (done ++ [l]) : Nat))), some (.p (.int (done.length : Nat))), some (.p (.str (st (lt l)))), some (.p (stpD l))] (μ' ++ [.lst ((done ++ [l]).map stpD)])) := by
        rintro c rfl
        rw [e1]
        exact dss_skip (dt_w (dw_or (k := false) (k' := false) (dt_of (dt_cmp (de_var 8) de_non o_isN) (isNon_stp l)) (fun _ => dw_or (k := false) (k' := false) (dt_of (dt_cmp (de_var 5) (de_glob hu1 ru1 (fun _ _ => .int 6)) o_gt) (decide_eq_false (by omega))) (fun _ => dw_or1 (dt_of (dt_cmp (de_var 6) (de_glob hu2 ru2 (fun _ _ => .int 40)) o_eqI) (decide_eq_false (by omega)))))))
          (dss_cons (ds_expr (de_bm PySem.F.plainAttrs_list PySem.F.slot_list_append PySem.F.type_list_append (de_var 4) (da_cons (de_var 8) da_nil) (m_append (end_at rfl) (end_at rfl) (by rw [List.length_map]; exact sz' (by omega))))) (cn dss_nil))
      have hcond : ∀ b, isT l = b → DT (cxOf (L2.CX P w) P w K mg base rcN "read_circuit" (defScope sReadC) f cdv A outer s0 H E) N W [some (.p (.str (st (ct n ls)))), some (.p (.str (st (wT n)))), some (.p (.lst (lnsD ls))), some (.p (.int (n : Nat))), some (.l μ'.length), some (.p (.int (cntT done : Nat))), some (.p (.int (done.length : Nat))), some (.p (.str (st (lt l)))), some (.p (stpD l))] (μ' ++ [.lst (done.map stpD)]) (match (bodyOf sReadC 6).getD 1 (.Pass ⟨0, 0, 0, 0⟩) with | .If c _ _ _ => c | _ => .Constant .none 0 ⟨0, 0, 0, 0⟩) b (μ' ++ [.lst (done.map stpD)]) := by
        rintro b rfl
        exact dt_of (dt_w (dw_and (k := true) (k' := isT l) (dt_of (dt_cmp (de_var 8) de_non o_notN) (by rw [isNon_stp]; rfl)) (fun _ => dw_and1 (dt_val (de_call g ci (da_cons (de_var 8) da_nil) ⟨l, rfl, rfl, rfl⟩))))) (Bool.true_and _)
      cases hT : isT l with
      | true =>
        rw [hT, if_pos rfl] at hc
        exact dss_cons (ds_set 8 (de_call g cr_ (da_cons (de_var 7) (da_cons (de_var 3) da_nil)) ⟨n, l, hok.w1, hok.w4, hl, rfl, rfl, rfl⟩) g.nd) (cn (dss_ifT (hcond true hT) (dss_cons (ds_inc 5 de_int rfl g.nd) (cn dss_nil)) (cn (by
          have := tail (cntT done + 1) hc.symm
          rw [Int.natCast_add] at this
          exact this))))
      | false =>
        rw [hT, if_neg (by decide)] at hc
        exact dss_cons (ds_set 8 (de_call g cr_ (da_cons (de_var 7) (da_cons (de_var 3) da_nil)) ⟨n, l, hok.w1, hok.w4, hl, rfl, rfl, rfl⟩) g.nd) (cn (dss_skip (hcond false hT) (tail (cntT done) (by omega))))
  obtain ⟨δ', hl, x5, x6, x7, x8, rfl⟩ := go ls [] [some (.p (.str (st (ct n ls)))), some (.p (.str (st (wT n)))), some (.p (.lst (lnsD ls))), some (.p (.int (n : Nat))), some (.l μ'.length), some (.p (.int (0 : Nat))), none, none, none] rfl ⟨_, _, _, rfl⟩
  refine ⟨_, dss_skip (dt_not (dt_val (de_callB (id := "isinstance") (da_cons (de_var 0) (da_cons (de_ty T.str (by decide +kernel)) da_nil)) (c_isi g (.str _) (.ty _) kit_same) T.isinstance (by decide +kernel))))
    (dss_cons (ds_star 1 g (de_of (d' := .lst (.str (st (wT n)) :: lnsD ls)) (de_bm PySem.F.plainAttrs_str PySem.F.slot_str_split PySem.F.type_str_split (de_var 0) (da_cons de_str da_nil) (m_split (by decide) hz)) (congrArg D.lst hs)) (dgs_cons (dg_name 1 g.nd) (dgs_last (dg_name 2 g.nd))) (by simp) rfl) (cn
    (dss_skip (dt_cmp (de_var 1) (de_glob (v := .ref aS) Z.gS rfl (fun _ _ => .adr _)) (o_notInKd (r := some u3) Dk hu3))
    (dss_cons (ds_set 3 (de_kdIx Dk (de_glob (v := .ref aS) Z.gS rfl (fun _ _ => .adr _)) (de_var 1) hu3 ru3 (fun _ _ => .int _)) g.nd) (cn
    (dss_cons (ds_set 4 (de_lstM dp_nil) g.nd) (cn
    (dss_cons (ds_set 5 de_int g.nd) (cn
    (dss_cons (ds_for g (di_enum g (da_cons (de_var 2) da_nil) T.enum) (dg_tup (dgs_cons (dg_name 6 g.nd) (dgs_cons (dg_name 7 g.nd) dgs_nil)) g.hK g.calm) (by exact hl)) (cn
    (dss_freeze (end_at rfl) (by omega) 4 rfl
    (dss_ret (de_tup (dp_cons (de_var 3) (dp_cons (de_callT (T := "tuple") (da_cons (de_var 2) da_nil) c_tupL T.tuple (by decide +kernel)) (dp_cons (de_callT (T := "tuple") (da_cons (de_var 4) da_nil) c_tupL T.tuple (by decide +kernel)) dp_nil))))))))))))))))), ?_⟩
  rw [end_set rfl]
  have e2 : (μ' ++ [M.gone]).take μ'.length = μ' := by simp
  conv => rhs; rw [← e2]
  exact .rtT (Nat.le_refl _)
end
end K20
set_option Elab.async false
set_option linter.all false
set_option maxRecDepth 100000
set_option maxHeartbeats 4000000
set_option autoImplicit false
namespace Cq
open PySem PySem.Spec PyProof.Rows L2 Dl
/-! ## what a text begins with -/
/-! ## contrary lines -/
/-! ## circuits out of circuits -/
theorem okC.sub {w : Nat} {ls ms : List Ln} (h : okC w ls) (q : ms.Sublist ls) : okC w ms :=
  ⟨h.w1, h.w4, fun l hl => h.ok l (q.subset hl), Nat.le_trans q.length_le h.len, Nat.le_trans (q.filter _).length_le h.six⟩
theorem join_ct (w : Nat) (ls : List Ln) : Txt.join (Str.ofString "\n") ((wT w :: ls.map lt).map st) = st (ct w ls) := SX.join_S [10] _
theorem sum_len : ∀ (ws : List (List Nat)) (m : Nat), (∀ v ∈ ws, v.length ≤ m) → ((ws.map st).map (·.length)).sum ≤ ws.length * m
  | [], m, _ => Nat.zero_le _
  | v :: ws, m, h => by
    have := sum_len ws m fun x hx => h x (by simp [hx])
    have h0 := h v (by simp)
    rw [List.map_cons, List.map_cons, List.sum_cons, List.length_cons, Nat.succ_mul, st_len]
    omega
theorem ct_sum {w : Nat} {ls : List Ln} (h : okC w ls) : (((wT w :: ls.map lt).map st).map (·.length)).sum + ((wT w :: ls.map lt).map st).length * (Str.ofString "\n").length ≤ 16777216 := by
  have h1 := sum_len (wT w :: ls.map lt) 81 (fun v hv => by
    rcases List.mem_cons.mp hv with rfl | hv
    · show 7 ≤ 81; decide
    · obtain ⟨l, hl, rfl⟩ := List.mem_map.mp hv
      exact lt_len (h.ok l hl))
  have h2 : (wT w :: ls.map lt).length ≤ 41 := by have := h.len; simp; omega
  have h3 : (wT w :: ls.map lt).length * 81 ≤ 41 * 81 := Nat.mul_le_mul_right _ h2
  rw [List.length_map, show (Str.ofString "\n").length = 1 from rfl, Nat.mul_one]
  omega
/-- numbers of lines that are turns, in a comprehension over enumerate -/
theorem of_enum {X : Cx} {K : PySem.W.Frag} {nn : Nat} {scope : Scope} {c elt : Expr} {f : As} {δ : List (Option S)} {μ : List M} {gd : Ln → D} {fy : Nat → D} : ∀ {l : List Ln} (k : Nat), (∀ a ∈ l, ∀ i : Nat, ∃ δt, f (.tup [.int ((i : Nat) : Int), gd a]) δ = some δt ∧ DTB X K nn scope c δt μ (isT a) μ ∧ (isT a = true → DEB X K nn scope elt δt μ (fy i) μ)) → CmpL (El1 X K nn scope c elt) f δ (enumD k (l.map gd)) μ ((turnsG k l).map fy) μ
  | [], k, _ => .nil
  | a :: l, k, h => by
    obtain ⟨δt, h1, h2, h3⟩ := h a (by simp) k
    have ih := of_enum (l := l) (fy := fy) (k + 1) fun b hb => h b (by simp [hb])
    show CmpL _ f δ (.tup [.int ((k : Nat) : Int), gd a] :: enumD (k + 1) (l.map gd)) μ _ μ
    unfold turnsG
    cases hq : isT a with
    | true =>
      rw [hq] at h2
      exact .keep h1 ⟨μ, h2, h3 hq⟩ ih
    | false =>
      rw [hq] at h2
      exact .drop h1 ⟨μ, h2, rfl⟩ ih
/-! ## knobs and turns of the contrary circuit -/
end Cq
set_option Elab.async false
set_option linter.all false
set_option maxRecDepth 100000
set_option maxHeartbeats 4000000
set_option autoImplicit false
namespace K20
open PySem PySem.Spec PyProof.Rows L2 Dl Cq
theorem scCInit : FnScope ["self", "text", "wires", "lines", "steps", "step", "knob", "many", "number"] ["self", "text"] (defScope sCInit) := ⟨rfl, rfl, rfl, by decide +kernel, rfl, by decide +kernel, by decide +kernel⟩
theorem scCText : FnScope ["self"] ["self"] (defScope sCText) := ⟨rfl, rfl, rfl, by decide +kernel, rfl, by decide +kernel, by decide +kernel⟩
structure TKc (K : PySem.W.Frag) (mg : Str → Option Value) (C : Addr) : Prop where
  ci : ClsI K C
  n1 : NoAttr K C "_text"
  n2 : NoAttr K C "_lines"
  n3 : NoAttr K C "steps"
  n4 : NoAttr K C "wires"
  n5 : NoAttr K C "knobs"
  n6 : NoAttr K C "turns"
  at_ : mg "Circuit" = some (.ref C)
abbrev cV (n : Nat) (ls : List Ln) : List D := [.str (st (ct n ls)), .tup (lnsD ls), .tup (ls.map stpD), .int (n : Nat), .tup ((knobsF ls).map D.str), .tup ((turnsF ls).map fun i => .int ((i : Nat) : Int))]
def rCInit (CC : Addr) : Rel := fun ss μ r μ' => ∃ (j n : Nat) (ls : List Ln), okC n ls ∧ ss = [.l j, .p (.str (st (ct n ls)))] ∧ μ[j]? = some (.obj CC [] []) ∧ r = .v (.p .non) ∧ μ' = μ.set j (.obj CC cF (cV n ls))
def rCText (CC : Addr) : Rel := fun ss μ r μ' => ∃ (n : Nat) (ls : List Ln), ss = [.p (circD CC n ls)] ∧ r = .v (.p (.str (st (ct n ls)))) ∧ μ' = μ
section
variable {P : Program} {w : World} {K : PySem.W.Frag} {mg : Str → Option Value} {base : Heap} {f C CC CL CM CO aS aT aW aA aP : Addr} {fd : FuncData}
theorem ok_cinit (F : Fun K "__init__" "Circuit.__init__" sCInit f fd) (T : TM mg) (TK : TKc K mg CC) (cr_ : Cf P w K mg base 6 "read_circuit" [] rReadC) (ci : Cf P w K mg base 1 "is_turn" [] rIsTurn) (cas : Cf P w K mg base 2 "ascending" [] rAsc) : FnOk P w K mg base (L2.CX P w) 7 f fd ["self", "text"] (spD K (rCInit CC)) := by
  refine fn_D (k := 6) F scCInit (fun ss μ r μ' h => by obtain ⟨_, _, _, _, rfl, _⟩ := h; rfl) ?_
  intro cdv A0 outer s0 H E N W ss μ r μ' g hA hR
  obtain ⟨j, n, ls, hok, rfl, hj, rfl, rfl⟩ := hR
  have hj2 : ∀ x, (μ.set j x)[j]? = some x := fun x => List.getElem?_set_self (List.getElem?_eq_some_iff.mp hj).1
  have hll : ls.length ≤ 40 := hok.len
  have hkl := knobs_len hok.ok
  have h6 := hok.six
  refine ⟨_, dss_cons (ds_asg (de_call g cr_ (da_cons (de_var 1) da_nil) ⟨n, ls, hok, rfl, rfl, rfl⟩) (dg_tup (dgs_cons (dg_name 2 g.nd) (dgs_cons (dg_name 3 g.nd) (dgs_cons (dg_name 4 g.nd) dgs_nil))) g.hK g.calm) rfl) (cn
    (dss_cons (ds_fldNew (de_var 1) (de_var 0) TK.ci.cl TK.n1 hj) (cn
    (dss_cons (ds_fldNew (de_var 3) (de_var 0) TK.ci.cl TK.n2 (hj2 _)) (cn
    (dss_cons (ds_fldNew (de_var 4) (de_var 0) TK.ci.cl TK.n3 (by simp only [List.set_set]; exact hj2 _)) (cn
    (dss_cons (ds_fldNew (de_var 2) (de_var 0) TK.ci.cl TK.n4 (by simp only [List.set_set]; exact hj2 _)) (cn
    (dss_cons (ds_fldNew (de_call (r := .v (.p (.tup ((knobsF ls).map D.str)))) g cas (da_cons (s := .p (.lst ((ls.flatMap formK).map D.str))) (de_of (de_lc2If isTD esT (fun _ e => fstD e) g [("step", 5), ("knob", 6), ("many", 7)] [6, 7] (di_tup g (de_var 4)) (fun s H C cl fp => dg_name 5 g.nd) (fun s H C cl fp => dg_tup (dgs_cons (dg_name 6 g.nd) (dgs_cons (dg_name 7 g.nd) dgs_nil)) g.hK g.calm) ?hf ?hz (ok := blkOk_by (by rfl))) (congrArg D.lst (flat_knobs ls))) da_nil) (.inl ⟨rfl, _, fun _ _ => trivial, by omega, rfl, rfl⟩)) (de_var 0) TK.ci.cl TK.n5 (by simp only [List.set_set]; exact hj2 _)) (cn
    (dss_cons (ds_fldNew (d := .tup ((turnsF ls).map fun i => .int ((i : Nat) : Int))) (de_callT (T := "tuple") (da_cons (de_lcIf g [("number", 8), ("step", 5)] (di_enumT g (da_cons (de_var 4) da_nil) T.enum) (fun s H C cl fp => dg_tup (dgs_cons (dg_name 8 g.nd) (dgs_cons (dg_name 5 g.nd) dgs_nil)) g.hK g.calm) (of_enum (fy := fun i => .int ((i : Nat) : Int)) 0 fun l hl i => ⟨_, rfl, fun s H C cl fp N' hK g' => dt_val (de_call g' ci (da_cons (de_var 5) da_nil) ⟨l, rfl, rfl, rfl⟩), fun _ => fun s H C cl fp N' hK g' => de_var 8⟩) (ok := blkOk_by (by rfl)) (hds := by rw [enumD_len, List.length_map]; exact sz' (by omega))) da_nil) c_tupL T.tuple (by decide +kernel)) (de_var 0) TK.ci.cl TK.n6 (by simp only [List.set_set]; exact hj2 _)) (cn dss_nil))))))))))))), ?_⟩
  case hz =>
    rw [flat_knobs, List.length_map]
    exact sz (by omega)
  case hf =>
    intro d hd
    obtain ⟨l, hl, rfl⟩ := List.mem_map.mp hd
    refine ⟨_, rfl, fun s H C cl fp N' hK g' => dt_of (dt_val (de_call g' ci (da_cons (de_var 5) da_nil) ⟨l, rfl, rfl, rfl⟩)) (isTD_stp l).symm, fun hb => ?_⟩
    rw [isTD_stp] at hb
    cases l with
    | tn s L ps =>
      refine ⟨fun s H C cl fp N' hK g' => di_tup g' (de_ix (de_var 5) de_int (i_tup (i := 3) g' rfl)), fun e he => ?_⟩
      obtain ⟨p, hp, rfl⟩ := List.mem_map.mp he
      exact ⟨_, rfl, fun s H C cl fp N' hK g' => de_var 6⟩
    | _ => cases hb
  · simp only [List.set_set]
    exact .nx
theorem ok_ctext (F : Fun K "text" "Circuit.text" sCText f fd) (TK : TKc K mg CC) : FnOk P w K mg base (L2.CX P w) 1 f fd ["self"] (spD K (rCText CC)) := by
  refine fn_D (k := 0) F scCText (fun ss μ r μ' h => by obtain ⟨_, _, rfl, _⟩ := h; rfl) ?_
  intro cdv A0 outer s0 H E N W ss μ r μ' g hA hR
  obtain ⟨n, ls, rfl, rfl, rfl⟩ := hR
  exact ⟨_, dss_ret (de_fld (de_var 0) g TK.ci.cl TK.n1), .rt⟩
end
end K20
set_option Elab.async false
set_option linter.all false
set_option maxRecDepth 100000
set_option maxHeartbeats 4000000
set_option autoImplicit false
namespace Cq
open PySem PySem.Spec PyProof.Rows L2 Dl
/-! # reading any text as a circuit -/
def nmB (L : List Nat) : Bool := decide (1 ≤ L.length) && decide (L.length ≤ 8) && L.all fun c => decide (97 ≤ c) && decide (c ≤ 122)
def letB (L : List Nat) : Bool := decide (1 ≤ L.length) && decide (L.length ≤ 4) && L.all fun c => decide (c ∈ IXYZ)
def offM (L : List Nat) : List Nat := if L.head? = some 45 then L.tail else L
def sgM (L : List Nat) : Int := if L.head? = some 45 then -1 else 1
def abB (w : Nat) (L : List Nat) : Bool := decide ((offM L).length = w) && letB (offM L) && !decide (offM L = List.replicate w 73)
def dgB (w : Nat) (L : List Nat) : Bool := (List.range w).any fun a => decide (L = [48 + a])
def dgV (L : List Nat) : Nat := L.headD 48 - 48
def wrB (w : Nat) (ts : List (List Nat)) : Bool := ts.all (dgB w) && decide ts.Nodup
def mnV (L : List Nat) : Option Int := manys.find? fun i => decide (mt i = L)
def rdT (w : Nat) (rest : List (List Nat)) : Option Ln :=
  if rest.length < 4 ∨ 8 < rest.length ∨ rest.length % 2 ≠ 0 then none else
  match rest with
  | about :: by_ :: pairs =>
    if by_ ≠ wBy ∨ abB w about = false ∨ ((evens pairs).all fun m => (mnV m).isSome) = false then none
    else if ((evens (pairs.drop 1)).all nmB) = false ∨ ¬ (evens (pairs.drop 1)).Nodup then none
    else some (.tn (sgM about) (offM about) ((evens (pairs.drop 1)).zip ((evens pairs).map fun m => (mnV m).getD 1)))
  | _ => none
def rdL (w : Nat) (line : List Nat) : Option Ln :=
  match TL.spl [32] 0 [] line with
  | name :: rest =>
    if name = wTurn then rdT w rest
    else if name = wFlip ∨ name = wQuarter then (match rest with
      | [t] => if abB w t = true then some (.ab (decide (name = wQuarter)) (sgM t) (offM t)) else none
      | _ => none)
    else if name = [104] ∧ rest.length = 1 ∧ wrB w rest = true then some (.h (dgV (rest.headD [])))
    else if (name = pn 0 ∨ name = pn 1 ∨ name = pn 2) ∧ rest.length = 2 ∧ wrB w rest = true then some (.pr (if name = pn 0 then 0 else if name = pn 1 then 1 else 2) (dgV (rest.headD [])) (dgV ((rest.drop 1).headD [])))
    else none
  | [] => none
/-- the number of the first line that no circuit has: the lines from the number k on, with turns before -/
def rdS (w : Nat) : Nat → Nat → List (List Nat) → List Ln → Nat ⊕ List Ln
  | _, _, [], done => .inr done
  | k, t, l :: ls, done =>
    match rdL w l with
    | none => .inl (k + 2)
    | some s =>
      if 6 < t + (if isT s then 1 else 0) ∨ k = 40 then .inl (k + 2)
      else rdS w (k + 1) (t + (if isT s then 1 else 0)) ls (done ++ [s])
def szV (first : List Nat) : Option Nat := [1, 2, 3, 4].find? fun w => decide (wT w = first)
def rdC (text : List Nat) : Nat ⊕ (Nat × List Ln) :=
  match TL.spl [10] 0 [] text with
  | first :: lines => (match szV first with
    | none => .inl 1
    | some w => (match rdS w 0 0 lines [] with
      | .inl k => .inl k
      | .inr ls => .inr (w, ls)))
  | [] => .inl 1
/-! ## what is read is what was written -/
theorem spl_ne (s : Nat) : ∀ (t acc : List Nat), TL.spl [s] 0 acc t ≠ []
  | [], acc => by rw [TL.spl_nil]; simp
  | c :: r, acc => by
    show (if TL.pre [s] (c :: r) = true then acc :: TL.spl [s] ([s].length - 1) [] r else TL.spl [s] 0 (acc ++ [c]) r) ≠ []
    split
    · simp
    · exact spl_ne s r _
theorem join_acc (s : Nat) : ∀ (t acc : List Nat), TL.joinL [s] (TL.spl [s] 0 acc t) = acc ++ t
  | [], acc => by rw [TL.spl_nil]; simp [TL.joinL]
  | c :: r, acc => by
    show TL.joinL [s] (if TL.pre [s] (c :: r) = true then acc :: TL.spl [s] ([s].length - 1) [] r else TL.spl [s] 0 (acc ++ [c]) r) = _
    by_cases h : c = s
    · subst h
      rw [if_pos (by unfold TL.pre; simp)]
      have ih := join_acc c r []
      have ne := spl_ne c r []
      show TL.joinL [c] (acc :: TL.spl [c] 0 [] r) = _
      cases hx : TL.spl [c] 0 [] r with
      | nil => exact absurd hx ne
      | cons x xs =>
        rw [hx] at ih
        show acc ++ ([c] ++ TL.joinL [c] (x :: xs)) = _
        rw [ih]
        rfl
    · rw [if_neg (by unfold TL.pre; simpa using h), join_acc s r (acc ++ [c])]
      simp
theorem joinL_spl (s : Nat) (t : List Nat) : TL.joinL [s] (TL.spl [s] 0 [] t) = t := join_acc s t []
theorem nmB_ok {L : List Nat} (h : nmB L = true) : okNm L := by
  unfold nmB at h
  simp only [Bool.and_eq_true, decide_eq_true_eq, List.all_eq_true] at h
  exact ⟨h.1.1, h.1.2, h.2⟩
theorem letB_ok {L : List Nat} (h : letB L = true) : okL L := by
  unfold letB at h
  simp only [Bool.and_eq_true, decide_eq_true_eq, List.all_eq_true] at h
  exact ⟨h.1.1, h.1.2, h.2⟩
theorem sg_back {L : List Nat} : sgL (offM L) (sgM L) = L := by
  by_cases h : L.head? = some 45
  · have e1 : offM L = L.tail := if_pos h
    have e2 : sgM L = -1 := if_pos h
    rw [e1, e2]
    cases L with
    | nil => cases h
    | cons a L =>
      cases (Option.some.inj h : a = 45)
      rfl
  · have e1 : offM L = L := if_neg h
    have e2 : sgM L = 1 := if_neg h
    rw [e1, e2]
    exact if_neg (by decide)
theorem abB_ok {w : Nat} {L : List Nat} (h : abB w L = true) : okWd w (sgM L) (offM L) := by
  unfold abB at h
  simp only [Bool.and_eq_true, decide_eq_true_eq, Bool.not_eq_true', decide_eq_false_iff_not] at h
  refine ⟨letB_ok h.1.2, ?_, h.1.1, h.2⟩
  unfold sgM
  split
  · exact .inr rfl
  · exact .inl rfl
theorem dgB_ok {w : Nat} {L : List Nat} (h : dgB w L = true) : dgV L < w ∧ L = [48 + dgV L] := by
  unfold dgB at h
  rw [List.any_eq_true] at h
  obtain ⟨a, ha, e⟩ := h
  have e := of_decide_eq_true e
  subst e
  have := List.mem_range.mp ha
  unfold dgV
  simp
  exact this
theorem mnV_ok {L : List Nat} (h : (mnV L).isSome = true) : (mnV L).getD 1 ∈ manys ∧ mt ((mnV L).getD 1) = L := by
  unfold mnV at *
  obtain ⟨i, e⟩ := Option.isSome_iff_exists.mp h
  rw [e]
  exact ⟨List.mem_of_find?_eq_some e, by have := List.find?_some e; simpa using this⟩
theorem pairs_back : ∀ (pairs : List (List Nat)), pairs.length % 2 = 0 → (∀ m ∈ evens pairs, (mnV m).isSome = true) →
    ((evens (pairs.drop 1)).zip ((evens pairs).map fun m => (mnV m).getD 1)).flatMap (fun p : List Nat × Int => [mt p.2, p.1]) = pairs ∧
    (((evens (pairs.drop 1)).zip ((evens pairs).map fun m => (mnV m).getD 1)).map (·.1)) = evens (pairs.drop 1) ∧
    ((evens (pairs.drop 1)).zip ((evens pairs).map fun m => (mnV m).getD 1)).length = pairs.length / 2 ∧ ∀ p ∈ (evens (pairs.drop 1)).zip ((evens pairs).map fun m => (mnV m).getD 1), p.2 ∈ manys
  | [], _, _ => ⟨rfl, rfl, rfl, fun _ h => by cases h⟩
  | [_], h, _ => by simp at h
  | [m, k], _, h => by
    obtain ⟨h1, h2⟩ := mnV_ok (h m (by simp [evens]))
    refine ⟨?_, rfl, by show 1 = 2 / 2; decide, fun p hp => ?_⟩
    · show [mt ((mnV m).getD 1), k] = [m, k]
      rw [h2]
    · rw [List.mem_singleton.mp (show p ∈ [(k, (mnV m).getD 1)] from hp)]
      exact h1
  | m :: k :: m2 :: r, he, h => by
    have ih := pairs_back (m2 :: r) (by simp at he ⊢; omega) fun x hx => h x (List.mem_cons_of_mem _ hx)
    obtain ⟨h1, h2⟩ := mnV_ok (h m (List.mem_cons_self ..))
    have e : evens ((m :: k :: m2 :: r).drop 1) = k :: evens ((m2 :: r).drop 1) := rfl
    have e2 : evens (m :: k :: m2 :: r) = m :: evens (m2 :: r) := rfl
    rw [e, e2, List.map_cons, List.zip_cons_cons]
    refine ⟨?_, ?_, ?_, fun p hp => ?_⟩
    · rw [List.flatMap_cons, ih.1]
      show [mt ((mnV m).getD 1), k] ++ (m2 :: r) = _
      rw [h2]
      rfl
    · rw [List.map_cons, ih.2.1]
    · rw [List.length_cons, ih.2.2.1]
      simp
      omega
    · rcases List.mem_cons.mp hp with rfl | hp
      · exact h1
      · exact ih.2.2.2 p hp
theorem rdT_ok {w : Nat} {rest : List (List Nat)} {l : Ln} (h : rdT w rest = some l) : okLn w l ∧ lw l = wTurn :: rest := by
  unfold rdT at h
  split at h
  · cases h
  · rename_i hlen
    split at h
    · rename_i about by_ pairs
      split at h
      · cases h
      · rename_i hb
        split at h
        · cases h
        · rename_i hk
          cases h
          simp only [not_or, Decidable.not_not, Bool.not_eq_false] at hb hk hlen
          obtain ⟨b1, b2, b3⟩ := hb
          rw [List.all_eq_true] at b3
          have hk1 := hk.1
          rw [List.all_eq_true] at hk1
          simp only [List.length_cons] at hlen
          obtain ⟨p1, p2, p3, p4⟩ := pairs_back pairs (by omega) b3
          refine ⟨⟨abB_ok b2, by rw [p3]; omega, by rw [p3]; omega, by rw [p2]; exact hk.2, fun p hp => ⟨?_, p4 p hp⟩⟩, ?_⟩
          · have := List.mem_map_of_mem (f := (·.1)) hp
            rw [p2] at this
            exact nmB_ok (hk1 _ this)
          · show wTurn :: sgL (offM about) (sgM about) :: wBy :: _ = _
            rw [sg_back, p1, ← b1]
    · cases h
theorem wrB_ok {w : Nat} {ts : List (List Nat)} (h : wrB w ts = true) : (∀ t ∈ ts, dgV t < w ∧ t = [48 + dgV t]) ∧ ts.Nodup := by
  unfold wrB at h
  rw [Bool.and_eq_true, List.all_eq_true, decide_eq_true_eq] at h
  exact ⟨fun t ht => dgB_ok (h.1 t ht), h.2⟩
theorem rdL_ok {w : Nat} {line : List Nat} {l : Ln} (h : rdL w line = some l) : okLn w l ∧ lt l = line := by
  have key : okLn w l ∧ lw l = TL.spl [32] 0 [] line := by
    unfold rdL at h
    split at h
    · rename_i name rest hs
      rw [hs]
      split at h
      · rename_i hn
        rw [hn]
        exact rdT_ok h
      · split at h
        · rename_i hn
          split at h
          · rename_i t
            split at h
            · rename_i hab
              cases h
              refine ⟨abB_ok hab, ?_⟩
              show [if decide (name = wQuarter) = true then wQuarter else wFlip, sgL (offM t) (sgM t)] = _
              rw [sg_back]
              rcases hn with rfl | rfl <;> rfl
            · cases h
          · cases h
        · split at h
          · rename_i hh
            cases h
            obtain ⟨h1, h2, h3⟩ := hh
            obtain ⟨q, _⟩ := wrB_ok h3
            match rest, h2 with
            | [t], _ =>
              obtain ⟨q1, q2⟩ := q t (by simp)
              refine ⟨q1, ?_⟩
              show [[104], [48 + dgV t]] = [name, t]
              rw [← q2, h1]
          · split at h
            · rename_i hh
              cases h
              obtain ⟨h1, h2, h3⟩ := hh
              obtain ⟨q, nd⟩ := wrB_ok h3
              match rest, h2 with
              | [t, u], _ =>
                obtain ⟨q1, q2⟩ := q t (by simp)
                obtain ⟨q3, q4⟩ := q u (by simp)
                have ne : t ≠ u := fun e => by rw [e] at nd; simp at nd
                refine ⟨⟨?_, q1, q3, fun e => ne (by rw [q2, q4]; exact congrArg (fun x => [48 + x]) e)⟩, ?_⟩
                · split
                  · decide
                  · split <;> decide
                · show [pn _, [48 + dgV t], [48 + dgV u]] = [name, t, u]
                  rw [← q2, ← q4]
                  rcases h1 with rfl | rfl | rfl <;> rfl
            · cases h
    · cases h
  refine ⟨key.1, ?_⟩
  unfold lt
  rw [key.2]
  exact joinL_spl 32 line
end Cq
set_option Elab.async false
set_option linter.all false
set_option maxRecDepth 100000
set_option maxHeartbeats 4000000
set_option autoImplicit false
namespace K20
open PySem PySem.Spec PyProof.Rows L2 Dl Cq
/-! ### reading any text: names, letters, words, wires -/
def Bt (L : List Nat) : Prop := L.length ≤ 5000
structure TGx (w : World) (K : PySem.W.Frag) (mg : Str → Option Value) (aS aT aW aA aP : Addr) : Prop where
  z : TG w K mg aS aT aW aA aP
  noS : ∀ L, szV L = none → PySem.W.nsIn K aS (st L) = some none
  noT : ∀ L, mnV L = none → PySem.W.nsIn K aT (st L) = some none
def rNameG : Rel := fun ss μ r μ' => ∃ L, Bt L ∧ ss = [.p (.str (st L))] ∧ r = .v (.p (.bl (nmB L))) ∧ μ' = μ
def rAreG : Rel := fun ss μ r μ' => ∃ L, Bt L ∧ ss = [.p (.str (st L))] ∧ r = .v (.p (.bl (letB L))) ∧ μ' = μ
def rIsAboutG : Rel := fun ss μ r μ' => ∃ (w : Nat) (L : List Nat), 1 ≤ w ∧ w ≤ 4 ∧ Bt L ∧ ss = [.p (.str (st L)), .p (.int (w : Nat))] ∧ r = .v (.p (.bl (abB w L))) ∧ μ' = μ
def txD (ts : List (List Nat)) : List D := ts.map fun t => .str (st t)
def rWiresG : Rel := fun ss μ r μ' => ∃ (w : Nat) (ts : List (List Nat)), 1 ≤ w ∧ w ≤ 4 ∧ ts.length ≤ 2 ∧ ss = [.p (.lst (txD ts)), .p (.int (w : Nat))] ∧ r = .v (.p (.bl (wrB w ts))) ∧ μ' = μ
theorem AZ_iff (c : Nat) : decide (c ∈ AZ) = (decide (97 ≤ c) && decide (c ≤ 122)) := by
  have h1 : ∀ d ∈ AZ, 97 ≤ d ∧ d ≤ 122 := by decide
  by_cases h : c ∈ AZ
  · obtain ⟨a, b⟩ := h1 c h
    rw [decide_eq_true h, decide_eq_true a, decide_eq_true b]
    rfl
  · rw [decide_eq_false h]
    by_cases a : 97 ≤ c
    · by_cases b : c ≤ 122
      · exact absurd (mem_AZ ⟨a, b⟩) h
      · rw [decide_eq_true a, decide_eq_false b]; rfl
    · rw [decide_eq_false a]
      rfl
theorem minus_at (L : List Nat) : Builtin.Str.subAt (st L) (Str.ofString "-") 0 = decide (L.head? = some 45) := by
  rw [StrLaws.subAt_eq]
  rw [show (Str.ofString "-").length = 1 from rfl, show (Str.ofString "-").cps.toList = [45] from rfl]
  cases L with
  | nil => rfl
  | cons a l =>
    simp [Dl.st]
    by_cases h : a = 45 <;> simp [h]
theorem off_eq (L : List Nat) : Txt.removeprefix (st L) (Str.ofString "-") = st (offM L) := by
  unfold Txt.removeprefix
  rw [minus_at]
  cases L with
  | nil => rfl
  | cons a l =>
    by_cases h : a = 45
    · subst h
      have e : (Str.ofString "-").cps.size = 1 := rfl
      simp [Txt.affix, offM, Dl.st, e, Str.length, Builtin.Str.strSub]
    · simp [h, Txt.affix, offM]
theorem off_len (L : List Nat) : (offM L).length ≤ L.length := by
  unfold offM
  split
  · rw [List.length_tail]; omega
  · exact Nat.le_refl _
theorem uniq_iff : ∀ {zs : List Str}, zs.length ≤ 2 → decide ((uniqN zs).length = zs.length) = decide zs.Nodup
  | [], _ => rfl
  | [a], _ => by simp [uniqN, addN]
  | [a, b], _ => by
    by_cases h : a = b
    · subst h
      simp [uniqN, addN]
    · simp [uniqN, addN, h, Ne.symm h]
  | _ :: _ :: _ :: _, h => by simp at h
theorem wr_in (t : List Nat) : ∀ n, n ≤ 4 → decide (st t ∈ ([st [48], st [49], st [50], st [51]] : List Str).take n) = dgB n t := by
  intro n hn
  have e : ∀ M : List Nat, decide (st t = st M) = decide (t = M) := decs t
  match n, hn with
  | 0, _ => rfl
  | 1, _ => simp [dgB, List.range_succ, st_inj]
  | 2, _ => simp [dgB, List.range_succ, st_inj]
  | 3, _ => simp [dgB, List.range_succ, st_inj]
  | 4, _ => simp [dgB, List.range_succ, st_inj, or_assoc]
section
variable {P : Program} {w : World} {K : PySem.W.Frag} {mg : Str → Option Value} {base : Heap} {f C : Addr} {fd : FuncData} {aS aT aW aA aP : Addr}
theorem ok_areG (F : Fun K "are_letters" "are_letters" sAre f fd) (T : TM mg) (Z : TG w K mg aS aT aW aA aP) : FnOk P w K mg base (L2.CX P w) 1 f fd ["text"] (spD K rAreG) := by
  refine fn_D (k := 0) F scAre (fun ss μ r μ' h => by obtain ⟨L, _, rfl, _⟩ := h; rfl) ?_
  intro cdv A outer s H E N W ss μ r μ' g hA hR
  obtain ⟨L, hL, rfl, rfl, rfl⟩ := hR
  obtain ⟨u1, hu1, ru1⟩ := Z.lets
  obtain ⟨u2, hu2, ru2⟩ := Z.most
  have hb : L.length ≤ 5000 := hL
  refine ⟨_, dss_ret (de_of (d' := .bl (letB L)) (de_and (k := decide (1 ≤ L.length) && decide (L.length ≤ 4)) (k' := L.all fun c => decide (c ∈ IXYZ)) (de_of (de_chn de_int (de_callB (id := "len") (da_cons (de_var 0) da_nil) (c_lenS (by rw [st_len]; exact sz (by omega))) T.len (by decide +kernel)) o_le (fun _ => de_glob hu2 ru2 (fun _ _ => .int 4)) (fun _ => o_le)) ?e1)
    (fun _ => de_one (de_of (de_callB (id := "all") (da_cons (de_lc g [("letter", 1)] (di_of (di_str (de_var 0)) (chars_st L)) (fun s H C cl fp => dg_name 1 g.nd)
      (of_maps (fy := fun c => .bl (decide (c ∈ IXYZ))) fun c hc => ⟨_, rfl, fun s H C cl fp N' hK g' => de_cmp (de_var 1) (de_glob hu1 ru1 (fun _ _ => .str _)) o_inS⟩) (ok := blkOk_by (by rfl)) (hds := by rw [List.length_map]; exact sz' (by omega))) da_nil) (c_allm g) T.all (by decide +kernel)) rfl))) rfl), .rt⟩
  case e1 =>
    rw [st_len]
    congr 1
    rw [show decide ((1 : Int) ≤ (L.length : Nat)) = decide (1 ≤ L.length) from decide_eq_decide.mpr (by omega), show decide (((L.length : Nat) : Int) ≤ 4) = decide (L.length ≤ 4) from decide_eq_decide.mpr (by omega)]
theorem ok_nameG (F : Fun K "is_name" "is_name" sName f fd) (T : TM mg) (Z : TG w K mg aS aT aW aA aP) : FnOk P w K mg base (L2.CX P w) 1 f fd ["value"] (spD K rNameG) := by
  refine fn_D (k := 0) F scName (fun ss μ r μ' h => by obtain ⟨L, _, rfl, _⟩ := h; rfl) ?_
  intro cdv A outer s H E N W ss μ r μ' g hA hR
  obtain ⟨L, hL, rfl, rfl, rfl⟩ := hR
  obtain ⟨u1, hu1, ru1⟩ := Z.nml
  obtain ⟨u2, hu2, ru2⟩ := Z.lnm
  have hb : L.length ≤ 5000 := hL
  have e1 : (decide ((1 : Int) ≤ ((st L).length : Nat)) && decide (((st L).length : Nat) ≤ (8 : Int))) = (decide (1 ≤ L.length) && decide (L.length ≤ 8)) := by
    rw [st_len, show decide ((1 : Int) ≤ (L.length : Nat)) = decide (1 ≤ L.length) from decide_eq_decide.mpr (by omega), show decide (((L.length : Nat) : Int) ≤ 8) = decide (L.length ≤ 8) from decide_eq_decide.mpr (by omega)]
  have cond : ∀ q : Bool, (decide (1 ≤ L.length) && decide (L.length ≤ 8)) = q → DT (cxOf (L2.CX P w) P w K mg base ["value", "letter"] "is_name" (defScope sName) f cdv A outer s H E) N W (starts ["value", "letter"] [.p (.str (st L))]) μ' (match (defBody sName).getD 0 (.Pass ⟨0, 0, 0, 0⟩) with | .If c _ _ _ => c | _ => .Constant .none 0 ⟨0, 0, 0, 0⟩) (!q) μ' := fun q hq =>
    dt_of (dt_w (dw_or (k := false) (k' := !q) (dt_not (dt_val (de_callB (id := "isinstance") (da_cons (de_var 0) (da_cons (de_ty T.str (by decide +kernel)) da_nil)) (c_isi g (.str _) (.ty _) kit_same) T.isinstance (by decide +kernel)))) (fun _ => dw_or1 (dt_of (dt_not (dt_chn de_int (de_callB (id := "len") (da_cons (de_var 0) da_nil) (c_lenS (by rw [st_len]; exact sz (by omega))) T.len (by decide +kernel)) o_le (fun _ => de_glob hu2 ru2 (fun _ _ => .int 8)) (fun _ => o_le))) (by rw [e1, hq]))))) rfl
  by_cases hq : (decide (1 ≤ L.length) && decide (L.length ≤ 8)) = true
  · refine ⟨_, dss_skip (dt_of (cond true hq) rfl) (dss_ret (de_of (d' := .bl (nmB L)) (de_callB (id := "all") (da_cons (de_lc g [("letter", 1)] (di_of (di_str (de_var 0)) (chars_st L)) (fun s H C cl fp => dg_name 1 g.nd)
      (of_maps (fy := fun c => .bl (decide (c ∈ AZ))) fun c hc => ⟨_, rfl, fun s H C cl fp N' hK g' => de_cmp (de_var 1) (de_glob hu1 ru1 (fun _ _ => .str _)) o_inS⟩) (ok := blkOk_by (by rfl)) (hds := by rw [List.length_map]; exact sz' (by omega))) da_nil) (c_allm g) T.all (by decide +kernel)) (congrArg D.bl ?_))), .rt⟩
    unfold nmB
    rw [hq, Bool.true_and]
    exact congrArg (fun p => L.all p) (funext fun c => AZ_iff c)
  · have hq : (decide (1 ≤ L.length) && decide (L.length ≤ 8)) = false := by simpa using hq
    have en : nmB L = false := by unfold nmB; rw [hq]; rfl
    rw [en]
    exact ⟨_, dss_ifT (dt_of (cond false hq) rfl) (dss_ret de_bl) cr, .rt⟩
theorem ok_isaboutG (F : Fun K "_is_about" "_is_about" sIsAbout f fd) (T : TM mg) (ca : Cf P w K mg base 1 "are_letters" [] rAreG) : FnOk P w K mg base (L2.CX P w) 2 f fd ["text", "wires"] (spD K rIsAboutG) := by
  refine fn_D (k := 1) F scIsAbout (fun ss μ r μ' h => by obtain ⟨_, _, _, _, _, rfl, _⟩ := h; rfl) ?_
  intro cdv A outer s0 H E N W ss μ r μ' g hA hR
  obtain ⟨n, L, h1, h4, hL, rfl, rfl, rfl⟩ := hR
  have hb : L.length ≤ 5000 := hL
  have ho := off_len L
  refine ⟨_, dss_cons (ds_set 2 (de_of (de_bm PySem.F.plainAttrs_str PySem.F.slot_str_removeprefix PySem.F.type_str_removeprefix (de_var 0) (da_cons de_str da_nil) (m_removeprefix (by rw [st_len]; exact sz (by omega)))) (congrArg D.str (off_eq L))) g.nd) (cn
    (dss_ret (de_of (d' := .bl (abB n L)) (de_and (k := decide ((offM L).length = n)) (k' := letB (offM L) && !decide (offM L = List.replicate n 73)) (de_of (de_cmp (de_callB (id := "len") (da_cons (de_var 2) da_nil) (c_lenS (by rw [st_len]; exact sz (by omega))) T.len (by decide +kernel)) (de_var 1) o_eqI) ?e1) (fun _ => de_and (k := letB (offM L)) (k' := !decide (offM L = List.replicate n 73)) (de_call g ca (da_cons (de_var 2) da_nil) ⟨offM L, by show _ ≤ 5000; omega, rfl, rfl, rfl⟩) (fun _ => de_one (de_of (de_cmp (de_var 2) (de_bin de_str (de_var 1) (o_mulSn (c := 73) ⟨h1, h4⟩)) o_neS) ?e2)))) (congrArg D.bl (by unfold abB; rw [Bool.and_assoc]))))), .rt⟩
  case e1 =>
    rw [st_len]
    exact congrArg D.bl (decide_eq_decide.mpr (by omega))
  case e2 => exact congrArg (fun b => D.bl (!b)) (decs (offM L) (List.replicate n 73))
theorem ok_wiresG (F : Fun K "_are_wires" "_are_wires" sWires f fd) (T : TM mg) (Z : TG w K mg aS aT aW aA aP) : FnOk P w K mg base (L2.CX P w) 1 f fd ["texts", "wires"] (spD K rWiresG) := by
  refine fn_D (k := 0) F scWires (fun ss μ r μ' h => by obtain ⟨_, _, _, _, _, rfl, _⟩ := h; rfl) ?_
  intro cdv A outer s0 H E N W ss μ r μ' g hA hR
  obtain ⟨n, ts, h1, h4, hl, rfl, rfl, rfl⟩ := hR
  have hu := uniq_iff (zs := ts.map st) (by rw [List.length_map]; exact hl)
  have hnd : decide (ts.map st).Nodup = decide ts.Nodup := decide_eq_decide.mpr ⟨fun h => (List.Pairwise.of_map st (fun a b hab e => hab (congrArg st e)) h), st_inj'⟩
  refine ⟨_, dss_ret (de_of (d' := .bl (wrB n ts)) (de_and (k := ts.all (dgB n)) (k' := decide ts.Nodup) (de_of (de_callB (id := "all") (da_cons (de_lc g [("text", 2)] (di_lst g (de_var 0)) (fun s H C cl fp => dg_name 2 g.nd) (of_maps (gd := fun t => .str (st t)) (fy := fun t => .bl (decide (st t ∈ ([st [48], st [49], st [50], st [51]] : List Str).take n))) fun t ht => ⟨_, rfl, fun s H C cl fp N' hK g' => de_cmp (de_var 2) (de_of (d' := .tup ((([st [48], st [49], st [50], st [51]] : List Str).take n).map D.str)) (de_cutTt g' (de_globT g' Z.gW Z.tW.sq) (de_var 1)) ?cut) (o_inStrT g')⟩) (ok := blkOk_by (by rfl)) (hds := by rw [List.length_map]; exact sz' (by omega))) da_nil) (c_allm g) T.all (by decide +kernel)) ?all) (fun _ => de_one (de_of (de_cmp (de_lenSet (zs := ts.map st) g (de_of (de_var 0) ?ls) (by rw [List.length_map]; omega) T.len T.set) (de_callB (id := "len") (da_cons (de_var 0) da_nil) (c_lenL g) T.len (by decide +kernel)) o_eqI) ?len))) rfl), .rt⟩
  case cut => rw [cutX_to, List.map_take]
  case all => exact congrArg D.bl (congrArg (fun p => ts.all p) (funext fun t => wr_in t n h4))
  case ls => rw [txD, List.map_map]; rfl
  case len =>
    rw [← hnd, ← hu]
    refine congrArg D.bl (decide_eq_decide.mpr ?_)
    rw [txD, List.length_map, List.length_map]
    omega
end
end K20
set_option Elab.async false
set_option linter.all false
set_option maxRecDepth 100000
set_option maxHeartbeats 4000000
set_option autoImplicit false
namespace K20
open PySem PySem.Spec PyProof.Rows L2 Dl Cq
/-! ### what a def promises, from two halves or from more -/
def relOr (R1 R2 : Rel) : Rel := fun ss μ r μ' => R1 ss μ r μ' ∨ R2 ss μ r μ'
section
variable {P : Program} {w : World} {K : PySem.W.Frag} {mg : Str → Option Value} {base : Heap} {k : Nat} {f : Addr} {fd : FuncData} {ps : List Str} {R1 R2 : Rel} {x : Str} {dd : List D}
theorem fn_or (A : FnOk P w K mg base (L2.CX P w) k f fd ps (spD K R1)) (B : FnOk P w K mg base (L2.CX P w) k f fd ps (spD K R2)) : FnOk P w K mg base (L2.CX P w) k f fd ps (spD K (relOr R1 R2)) := by
  have two : ∀ vs H Q E, spD K (relOr R1 R2) vs H Q E → spD K R1 vs H Q E ∨ spD K R2 vs H Q E := fun vs H Q E h => by
    obtain ⟨F1, A1, ss, μ, r, μ', h1 | h1, h2⟩ := h
    · exact .inl ⟨F1, A1, ss, μ, r, μ', h1, h2⟩
    · exact .inr ⟨F1, A1, ss, μ, r, μ', h1, h2⟩
  refine ⟨fun vs H Q E h => (two vs H Q E h).elim (A.len vs H Q E) (B.len vs H Q E), fun A0 outer s H args us vs Q E hr he hb hv h => ?_⟩
  rcases two vs H Q E h with h | h
  · exact A.run A0 outer s H args us vs Q E hr he hb hv h
  · exact B.run A0 outer s H args us vs Q E hr he hb hv h
end
theorem uniq_all : ∀ zs : List Str, decide ((uniqN zs).length = zs.length) = decide zs.Nodup := by
  have go : ∀ l : List Str, decide ((uniqN l.reverse).length = l.reverse.length) = decide l.reverse.Nodup := by
    intro l
    induction l with
    | nil => rfl
    | cons a l ih =>
      rw [List.reverse_cons, uniqN_snoc, List.length_append]
      have le := uniqN_le l.reverse
      have nd : (l.reverse ++ [a]).Nodup ↔ l.reverse.Nodup ∧ a ∉ l.reverse := by
        rw [List.nodup_append]
        simp
        exact fun _ => ⟨fun h hm => h a hm rfl, fun h b hb e => h (e ▸ hb)⟩
      have ih' : (uniqN l.reverse).length = l.reverse.length ↔ l.reverse.Nodup := decide_eq_decide.mp ih
      refine decide_eq_decide.mpr (Iff.trans ?_ nd.symm)
      rw [← ih']
      by_cases hm : a ∈ l.reverse
      · rw [if_pos hm]
        show _ = l.reverse.length + 1 ↔ _
        exact ⟨fun e => by omega, fun e => absurd hm e.2⟩
      · rw [if_neg hm]
        show _ = l.reverse.length + 1 ↔ _
        exact ⟨fun e => ⟨by omega, hm⟩, fun e => by omega⟩
  intro zs
  have := go zs.reverse
  rwa [List.reverse_reverse] at this
theorem evens_map {α β : Type} (q : α → β) : ∀ l : List α, evens (l.map q) = (evens l).map q
  | [] => rfl
  | [_] => rfl
  | a :: _ :: r => congrArg (q a :: ·) (evens_map q r)
theorem evens_sub {α : Type} : ∀ l : List α, (evens l).Sublist l
  | [] => List.Sublist.refl _
  | [_] => List.Sublist.refl _
  | a :: b :: r => (List.Sublist.cons b (evens_sub r)).cons_cons a
abbrev tN : List Str := ["rest", "wires", "about", "by", "pairs", "times", "knobs", "many", "knob", "word", "form"]
/-! ### lines that no circuit has -/
def rAboutB : Rel := fun ss μ r μ' => ∃ (w : Nat) (q : Bool) (rest : List (List Nat)), 1 ≤ w ∧ w ≤ 4 ∧ rest.length ≤ 5001 ∧ (∀ t ∈ rest, Bt t) ∧ (∀ t, rest = [t] → abB w t = false) ∧ ss = [.p (.str (st (if q = true then wQuarter else wFlip))), .p (.lst (txD rest)), .p (.int (w : Nat))] ∧ r = .v (.p .non) ∧ μ' = μ
def rTurnB : Rel := fun ss μ r μ' => ∃ (w : Nat) (rest : List (List Nat)), 1 ≤ w ∧ w ≤ 4 ∧ rest.length ≤ 5001 ∧ (∀ t ∈ rest, Bt t) ∧ rdT w rest = none ∧ ss = [.p (.lst (txD rest)), .p (.int (w : Nat))] ∧ r = .v (.p .non) ∧ μ' = μ
section
variable {P : Program} {w : World} {K : PySem.W.Frag} {mg : Str → Option Value} {base : Heap} {f C : Addr} {fd : FuncData} {aS aT aW aA aP : Addr}
theorem ok_raboutB (F : Fun K "_read_about" "_read_about" sAbout f fd) (T : TM mg) (ca : Cf P w K mg base 2 "_is_about" [] rIsAboutG) : FnOk P w K mg base (L2.CX P w) 4 f fd ["name", "rest", "wires"] (spD K rAboutB) := by
  refine fn_D (k := 3) F scAbout (fun ss μ r μ' h => by obtain ⟨_, _, _, _, _, _, _, _, rfl, _⟩ := h; rfl) ?_
  intro cdv A outer s0 H E N W ss μ r μ' g hA hR
  obtain ⟨n, q, rest, h1, h4, hl, hb, hn, rfl, rfl, rfl⟩ := hR
  have hlen : ((txD rest).length : Int) = (rest.length : Nat) := by rw [txD, List.length_map]
  by_cases h : rest.length = 1
  · match rest, h with
    | [t], _ =>
      exact ⟨_, dss_ifT (dt_w (dw_or (k := false) (k' := true) (dt_of (dt_cmp (de_callB (id := "len") (da_cons (de_var 1) da_nil) (c_lenL g) T.len (by decide +kernel)) de_int o_neI) rfl) (fun _ => dw_or1 (dt_of (dt_not (dt_val (de_call g ca (da_cons (de_ix (de_var 1) de_int (i_lst (d := .str (st t)) g rfl)) (da_cons (de_var 2) da_nil)) ⟨n, t, h1, h4, hb t (by simp), rfl, rfl, rfl⟩))) (by rw [hn t rfl]; rfl))))) (dss_ret de_non) cr, .rt⟩
  · exact ⟨_, dss_ifT (dt_w (dw_or (k := true) (k' := true) (dt_of (dt_cmp (de_callB (id := "len") (da_cons (de_var 1) da_nil) (c_lenL g) T.len (by decide +kernel)) de_int o_neI) (by rw [hlen, decide_eq_false (by omega)]; rfl)) (fun h => by cases h))) (dss_ret de_non) cr, .rt⟩
theorem ok_rturnB (F : Fun K "_read_turn" "_read_turn" sTurn f fd) (T : TM mg) (Z : TGx w K mg aS aT aW aA aP) (ca : Cf P w K mg base 2 "_is_about" [] rIsAboutG) (cn_ : Cf P w K mg base 1 "is_name" [] rNameG) : FnOk P w K mg base (L2.CX P w) 4 f fd ["rest", "wires"] (spD K rTurnB) := by
  refine fn_D (k := 3) F scTurn (fun ss μ r μ' h => by obtain ⟨_, _, _, _, _, _, _, rfl, _⟩ := h; rfl) ?_
  intro cdv A outer s0 H E N W ss μ r μ' g hA hR
  obtain ⟨n, rest, h1, h4, hl, hb, hrd, rfl, rfl, rfl⟩ := hR
  obtain ⟨u3, hu3, ru3⟩ := Z.z.mkn
  obtain ⟨es, m, Dk⟩ := Z.z.kT
  have hlen : ((txD rest).length : Int) = (rest.length : Nat) := by rw [txD, List.length_map]
  have cond1 : ∀ q : Bool, (decide (rest.length < 4) || (decide (8 < rest.length) || decide (rest.length % 2 ≠ 0))) = q → DT (cxOf (L2.CX P w) P w K mg base tN "_read_turn" (defScope sTurn) f cdv A outer s0 H E) N W (starts tN [.p (.lst (txD rest)), .p (.int (n : Nat))]) μ' (match (defBody sTurn).getD 0 (.Pass ⟨0, 0, 0, 0⟩) with | .If c _ _ _ => c | _ => .Constant .none 0 ⟨0, 0, 0, 0⟩) q μ' := fun q hq =>
    dt_of (dt_w (dw_or (k := decide (rest.length < 4)) (k' := decide (8 < rest.length) || decide (rest.length % 2 ≠ 0)) (dt_of (dt_cmp (de_callB (id := "len") (da_cons (de_var 0) da_nil) (c_lenL g) T.len (by decide +kernel)) de_int o_lt) (by rw [hlen]; exact decide_eq_decide.mpr (by omega))) (fun _ => dw_or (k := decide (8 < rest.length)) (k' := decide (rest.length % 2 ≠ 0)) (dt_of (dt_cmp (de_callB (id := "len") (da_cons (de_var 0) da_nil) (c_lenL g) T.len (by decide +kernel)) (de_bin de_int (de_bin de_int (de_glob hu3 ru3 (fun _ _ => .int 3)) (o_mul (.inl (by decide)))) o_add) o_gt) (by rw [hlen]; exact decide_eq_decide.mpr (by show 2 + 2 * 3 < ((rest.length : Nat) : Int) ↔ _; omega))) (fun _ => dw_or1 (dt_of (dt_cmp (de_bin (de_callB (id := "len") (da_cons (de_var 0) da_nil) (c_lenL g) T.len (by decide +kernel)) de_int (o_mod (by decide))) de_int o_neI) (by rw [hlen, decide_not]; exact congrArg not (decide_eq_decide.mpr (by omega)))))))) hq
  by_cases hq : (decide (rest.length < 4) || (decide (8 < rest.length) || decide (rest.length % 2 ≠ 0))) = true
  · exact ⟨_, dss_ifT (cond1 true hq) (dss_ret de_non) cr, .rt⟩
  have hq : (decide (rest.length < 4) || (decide (8 < rest.length) || decide (rest.length % 2 ≠ 0))) = false := by simpa using hq
  have hq' : ¬ (rest.length < 4 ∨ 8 < rest.length ∨ rest.length % 2 ≠ 0) := by
    simp only [Bool.or_eq_false_iff, decide_eq_false_iff_not] at hq
    omega
  unfold rdT at hrd
  rw [if_neg hq'] at hrd
  match rest, hq', hrd, hb, cond1, hq, hlen, hl with
  | about :: by_ :: pairs, hq', hrd, hb, cond1, hq, hlen, hl =>
    simp only at hrd
    have hpl : pairs.length ≤ 6 := by simp at hq'; omega
    have hpl2 : (txD pairs).length ≤ 100000 := by rw [txD, List.length_map]; omega
    have ev : evens (txD pairs) = (evens pairs).map fun t => .str (st t) := evens_map _ pairs
    have od : evens ((txD pairs).drop 1) = (evens (pairs.drop 1)).map fun t => .str (st t) := by
      rw [txD, ← List.map_drop]
      exact evens_map _ _
    have e6 : (evens pairs).length ≤ 6 := Nat.le_trans (evens_sub pairs).length_le hpl
    have o6 : (evens (pairs.drop 1)).length ≤ 6 := Nat.le_trans (evens_sub _).length_le (by rw [List.length_drop]; omega)
    have inT : ∀ t, ∃ u, PySem.W.nsIn K aT (st t) = some u ∧ u.isSome = (mnV t).isSome := fun t => by
      cases hm : mnV t with
      | none => exact ⟨_, Z.noT t hm, rfl⟩
      | some i =>
        obtain ⟨i1, i2⟩ := mnV_ok (L := t) (by rw [hm]; rfl)
        rw [hm] at i1 i2
        obtain ⟨u, hu1, _⟩ := Z.z.nT i i1
        exact ⟨_, by rw [← (show mt i = t from i2)]; exact hu1, rfl⟩
    have hbt : ∀ t ∈ evens (pairs.drop 1), Bt t := fun t ht => hb t (by
      have h1 := (evens_sub (pairs.drop 1)).subset ht
      have h2 := (List.drop_sublist 1 pairs).subset h1
      simp [h2])
    have s1 : DS (cxOf (L2.CX P w) P w K mg base tN "_read_turn" (defScope sTurn) f cdv A outer s0 H E) N W (starts tN [.p (.lst (txD (about :: by_ :: pairs))), .p (.int (n : Nat))]) μ' ((defBody sTurn).getD 1 (.Pass ⟨0, 0, 0, 0⟩)) (.nx [some (.p (.lst (txD (about :: by_ :: pairs)))), some (.p (.int (n : Nat))), some (.p (.str (st about))), some (.p (.str (st by_))), some (.p (.lst (txD pairs))), none, none, none, none, none, none] μ') :=
      ds_star 2 g (de_var 0) (dgs_cons (dg_name 2 g.nd) (dgs_cons (dg_name 3 g.nd) (dgs_last (dg_name 4 g.nd)))) (by simp [txD]) rfl
    have s2 : DS (cxOf (L2.CX P w) P w K mg base tN "_read_turn" (defScope sTurn) f cdv A outer s0 H E) N W [some (.p (.lst (txD (about :: by_ :: pairs)))), some (.p (.int (n : Nat))), some (.p (.str (st about))), some (.p (.str (st by_))), some (.p (.lst (txD pairs))), none, none, none, none, none, none] μ' ((defBody sTurn).getD 2 (.Pass ⟨0, 0, 0, 0⟩)) (.nx [some (.p (.lst (txD (about :: by_ :: pairs)))), some (.p (.int (n : Nat))), some (.p (.str (st about))), some (.p (.str (st by_))), some (.p (.lst (txD pairs))), some (.p (.lst ((evens pairs).map fun t => .str (st t)))), some (.p (.lst ((evens (pairs.drop 1)).map fun t => .str (st t)))), none, none, none, none] μ') :=
      ds_par 5 6 g (da_cons (de_of (de_even g (de_var 4) hpl2) (congrArg D.lst ev)) (da_cons (de_of (de_odd g (de_var 4) hpl2) (congrArg D.lst od)) da_nil))
    have cond2 : ∀ q : Bool, (!decide (by_ = wBy) || (!abB n about || !(evens pairs).all fun m => (mnV m).isSome)) = q → DT (cxOf (L2.CX P w) P w K mg base tN "_read_turn" (defScope sTurn) f cdv A outer s0 H E) N W [some (.p (.lst (txD (about :: by_ :: pairs)))), some (.p (.int (n : Nat))), some (.p (.str (st about))), some (.p (.str (st by_))), some (.p (.lst (txD pairs))), some (.p (.lst ((evens pairs).map fun t => .str (st t)))), some (.p (.lst ((evens (pairs.drop 1)).map fun t => .str (st t)))), none, none, none, none] μ' (match (defBody sTurn).getD 3 (.Pass ⟨0, 0, 0, 0⟩) with | .If c _ _ _ => c | _ => .Constant .none 0 ⟨0, 0, 0, 0⟩) q μ' := fun q hq =>
      dt_of (dt_w (dw_or (k := !decide (by_ = wBy)) (k' := !abB n about || !(evens pairs).all fun m => (mnV m).isSome) (dt_of (dt_cmp (de_var 3) de_str o_neS) (congrArg not (decs by_ wBy))) (fun _ => dw_or (k := !abB n about) (k' := !(evens pairs).all fun m => (mnV m).isSome) (dt_not (dt_val (de_call g ca (da_cons (de_var 2) (da_cons (de_var 1) da_nil)) ⟨n, about, h1, h4, hb about (by simp), rfl, rfl, rfl⟩))) (fun _ => dw_or1 (dt_not (dt_val (de_callB (id := "all") (da_cons (de_lc g [("many", 7)] (di_lst g (de_var 5)) (fun s H C cl fp => dg_name 7 g.nd) (of_maps (gd := fun t => D.str (st t)) (fy := fun t => .bl (mnV t).isSome) fun t ht => ⟨_, rfl, fun s H C cl fp N' hK g' => by obtain ⟨u, q1, q2⟩ := inT t; exact de_of (de_cmp (de_var 7) (de_glob (v := .ref aT) Z.z.gT rfl (fun _ _ => .adr _)) (o_inKd (r := u) Dk q1)) (congrArg D.bl q2)⟩) (ok := blkOk_by (by rfl)) (hds := by rw [List.length_map]; exact sz' (by omega))) da_nil) (c_allm (q := fun t => (mnV t).isSome) g) T.all (by decide +kernel)))))))) hq
    by_cases h2 : (!decide (by_ = wBy) || (!abB n about || !(evens pairs).all fun m => (mnV m).isSome)) = true
    · exact ⟨_, dss_skip (cond1 false hq) (dss_cons s1 (cn (dss_cons s2 (cn (dss_ifT (cond2 true h2) (dss_ret de_non) cr))))), .rt⟩
    have h2 : (!decide (by_ = wBy) || (!abB n about || !(evens pairs).all fun m => (mnV m).isSome)) = false := Bool.eq_false_iff.mpr h2
    have h2' : ¬ (by_ ≠ wBy ∨ abB n about = false ∨ ((evens pairs).all fun m => (mnV m).isSome) = false) := by
      simp only [Bool.or_eq_false_iff, Bool.not_eq_false', decide_eq_true_eq] at h2
      rintro (q | q | q)
      · exact q h2.1
      · rw [h2.2.1] at q; cases q
      · rw [h2.2.2] at q; cases q
    rw [if_neg h2'] at hrd
    have h3 : (!((evens (pairs.drop 1)).all nmB) || !decide (evens (pairs.drop 1)).Nodup) = true := by
      by_cases h3 : ((evens (pairs.drop 1)).all nmB) = false ∨ ¬ (evens (pairs.drop 1)).Nodup
      · rcases h3 with q | q
        · rw [q]; rfl
        · rw [decide_eq_false q, Bool.not_false, Bool.or_true]
      · rw [if_neg h3] at hrd
        cases hrd
    have hnd : decide ((evens (pairs.drop 1)).map st).Nodup = decide (evens (pairs.drop 1)).Nodup := decide_eq_decide.mpr ⟨fun h => (List.Pairwise.of_map st (fun a b hab e => hab (congrArg st e)) h), st_inj'⟩
    have cond3 : DT (cxOf (L2.CX P w) P w K mg base tN "_read_turn" (defScope sTurn) f cdv A outer s0 H E) N W [some (.p (.lst (txD (about :: by_ :: pairs)))), some (.p (.int (n : Nat))), some (.p (.str (st about))), some (.p (.str (st by_))), some (.p (.lst (txD pairs))), some (.p (.lst ((evens pairs).map fun t => .str (st t)))), some (.p (.lst ((evens (pairs.drop 1)).map fun t => .str (st t)))), none, none, none, none] μ' (match (defBody sTurn).getD 4 (.Pass ⟨0, 0, 0, 0⟩) with | .If c _ _ _ => c | _ => .Constant .none 0 ⟨0, 0, 0, 0⟩) (!((evens (pairs.drop 1)).all nmB) || !decide (evens (pairs.drop 1)).Nodup) μ' :=
      dt_w (dw_or (k := !((evens (pairs.drop 1)).all nmB)) (k' := !decide (evens (pairs.drop 1)).Nodup) (dt_not (dt_val (de_callB (id := "all") (da_cons (de_lc g [("knob", 8)] (di_lst g (de_var 6)) (fun s H C cl fp => dg_name 8 g.nd) (of_maps (gd := fun t => D.str (st t)) (fy := fun t => .bl (nmB t)) fun t ht => ⟨_, rfl, fun s H C cl fp N' hK g' => de_call g' cn_ (da_cons (de_var 8) da_nil) ⟨t, hbt t ht, rfl, rfl, rfl⟩⟩) (ok := blkOk_by (by rfl)) (hds := by rw [List.length_map]; exact sz' (by omega))) da_nil) (c_allm (q := nmB) g) T.all (by decide +kernel)))) (fun _ => dw_or1 (dt_of (dt_cmp (de_lenSet (zs := (evens (pairs.drop 1)).map st) g (de_of (de_var 6) (by rw [List.map_map]; rfl)) (by rw [List.length_map]; omega) T.len T.set) (de_callB (id := "len") (da_cons (de_var 6) da_nil) (c_lenL g) T.len (by decide +kernel)) o_neI) (by
        rw [← hnd, ← uniq_all]
        refine congrArg not (decide_eq_decide.mpr ?_)
        rw [List.length_map, List.length_map]
        omega))))
    exact ⟨_, dss_skip (cond1 false hq) (dss_cons s1 (cn (dss_cons s2 (cn (dss_skip (cond2 false h2) (dss_ifT (dt_of cond3 h3) (dss_ret de_non) cr)))))), .rt⟩
  | [], hq', _, _, _, _, _, _ => exact absurd (.inl (by simp)) hq'
  | [_], hq', _, _, _, _, _, _ => exact absurd (.inl (by simp)) hq'
end
end K20
set_option Elab.async false
set_option linter.all false
set_option maxRecDepth 100000
set_option maxHeartbeats 4000000
set_option autoImplicit false
namespace K20
open PySem PySem.Spec PyProof.Rows L2 Dl Cq
/-! ### texts that no circuit has -/
theorem spl_len (s : Nat) : ∀ (t acc : List Nat), (∀ p ∈ TL.spl [s] 0 acc t, p.length ≤ acc.length + t.length) ∧ (TL.spl [s] 0 acc t).length ≤ t.length + 1
  | [], acc => by rw [TL.spl_nil]; exact ⟨fun p hp => by rw [List.mem_singleton.mp hp]; simp, by simp⟩
  | c :: r, acc => by
    show (∀ p ∈ (if TL.pre [s] (c :: r) = true then acc :: TL.spl [s] ([s].length - 1) [] r else TL.spl [s] 0 (acc ++ [c]) r), _) ∧ (if TL.pre [s] (c :: r) = true then acc :: TL.spl [s] ([s].length - 1) [] r else TL.spl [s] 0 (acc ++ [c]) r).length ≤ _
    split
    · obtain ⟨i1, i2⟩ := spl_len s r []
      refine ⟨fun p hp => ?_, by show (TL.spl [s] 0 [] r).length + 1 ≤ _; rw [List.length_cons]; omega⟩
      rcases List.mem_cons.mp hp with rfl | hp
      · omega
      · have := i1 p hp
        simp at this ⊢
        omega
    · obtain ⟨i1, i2⟩ := spl_len s r (acc ++ [c])
      refine ⟨fun p hp => ?_, by rw [List.length_cons]; omega⟩
      have := i1 p hp
      simp at this ⊢
      omega
theorem split_sp (L : List Nat) : (Txt.split (st L) (Str.ofString " ")).map D.str = txD (TL.spl [32] 0 [] L) := by
  rw [show Txt.split (st L) (Str.ofString " ") = (TL.spl [32] 0 [] L).map st from SX.split_S (b := [32]) (by simp) (by decide), List.map_map]
  rfl
theorem split_nl (L : List Nat) : (Txt.split (st L) (Str.ofString "\n")).map D.str = txD (TL.spl [10] 0 [] L) := by
  rw [show Txt.split (st L) (Str.ofString "\n") = (TL.spl [10] 0 [] L).map st from SX.split_S (b := [10]) (by simp) (by decide), List.map_map]
  rfl
def rReadLB : Rel := fun ss μ r μ' => ∃ (w : Nat) (L : List Nat), 1 ≤ w ∧ w ≤ 4 ∧ Bt L ∧ rdL w L = none ∧ ss = [.p (.str (st L)), .p (.int (w : Nat))] ∧ r = .v (.p .non) ∧ μ' = μ
def rReadCB (CB : Addr) : Rel := fun ss μ r μ' => ∃ (L : List Nat) (k : Nat), Bt L ∧ rdC L = .inl k ∧ ss = [.p (.str (st L))] ∧ r = .x CB (.int (k : Nat)) ∧ μ' = μ
def rCInitB (CC CB : Addr) : Rel := fun ss μ r μ' => ∃ (j : Nat) (L : List Nat) (k : Nat), Bt L ∧ rdC L = .inl k ∧ ss = [.l j, .p (.str (st L))] ∧ μ[j]? = some (.obj CC [] []) ∧ r = .x CB (.int (k : Nat)) ∧ μ' = μ
section
variable {X : Cx} {N : En} {W : WX} {n : Nat} {δ : List (Option S)} {μ μ1 : List M} {e tg : Expr} {pos : Pos} {C : Addr} {d : D}
/-- a, b = e where e raises -/
theorem ds_asgX {f : As} {ix : List Nat} (h : DE X N W δ μ e (.x C d) μ1) (hg : DG X N tg f ix) (hs : swapsWithSole [tg] e pos.line X.env = pure false := by rfl) (hw : swappedStores [tg] e X.env = pure none := by rfl)
    (h1 : (assignEach [tg] X.env).map (·.2) = [assign tg X.env] := by rfl) : DS X N W δ μ (.Assign [tg] e pos) (.xx C d δ μ1) :=
  PS.imp (ps_asg h hg hs hw h1) fun K σ H ⟨F, A, R, k⟩ => ⟨F, A, R, fun dx v F' A' H' e p R' h1 h2 => k σ dx v F' A' H' e p R' h1 h2⟩
end
section
variable {P : Program} {w : World} {K : PySem.W.Frag} {mg : Str → Option Value} {base : Heap} {f C CB CC : Addr} {fd : FuncData} {aS aT aW aA aP : Addr}
theorem ok_readlB (F : Fun K "read_line" "read_line" sReadL f fd) (T : TM mg) (Z : TGx w K mg aS aT aW aA aP) (ct_ : Cf P w K mg base 4 "_read_turn" [] (relOr rTurn rTurnB)) (ca : Cf P w K mg base 4 "_read_about" [] (relOr rAbout rAboutB)) (cw : Cf P w K mg base 1 "_are_wires" [] rWiresG) : FnOk P w K mg base (L2.CX P w) 5 f fd ["line", "wires"] (spD K rReadLB) := by
  refine fn_D (k := 4) F scReadL (fun ss μ r μ' h => by obtain ⟨_, _, _, _, _, _, rfl, _⟩ := h; rfl) ?_
  intro cdv A outer s0 H E N W ss μ r μ' g hA hR
  obtain ⟨n, L, h1, h4, hb, hrd, rfl, rfl, rfl⟩ := hR
  have hb' : L.length ≤ 5000 := hb
  have hz : (st L).length + 2 ≤ sizeLine := by rw [st_len]; exact sz (by omega)
  have hs := split_sp L
  obtain ⟨l1, l2⟩ := spl_len 32 L []
  unfold rdL at hrd
  match hw : TL.spl [32] 0 [] L with
  | [] => exact absurd hw (spl_ne 32 L [])
  | name :: rest =>
    rw [hw] at hs l1 l2 hrd
    have hbr : ∀ t ∈ rest, Bt t := fun t ht => by
      have := l1 t (List.mem_cons_of_mem _ ht)
      show t.length ≤ 5000
      simp at this
      omega
    have hlr : rest.length ≤ 5001 := by rw [List.length_cons] at l2; omega
    simp only at hrd
    have pre : ∀ o, DSs (cxOf (L2.CX P w) P w K mg base ["line", "wires", "name", "rest"] "read_line" (defScope sReadL) f cdv A outer s0 H E) N W [some (.p (.str (st L))), some (.p (.int (n : Nat))), some (.p (.str (st name))), some (.p (.lst (txD rest)))] μ' ((defBody sReadL).drop 2) o → DSs (cxOf (L2.CX P w) P w K mg base ["line", "wires", "name", "rest"] "read_line" (defScope sReadL) f cdv A outer s0 H E) N W (starts ["line", "wires", "name", "rest"] [.p (.str (st L)), .p (.int (n : Nat))]) μ' (defBody sReadL) o := fun o ho =>
      dss_skip (dt_not (dt_val (de_callB (id := "isinstance") (da_cons (de_var 0) (da_cons (de_ty T.str (by decide +kernel)) da_nil)) (c_isi g (.str _) (.ty _) kit_same) T.isinstance (by decide +kernel))))
      (dss_cons (ds_star 1 g (de_of (d' := .lst (txD (name :: rest))) (de_bm PySem.F.plainAttrs_str PySem.F.slot_str_split PySem.F.type_str_split (de_var 0) (da_cons de_str da_nil) (m_split (by decide) hz)) (congrArg D.lst hs)) (dgs_cons (dg_name 2 g.nd) (dgs_last (dg_name 3 g.nd))) (by simp [txD]) rfl) (cn ho))
    by_cases hn : name = wTurn
    · rw [if_pos hn] at hrd
      exact ⟨_, pre _ (dss_ifT (dt_of (dt_cmp (de_var 2) de_str o_eqS) (by rw [hn]; decide +kernel)) (dss_ret (de_call g ct_ (da_cons (de_var 3) (da_cons (de_var 1) da_nil)) (.inr ⟨n, rest, h1, h4, hlr, hbr, hrd, rfl, rfl, rfl⟩))) cr), .rt⟩
    rw [if_neg hn] at hrd
    have c2 : DT (cxOf (L2.CX P w) P w K mg base ["line", "wires", "name", "rest"] "read_line" (defScope sReadL) f cdv A outer s0 H E) N W [some (.p (.str (st L))), some (.p (.int (n : Nat))), some (.p (.str (st name))), some (.p (.lst (txD rest)))] μ' (match (defBody sReadL).getD 2 (.Pass ⟨0, 0, 0, 0⟩) with | .If c _ _ _ => c | _ => .Constant .none 0 ⟨0, 0, 0, 0⟩) false μ' := dt_of (dt_cmp (de_var 2) de_str o_eqS) (st_no hn)
    have inA : decide (st name ∈ ([st wFlip, st wQuarter] : List Str)) = decide (name = wFlip ∨ name = wQuarter) := decide_eq_decide.mpr (by simp [st_inj])
    by_cases ha : name = wFlip ∨ name = wQuarter
    · rw [if_pos ha] at hrd
      have hq : name = if decide (name = wQuarter) = true then wQuarter else wFlip := by
        rcases ha with rfl | rfl <;> rfl
      have hab : ∀ t, rest = [t] → abB n t = false := fun t ht => by
        subst ht
        simp only at hrd
        by_cases q : abB n t = true
        · rw [if_pos q] at hrd; cases hrd
        · exact Bool.eq_false_iff.mpr q
      exact ⟨_, pre _ (dss_skip c2 (dss_ifT (dt_of (dt_cmp (de_var 2) (de_globT g Z.z.gA Z.z.tA.sq) (o_inStrT g)) (inA.trans (decide_eq_true ha))) (dss_ret (de_call g ca (da_cons (de_var 2) (da_cons (de_var 3) (da_cons (de_var 1) da_nil))) (.inr ⟨n, decide (name = wQuarter), rest, h1, h4, hlr, hbr, hab, by rw [← hq]; rfl, rfl, rfl⟩))) cr)), .rt⟩
    rw [if_neg ha] at hrd
    have hlen : ((txD rest).length : Int) = (rest.length : Nat) := by rw [txD, List.length_map]
    have c3 : DT (cxOf (L2.CX P w) P w K mg base ["line", "wires", "name", "rest"] "read_line" (defScope sReadL) f cdv A outer s0 H E) N W [some (.p (.str (st L))), some (.p (.int (n : Nat))), some (.p (.str (st name))), some (.p (.lst (txD rest)))] μ' (match (defBody sReadL).getD 3 (.Pass ⟨0, 0, 0, 0⟩) with | .If c _ _ _ => c | _ => .Constant .none 0 ⟨0, 0, 0, 0⟩) false μ' := dt_of (dt_cmp (de_var 2) (de_globT g Z.z.gA Z.z.tA.sq) (o_inStrT g)) (inA.trans (decide_eq_false ha))
    by_cases hh : name = [104] ∧ rest.length = 1 ∧ wrB n rest = true
    · rw [if_pos hh] at hrd; cases hrd
    rw [if_neg hh] at hrd
    have c4 : DT (cxOf (L2.CX P w) P w K mg base ["line", "wires", "name", "rest"] "read_line" (defScope sReadL) f cdv A outer s0 H E) N W [some (.p (.str (st L))), some (.p (.int (n : Nat))), some (.p (.str (st name))), some (.p (.lst (txD rest)))] μ' (match (defBody sReadL).getD 4 (.Pass ⟨0, 0, 0, 0⟩) with | .If c _ _ _ => c | _ => .Constant .none 0 ⟨0, 0, 0, 0⟩) false μ' :=
      dt_of (dt_w (dw_and (k := decide (name = [104])) (k' := decide (rest.length = 1) && wrB n rest) (dt_of (dt_cmp (de_var 2) de_str o_eqS) (decs name [104])) (fun _ => dw_and (k := decide (rest.length = 1)) (k' := wrB n rest) (dt_of (dt_cmp (de_callB (id := "len") (da_cons (de_var 3) da_nil) (c_lenL g) T.len (by decide +kernel)) de_int o_eqI) (by rw [hlen]; exact decide_eq_decide.mpr (by omega))) (fun hb => dw_and1 (dt_val (de_call g cw (da_cons (de_var 3) (da_cons (de_var 1) da_nil)) ⟨n, rest, h1, h4, by have := of_decide_eq_true hb; omega, rfl, rfl, rfl⟩)))))) (by
        refine Bool.eq_false_iff.mpr fun q => hh ?_
        simp only [Bool.and_eq_true, decide_eq_true_eq] at q
        exact q)
    by_cases hp : (name = pn 0 ∨ name = pn 1 ∨ name = pn 2) ∧ rest.length = 2 ∧ wrB n rest = true
    · rw [if_pos hp] at hrd; cases hrd
    have inP : decide (st name ∈ ([st (pn 0), st (pn 1), st (pn 2)] : List Str)) = decide (name = pn 0 ∨ name = pn 1 ∨ name = pn 2) := decide_eq_decide.mpr (by simp [st_inj])
    have c5 : DT (cxOf (L2.CX P w) P w K mg base ["line", "wires", "name", "rest"] "read_line" (defScope sReadL) f cdv A outer s0 H E) N W [some (.p (.str (st L))), some (.p (.int (n : Nat))), some (.p (.str (st name))), some (.p (.lst (txD rest)))] μ' (match (defBody sReadL).getD 5 (.Pass ⟨0, 0, 0, 0⟩) with | .If c _ _ _ => c | _ => .Constant .none 0 ⟨0, 0, 0, 0⟩) false μ' :=
      dt_of (dt_w (dw_and (k := decide (name = pn 0 ∨ name = pn 1 ∨ name = pn 2)) (k' := decide (rest.length = 2) && wrB n rest) (dt_of (dt_cmp (de_var 2) (de_globT g Z.z.gP Z.z.tP.sq) (o_inStrT g)) inP) (fun _ => dw_and (k := decide (rest.length = 2)) (k' := wrB n rest) (dt_of (dt_cmp (de_callB (id := "len") (da_cons (de_var 3) da_nil) (c_lenL g) T.len (by decide +kernel)) de_int o_eqI) (by rw [hlen]; exact decide_eq_decide.mpr (by omega))) (fun hb => dw_and1 (dt_val (de_call g cw (da_cons (de_var 3) (da_cons (de_var 1) da_nil)) ⟨n, rest, h1, h4, by have := of_decide_eq_true hb; omega, rfl, rfl, rfl⟩)))))) (by
        refine Bool.eq_false_iff.mpr fun q => hp ?_
        simp only [Bool.and_eq_true, decide_eq_true_eq] at q
        exact q)
    exact ⟨_, pre _ (dss_skip c2 (dss_skip c3 (dss_skip c4 (dss_skip c5 (dss_ret de_non))))), .rt⟩
theorem ok_readcB (F : Fun K "read_circuit" "read_circuit" sReadC f fd) (T : TM mg) (Z : TGx w K mg aS aT aW aA aP) (cr_ : Cf P w K mg base 5 "read_line" [] (relOr rReadL rReadLB)) (ci : Cf P w K mg base 1 "is_turn" [] rIsTurn) (cB : Ce P w K mg base 1 CB "BadCircuit") : FnOk P w K mg base (L2.CX P w) 6 f fd ["text"] (spD K (rReadCB CB)) := by
  refine fn_D (k := 5) F scReadC (fun ss μ r μ' h => by obtain ⟨_, _, _, _, rfl, _⟩ := h; rfl) ?_
  intro cdv A outer s0 H E N W ss μ r μ' g hA hR
  obtain ⟨L, m, hb, hrd, rfl, rfl, rfl⟩ := hR
  have hb' : L.length ≤ 5000 := hb
  have hz : (st L).length + 2 ≤ sizeLine := by rw [st_len]; exact sz (by omega)
  have hs := split_nl L
  obtain ⟨l1, l2⟩ := spl_len 10 L []
  obtain ⟨u1, hu1, ru1⟩ := Z.z.mtn
  obtain ⟨u2, hu2, ru2⟩ := Z.z.mln
  obtain ⟨es, md, Dk⟩ := Z.z.kS
  unfold rdC at hrd
  match hw : TL.spl [10] 0 [] L with
  | [] => exact absurd hw (spl_ne 10 L [])
  | first :: lines0 =>
    rw [hw] at hs l1 l2 hrd
    have hbr : ∀ t ∈ lines0, Bt t := fun t ht => by
      have := l1 t (List.mem_cons_of_mem _ ht)
      show t.length ≤ 5000
      simp at this
      omega
    have hlr : lines0.length ≤ 5001 := by rw [List.length_cons] at l2; omega
    simp only at hrd
    have pre : ∀ o, DSs (cxOf (L2.CX P w) P w K mg base rcN "read_circuit" (defScope sReadC) f cdv A outer s0 H E) N W [some (.p (.str (st L))), some (.p (.str (st first))), some (.p (.lst (txD lines0))), none, none, none, none, none, none] μ' ((defBody sReadC).drop 2) o → DSs (cxOf (L2.CX P w) P w K mg base rcN "read_circuit" (defScope sReadC) f cdv A outer s0 H E) N W (starts rcN [.p (.str (st L))]) μ' (defBody sReadC) o := fun o ho =>
      dss_skip (dt_not (dt_val (de_callB (id := "isinstance") (da_cons (de_var 0) (da_cons (de_ty T.str (by decide +kernel)) da_nil)) (c_isi g (.str _) (.ty _) kit_same) T.isinstance (by decide +kernel))))
      (dss_cons (ds_star 1 g (de_of (d' := .lst (txD (first :: lines0))) (de_bm PySem.F.plainAttrs_str PySem.F.slot_str_split PySem.F.type_str_split (de_var 0) (da_cons de_str da_nil) (m_split (by decide) hz)) (congrArg D.lst hs)) (dgs_cons (dg_name 1 g.nd) (dgs_last (dg_name 2 g.nd))) (by simp [txD]) rfl) (cn ho))
    cases hsz : szV first with
    | none =>
      rw [hsz] at hrd
      cases hrd
      exact ⟨_, pre _ (dss_ifT (dt_of (dt_cmp (de_var 1) (de_glob (v := .ref aS) Z.z.gS rfl (fun _ _ => .adr _)) (o_notInKd (r := none) Dk (Z.noS first hsz))) rfl) (dss_cons (ds_raise g cB (de_of (d' := .int ((1 : Nat) : Int)) de_int rfl)) cx) cx), .xx⟩
    | some n =>
      rw [hsz] at hrd
      simp only at hrd
      have hn : 1 ≤ n ∧ n ≤ 4 ∧ Cq.wT n = first := by
        unfold szV at hsz
        have q1 := List.mem_of_find?_eq_some hsz
        have q2 := List.find?_some hsz
        simp only [List.mem_cons, List.not_mem_nil, or_false] at q1
        exact ⟨by omega, by omega, of_decide_eq_true q2⟩
      obtain ⟨n1, n4, hf⟩ := hn
      obtain ⟨u3, hu3, ru3⟩ := Z.z.nS n n1 n4
      have hu3' : PySem.W.nsIn K aS (st first) = some (some u3) := hf ▸ hu3
      have hrs : rdS n 0 0 lines0 [] = .inl m := by
        cases hx : rdS n 0 0 lines0 [] with
        | inl k => rw [hx] at hrd; cases hrd; rfl
        | inr ls => rw [hx] at hrd; cases hrd
      have go : ∀ (lines : List (List Nat)) (k t : Nat) (done : List Ln) (δ : List (Option S)), (∀ l ∈ lines, Bt l) → k ≤ 40 → t ≤ 6 → done.length = k → rdS n k t lines done = .inl m → (∃ x6 x7 x8, δ = [some (.p (.str (st L))), some (.p (.str (st first))), some (.p (.lst (txD lines0))), some (.p (.int (n : Nat))), some (.l μ'.length), some (.p (.int (t : Nat))), x6, x7, x8]) →
          ∃ δ1 D1, Loop (cxOf (L2.CX P w) P w K mg base rcN "read_circuit" (defScope sReadC) f cdv A outer s0 H E) N W (asTup [asName 6, asName 7]) (bodyOf sReadC 6) (enumD k (txD lines)) δ (μ' ++ [.lst (done.map stpD)]) (.xx CB (.int (m : Nat)) δ1 (μ' ++ [.lst D1])) := by
        intro lines
        induction lines with
        | nil => intro k t done δ _ _ _ _ hr _; cases hr
        | cons l lines ih =>
          rintro k t done _ hbl hk ht hd hr ⟨x6, x7, x8, rfl⟩
          have raise : ∀ (c : Nat) (x8 : Option S), k + 2 = m → DSs (cxOf (L2.CX P w) P w K mg base rcN "read_circuit" (defScope sReadC) f cdv A outer s0 H E) N W [some (.p (.str (st L))), some (.p (.str (st first))), some (.p (.lst (txD lines0))), some (.p (.int (n : Nat))), some (.l μ'.length), some (.p (.int (c : Nat))), some (.p (.int (k : Nat))), some (.p (.str (st l))), x8] (μ' ++ [.lst (done.map stpD)]) [match (bodyOf sReadC 6).getD 2 (.Pass ⟨0, 0, 0, 0⟩) with | .If _ (s :: _) _ _ => s | s => s] (.xx CB (.int (m : Nat)) [some (.p (.str (st L))), some (.p (.str (st first))), some (.p (.lst (txD lines0))), some (.p (.int (n : Nat))), some (.l μ'.length), some (.p (.int (c : Nat))), some (.p (.int (k : Nat))), some (.p (.str (st l))), x8] (μ' ++ [.lst (done.map stpD)])) := fun c x8 hm =>
            dss_cons (ds_raise g cB (de_of (d' := .int (m : Nat)) (de_bin (de_var 6) de_int o_add) (congrArg D.int (by omega)))) cx
          cases hl : rdL n l with
          | none =>
            have hm : k + 2 = m := by
              unfold rdS at hr
              rw [hl] at hr
              exact Sum.inl.inj hr
            exact ⟨_, _, .exc rfl (dss_cons (ds_set 8 (de_call (r := .v (.p .non)) g cr_ (da_cons (de_var 7) (da_cons (de_var 3) da_nil)) (.inr ⟨n, l, n1, n4, hbl l (by simp), hl, rfl, rfl, rfl⟩)) g.nd) (cn
              (dss_skip (dt_w (k := false) (dw_and (k := false) (k' := true) (dt_of (dt_cmp (de_var 8) de_non o_notN) rfl) (fun h => by cases h)))
              (dss_ifT (dt_w (dw_or (k := true) (k' := true) (dt_of (dt_cmp (de_var 8) de_non o_isN) rfl) (fun h => by cases h))) (raise t _ hm) cx))))⟩
          | some s =>
            obtain ⟨oks, els⟩ := rdL_ok hl
            have hstep : DS (cxOf (L2.CX P w) P w K mg base rcN "read_circuit" (defScope sReadC) f cdv A outer s0 H E) N W [some (.p (.str (st L))), some (.p (.str (st first))), some (.p (.lst (txD lines0))), some (.p (.int (n : Nat))), some (.l μ'.length), some (.p (.int (t : Nat))), some (.p (.int (k : Nat))), some (.p (.str (st l))), x8] (μ' ++ [.lst (done.map stpD)]) ((bodyOf sReadC 6).getD 0 (.Pass ⟨0, 0, 0, 0⟩)) (.nx [some (.p (.str (st L))), some (.p (.str (st first))), some (.p (.lst (txD lines0))), some (.p (.int (n : Nat))), some (.l μ'.length), some (.p (.int (t : Nat))), some (.p (.int (k : Nat))), some (.p (.str (st l))), some (.p (stpD s))] (μ' ++ [.lst (done.map stpD)])) :=
              ds_set 8 (de_call (r := .v (.p (stpD s))) g cr_ (da_cons (de_var 7) (da_cons (de_var 3) da_nil)) (.inl ⟨n, s, n1, n4, oks, by rw [els]; rfl, rfl, rfl⟩)) g.nd
            obtain ⟨t1, ht1⟩ : ∃ t1, t1 = t + (if isT s then 1 else 0) := ⟨_, rfl⟩
            have hturn : ∀ o, DSs (cxOf (L2.CX P w) P w K mg base rcN "read_circuit" (defScope sReadC) f cdv A outer s0 H E) N W [some (.p (.str (st L))), some (.p (.str (st first))), some (.p (.lst (txD lines0))), some (.p (.int (n : Nat))), some (.l μ'.length), some (.p (.int (t1 : Nat))), some (.p (.int (k : Nat))), some (.p (.str (st l))), some (.p (stpD s))] (μ' ++ [.lst (done.map stpD)]) ((bodyOf sReadC 6).drop 2) o → DSs (cxOf (L2.CX P w) P w K mg base rcN "read_circuit" (defScope sReadC) f cdv A outer s0 H E) N W [some (.p (.str (st L))), some (.p (.str (st first))), some (.p (.lst (txD lines0))), some (.p (.int (n : Nat))), some (.l μ'.length), some (.p (.int (t : Nat))), some (.p (.int (k : Nat))), some (.p (.str (st l))), some (.p (stpD s))] (μ' ++ [.lst (done.map stpD)]) ((bodyOf sReadC 6).drop 1) o := fun o ho => by
              have hcond : ∀ b, isT s = b → DT (cxOf (L2.CX P w) P w K mg base rcN "read_circuit" (defScope sReadC) f cdv A outer s0 H E) N W [some (.p (.str (st L))), some (.p (.str (st first))), some (.p (.lst (txD lines0))), some (.p (.int (n : Nat))), some (.l μ'.length), some (.p (.int (t : Nat))), some (.p (.int (k : Nat))), some (.p (.str (st l))), some (.p (stpD s))] (μ' ++ [.lst (done.map stpD)]) (match (bodyOf sReadC 6).getD 1 (.Pass ⟨0, 0, 0, 0⟩) with | .If c _ _ _ => c | _ => .Constant .none 0 ⟨0, 0, 0, 0⟩) b (μ' ++ [.lst (done.map stpD)]) := by
                rintro b rfl
                exact dt_of (dt_w (dw_and (k := true) (k' := isT s) (dt_of (dt_cmp (de_var 8) de_non o_notN) (by rw [isNon_stp]; rfl)) (fun _ => dw_and1 (dt_val (de_call g ci (da_cons (de_var 8) da_nil) ⟨s, rfl, rfl, rfl⟩))))) (Bool.true_and _)
              cases hT : isT s with
              | true =>
                rw [hT, if_pos rfl] at ht1
                subst ht1
                rw [Int.natCast_add] at ho
                exact dss_ifT (hcond true hT) (dss_cons (ds_inc 5 de_int rfl g.nd) (cn dss_nil)) (cn ho)
              | false =>
                rw [hT, if_neg (by decide)] at ht1
                subst ht1
                exact dss_skip (hcond false hT) ho
            have hlast : ∀ q : Bool, (decide (6 < t1) || decide (k = 40)) = q → DT (cxOf (L2.CX P w) P w K mg base rcN "read_circuit" (defScope sReadC) f cdv A outer s0 H E) N W [some (.p (.str (st L))), some (.p (.str (st first))), some (.p (.lst (txD lines0))), some (.p (.int (n : Nat))), some (.l μ'.length), some (.p (.int (t1 : Nat))), some (.p (.int (k : Nat))), some (.p (.str (st l))), some (.p (stpD s))] (μ' ++ [.lst (done.map stpD)]) (match (bodyOf sReadC 6).getD 2 (.Pass ⟨0, 0, 0, 0⟩) with | .If c _ _ _ => c | _ => .Constant .none 0 ⟨0, 0, 0, 0⟩) q (μ' ++ [.lst (done.map stpD)]) := fun q hq =>
              dt_of (dt_w (dw_or (k := false) (k' := q) (dt_of (dt_cmp (de_var 8) de_non o_isN) (isNon_stp s)) (fun _ => hq ▸ dw_or (k := decide (6 < t1)) (k' := decide (k = 40)) (dt_of (dt_cmp (de_var 5) (de_glob hu1 ru1 (fun _ _ => .int 6)) o_gt) (decide_eq_decide.mpr (by omega))) (fun _ => dw_or1 (dt_of (dt_cmp (de_var 6) (de_glob hu2 ru2 (fun _ _ => .int 40)) o_eqI) (decide_eq_decide.mpr (by omega))))))) (Bool.false_or q)
            unfold rdS at hr
            rw [hl] at hr
            simp only at hr
            rw [← ht1] at hr
            by_cases hbad : 6 < t1 ∨ k = 40
            · rw [if_pos hbad] at hr
              have hm : k + 2 = m := Sum.inl.inj hr
              exact ⟨_, _, .exc rfl (dss_cons hstep (cn (hturn _ (dss_ifT (hlast true (by simpa using hbad)) (raise t1 _ hm) cx))))⟩
            · rw [if_neg hbad] at hr
              obtain ⟨δ1, D1, hlo⟩ := ih (k + 1) t1 (done ++ [s]) [some (.p (.str (st L))), some (.p (.str (st first))), some (.p (.lst (txD lines0))), some (.p (.int (n : Nat))), some (.l μ'.length), some (.p (.int (t1 : Nat))), some (.p (.int (k : Nat))), some (.p (.str (st l))), some (.p (stpD s))] (fun x hx => hbl x (by simp [hx])) (by omega) (by omega) (by rw [List.length_append, hd]; rfl) hr ⟨_, _, _, rfl⟩
              have e1 : μ' ++ [M.lst ((done ++ [s]).map stpD)] = (μ' ++ [M.lst (done.map stpD)]).set μ'.length (.lst (done.map stpD ++ [stpD s])) := by rw [end_set rfl, List.map_append]; rfl
              rw [e1] at hlo
              exact ⟨_, _, .next rfl (dss_cons hstep (cn (hturn _ (dss_skip (hlast false (by simpa using hbad)) (dss_cons (ds_expr (de_bm PySem.F.plainAttrs_list PySem.F.slot_list_append PySem.F.type_list_append (de_var 4) (da_cons (de_var 8) da_nil) (m_append (end_at rfl) (end_at rfl) (by rw [List.length_map]; exact sz' (by omega))))) (cn dss_nil)))))) hlo⟩
      obtain ⟨δ1, D1, hlo⟩ := go lines0 0 0 [] [some (.p (.str (st L))), some (.p (.str (st first))), some (.p (.lst (txD lines0))), some (.p (.int (n : Nat))), some (.l μ'.length), some (.p (.int ((0 : Nat) : Int))), none, none, none] hbr (by omega) (by omega) rfl hrs ⟨_, _, _, rfl⟩
      refine ⟨_, pre _ (dss_skip (dt_of (dt_cmp (de_var 1) (de_glob (v := .ref aS) Z.z.gS rfl (fun _ _ => .adr _)) (o_notInKd (r := some u3) Dk hu3')) rfl)
        (dss_cons (ds_set 3 (de_kdIx Dk (de_glob (v := .ref aS) Z.z.gS rfl (fun _ _ => .adr _)) (de_var 1) hu3' ru3 (fun _ _ => .int _)) g.nd) (cn
        (dss_cons (ds_set 4 (de_lstM dp_nil) g.nd) (cn
        (dss_cons (ds_set 5 de_int g.nd) (cn
        (dss_cons (ds_for g (di_enum g (da_cons (de_var 2) da_nil) T.enum) (dg_tup (dgs_cons (dg_name 6 g.nd) (dgs_cons (dg_name 7 g.nd) dgs_nil)) g.hK g.calm) hlo) cx)))))))), ?_⟩
      have e2 : (μ' ++ [M.lst D1]).take μ'.length = μ' := by rw [List.take_append_of_le_length (Nat.le_refl _), List.take_length]
      conv => rhs; rw [← e2]
      exact .xxT (Nat.le_refl _)
theorem ok_cinitB (F : Fun K "__init__" "Circuit.__init__" sCInit f fd) (cr_ : Cf P w K mg base 6 "read_circuit" [] (rReadCB CB)) : FnOk P w K mg base (L2.CX P w) 7 f fd ["self", "text"] (spD K (rCInitB CC CB)) := by
  refine fn_D (k := 6) F scCInit (fun ss μ r μ' h => by obtain ⟨_, _, _, _, _, rfl, _⟩ := h; rfl) ?_
  intro cdv A outer s0 H E N W ss μ r μ' g hA hR
  obtain ⟨j, L, k, hb, hrd, rfl, hj, rfl, rfl⟩ := hR
  exact ⟨_, dss_cons (ds_asgX (de_call g cr_ (da_cons (de_var 1) da_nil) ⟨L, k, hb, hrd, rfl, rfl, rfl⟩) (dg_tup (dgs_cons (dg_name 2 g.nd) (dgs_cons (dg_name 3 g.nd) (dgs_cons (dg_name 4 g.nd) dgs_nil))) g.hK g.calm)) cx, .xx⟩
end
end K20
set_option Elab.async false
set_option linter.all false
set_option maxRecDepth 100000
set_option maxHeartbeats 4000000
set_option autoImplicit false
namespace Dl
open PySem PySem.Spec PyProof.Rows L2
section
variable {X : Cx} {N : En} {W : WX} {n : Nat} {δ : List (Option S)} {μ μ1 μ2 : List M} {elt tg iter : Expr} {ds ys : List D} {scope : Scope} {f : As} {ix : List Nat}
/-- name = [..], a list that changes -/
theorem ds_setLcM (i : Nat) {x : Str} {py pos spos : Pos} (g : Go X N W n) (own : List (Str × Nat)) (hi : DI X N W δ μ tg iter ds μ1) (hg : ∀ s H C cl fp, DG (blkX X scope s H C cl fp) N tg f ix) (hl : CmpL (El0 X N.K n scope elt) f (wipeD δ (own.map (·.2))) ds μ1 ys μ2)
    (hsw : swapsWith (.ListComp elt [⟨tg, iter, [], 0⟩] scope pos) (some (.Name x py)) spos.line X.env = pure true := by exact sw_true rfl rfl rfl (by decide +kernel)) (hy : X.N[i]? = some x := by rfl) (hyl : X.env.scope.names.lookup x = some .local := by rfl)
    (ok : BlkOk X.N X.env.scope scope own := by exact blkOk_by (by decide +kernel)) (hds : ds.length < sizeLine := by first | (show _ < sizeLine; decide) | (simp; decide)) (hix : ∀ i ∈ ix, i ∈ own.map (·.2) := by decide) (hs : ∀ x, foldedSetIterable iter X.env x = pure x := by intro _; rfl) :
    DS X N W δ μ (.Assign [.Name x py] (.ListComp elt [⟨tg, iter, [], 0⟩] scope pos) spos) (.nx (δ.set i (some (.l μ2.length))) (μ2 ++ [.lst ys])) :=
  PS.imp (ps_setLc (own := own) g.calm g.nd hy hyl hsw hi ok hg (fun _ _ _ _ _ => pts_nil) (fun s H C cl fp => pe_teB g) hs) fun K σ H ⟨F, A, R, k⟩ =>
    lc_read g _ hds hix hl (hP0 g) R (lc_mut (W := W) R (show EndE N W σ δ F A (μ2 ++ [.lst ys]) _ (.v (.l μ2.length)) from fun v F' A' H' e p R' rv => k _ F' A' H' e p (R'.set rv)))
/-- a changing list beside data -/
theorem o_eqM (g : Go X N W n) {j : Nat} {ds : List D} {d2 : D} {p1 p2 : PyData} {q : Bool} (hj : μ[j]? = some (.lst ds)) (h1 : PyD (.lst ds) p1) (h2 : PyD d2 p2) (s1 : SeqAt.shaped p1 = true) (s2 : SeqAt.shaped p2 = true) (hq : PyData.eqv p1 p2 = q) : OpOk X N W (compareOp .Eq) μ (.l j) (.p d2) (.v (.p (.bl q))) μ :=
  ⟨_, op_eqD (by have := g.room.un; omega), fun σ δ F A H x y Q R rx ry k => ⟨p1, p2, by
    obtain ⟨a, rfl, ha⟩ := rx
    obtain ⟨ws, h3, h4⟩ := R.rc.mus j a _ ha hj
    rw [← g.hK]
    have hfa := R.rc.fr j a _ ha hj trivial
    have sm : Same F H := R.rc.sub
    have smu : Same (upd F a (.lst ws)) H := fun b o e => by
      by_cases hb : b = a
      · subst hb; rw [upd_same] at e; cases e; exact h3
      · rw [upd_ne hb] at e; exact sm b o e
    exact h1.dp smu (.lst upd_same (h4.mono (same_updN hfa))), by rw [← g.hK]; exact h2.dp R.rc.sub ry, s1, s2, by rw [hq]; exact k.here R (.bl _)⟩⟩
/-- a comprehension whose elements depend on what goes on changing -/
def scanO {T α β : Type} (y : α → T → β) (nx : α → T → T) : List α → T → List β
  | [], _ => []
  | a :: l, t => y a t :: scanO y nx l (nx a t)
def scanT {T α : Type} (nx : α → T → T) : List α → T → T
  | [], t => t
  | a :: l, t => scanT nx l (nx a t)
theorem scanO_map {T α β γ : Type} (q : β → γ) (y : α → T → β) (nx : α → T → T) : ∀ (l : List α) (t : T), scanO (fun a t => q (y a t)) nx l t = (scanO y nx l t).map q
  | [], _ => rfl
  | a :: l, t => by
    show q (y a t) :: scanO (fun a t => q (y a t)) nx l (nx a t) = _
    rw [scanO_map q y nx l]
    rfl
theorem scanO_len {T α β : Type} (y : α → T → β) (nx : α → T → T) : ∀ (l : List α) (t : T), (scanO y nx l t).length = l.length
  | [], _ => rfl
  | a :: l, t => congrArg (· + 1) (scanO_len y nx l (nx a t))
theorem scanO_all {T α β : Type} {y : α → T → β} {nx : α → T → T} {P : β → Prop} (I : T → Prop) (hI : ∀ a t, I t → I (nx a t)) (hP : ∀ a t, I t → P (y a t)) : ∀ (l : List α) (t : T), I t → ∀ b ∈ scanO y nx l t, P b
  | [], _, _, b, h => by cases h
  | a :: l, t, hi, b, h => by
    rcases List.mem_cons.mp h with rfl | h
    · exact hP a t hi
    · exact scanO_all I hI hP l (nx a t) (hI a t hi) b h
theorem of_scan {T α : Type} {K : PySem.W.Frag} {nn : Nat} {gd : α → D} {y : α → T → D} {nx : α → T → T} {mu : T → List M} (I : Nat → T → Prop) : ∀ (l : List α) (t : T), I l.length t →
    (∀ n t a, a ∈ l → I (n + 1) t → I n (nx a t) ∧ ∃ δt, f (gd a) δ = some δt ∧ DEB X K nn scope elt δt (mu t) (y a t) (mu (nx a t))) → CmpL (El0 X K nn scope elt) f δ (l.map gd) (mu t) (scanO y nx l t) (mu (scanT nx l t))
  | [], t, _, _ => .nil
  | a :: l, t, hi, h => by
    obtain ⟨h1, δt, h2, h3⟩ := h l.length t a (by simp) hi
    exact .keep h2 ⟨_, rfl, h3⟩ (of_scan I l (nx a t) h1 fun n t b hb => h n t b (by simp [hb]))
end
end Dl
set_option Elab.async false
set_option linter.all false
set_option maxRecDepth 100000
set_option maxHeartbeats 4000000
set_option autoImplicit false
namespace K20
open PySem PySem.Spec PyProof.Rows L2 Dl Cq
theorem scPot : FnScope ["script", "place", "cell", "own", "small"] ["script", "place"] (defScope sPot) := ⟨rfl, rfl, rfl, by decide +kernel, rfl, by decide +kernel, by decide +kernel⟩
theorem scTake : FnScope ["pot", "upto", "digit", "prime", "blend"] ["pot", "upto"] (defScope sTake) := ⟨rfl, rfl, rfl, by decide +kernel, rfl, by decide +kernel, by decide +kernel⟩
theorem scOf : FnScope ["pot", "some"] ["pot", "some"] (defScope sOf) := ⟨rfl, rfl, rfl, by decide +kernel, rfl, by decide +kernel, by decide +kernel⟩
theorem scCells : FnScope ["script", "most"] ["script", "most"] (defScope sCells) := ⟨rfl, rfl, rfl, by decide +kernel, rfl, by decide +kernel, by decide +kernel⟩
theorem scSome : FnScope ["pot", "pool", "many", "rest", "found", "lap"] ["pot", "pool", "many"] (defScope sSome) := ⟨rfl, rfl, rfl, by decide +kernel, rfl, by decide +kernel, by decide +kernel⟩
theorem scWText : FnScope ["word"] ["word"] (defScope sWText) := ⟨rfl, rfl, rfl, by decide +kernel, rfl, by decide +kernel, by decide +kernel⟩
theorem scDWord : FnScope ["pot", "wires", "letters", "wire"] ["pot", "wires"] (defScope sDWord) := ⟨rfl, rfl, rfl, by decide +kernel, rfl, by decide +kernel, by decide +kernel⟩
/-! ### the pot of digits -/
structure Pot where
  a : Int
  b : Int
  c : Int
def Pot.m (p : Pot) : M := .lst [.int p.a, .int p.b, .int p.c]
structure Pot.ok (n : Nat) (p : Pot) : Prop where
  b0 : 0 ≤ p.b
  b1 : p.b < 2 ^ 62
  c0 : 0 ≤ p.c
  c1 : p.c ≤ n
def absF (c : Int) : Int := if c < 0 then -c else c
def cellF (ns : List Int) (i : Nat) : Int := if i < ns.length then ns.getD i 0 else 129 * (i : Int) + 57
def potF (ns : List Int) (i : Nat) : Pot :=
  ⟨absF (cellF ns i) % ((10 ^ 60) ^ 5) * (if decide ((10 : Int) ^ 18 ≤ absF (cellF ns i)) then 1 else 0), (cellF ns i % 2305843009213693951 * 72153 + 7373 * (i : Int) * (i : Int) + 197) % 2305843009213693921, 0⟩
theorem potF_ok (ns : List Int) (i : Nat) : (potF ns i).ok 0 :=
  ⟨Int.emod_nonneg _ (by decide), Int.lt_trans (Int.emod_lt_of_pos _ (by decide)) (by decide), Int.le_refl _, Int.le_refl _⟩
def primeF (c : Int) : Int := ([2147483647, 2147483629, 2147483587, 2147483579, 2147483563] : List Int).getD (c % 5).toNat 0
def blendF (b c : Int) : Int := (b + 99871 * c * c + 107) ^ 3 % primeF c
def takeF (p : Pot) (u : Int) : Int × Pot :=
  if 0 < p.a then (p.a % u, ⟨p.a / u, p.b, p.c⟩) else (blendF p.b (p.c + 1) * (blendF p.b (p.c + 1) % 10271 + 143 * (p.c + 1)) / 149 % u, ⟨p.a, p.b, p.c + 1⟩)
theorem takeF_ok {n : Nat} {p : Pot} {u : Int} (h : p.ok n) : (takeF p u).2.ok (n + 1) := by
  obtain ⟨h1, h2, h3, h4⟩ := h
  unfold takeF
  split
  · exact ⟨h1, h2, h3, by show p.c ≤ _; omega⟩
  · exact ⟨h1, h2, by show 0 ≤ p.c + 1; omega, by show p.c + 1 ≤ _; omega⟩
theorem takeF_lt {p : Pot} {u : Int} (h : 0 < u) : 0 ≤ (takeF p u).1 ∧ (takeF p u).1 < u := by
  unfold takeF
  split
  · exact ⟨Int.emod_nonneg _ (by omega), Int.emod_lt_of_pos _ h⟩
  · exact ⟨Int.emod_nonneg _ (by omega), Int.emod_lt_of_pos _ h⟩
theorem prime_in (c : Int) : ∃ k : Nat, c % 5 = (k : Int) ∧ k < 5 := by
  have h1 := Int.emod_nonneg c (show (5 : Int) ≠ 0 by decide)
  have h2 := Int.emod_lt_of_pos c (show (0 : Int) < 5 by decide)
  exact ⟨(c % 5).toNat, by omega, by omega⟩
theorem prime_at (c : Int) : atI [D.int 2147483647, .int 2147483629, .int 2147483587, .int 2147483579, .int 2147483563] (c % 5) = some (.int (primeF c)) := by
  obtain ⟨k, h1, h2⟩ := prime_in c
  unfold primeF
  rw [h1]
  match k, h2 with
  | 0, _ => rfl
  | 1, _ => rfl
  | 2, _ => rfl
  | 3, _ => rfl
  | 4, _ => rfl
theorem prime_pos (c : Int) : 0 < primeF c ∧ primeF c < 2 ^ 31 := by
  obtain ⟨k, h1, h2⟩ := prime_in c
  unfold primeF
  rw [h1]
  match k, h2 with
  | 0, _ => decide
  | 1, _ => decide
  | 2, _ => decide
  | 3, _ => decide
  | 4, _ => decide
theorem blend_pos (b c : Int) : 0 ≤ blendF b c ∧ blendF b c < 2 ^ 31 := by
  have h := prime_pos c
  exact ⟨Int.emod_nonneg _ (by omega), Int.lt_trans (Int.emod_lt_of_pos _ h.1) h.2⟩
def rPot : Rel := fun ss μ r μ' => ∃ (ns : List Int) (i : Nat), i ≤ 100 ∧ ss = [.p (.sc ns), .p (.int (i : Int))] ∧ r = .v (.l μ.length) ∧ μ' = μ ++ [(potF ns i).m]
def rTake : Rel := fun ss μ r μ' => ∃ (j : Nat) (p : Pot) (u : Int), p.ok 9000 ∧ 0 < u ∧ u < 1000 ∧ ss = [.l j, .p (.int u)] ∧ μ[j]? = some p.m ∧ r = .v (.p (.int (takeF p u).1)) ∧ μ' = μ.set j (takeF p u).2.m
section
variable {P : Program} {w : World} {K : PySem.W.Frag} {mg : Str → Option Value} {base : Heap} {f C : Addr} {fd : FuncData}
theorem cell_at {ns : List Int} {i : Nat} (h : i < ns.length) : ns[i]? = some (cellF ns i) := by
  unfold cellF
  rw [if_pos h, List.getD, List.getElem?_eq_getElem h]
  rfl
theorem ite01 (q : Bool) : -(2 ^ 64) < (if q then (1 : Int) else 0) ∧ (if q then (1 : Int) else 0) < 2 ^ 64 := by cases q <;> decide
theorem ok_pot (F : Fun K "_law_pot" "_law_pot" sPot f fd) (T : TM mg) : FnOk P w K mg base (L2.CX P w) 1 f fd ["script", "place"] (spD K rPot) := by
  refine fn_D (k := 0) F scPot (fun ss μ r μ' h => by obtain ⟨ns, i, _, rfl, _⟩ := h; rfl) ?_
  intro cdv A0 outer s0 H E N W ss μ r μ' g hA hR
  obtain ⟨ns, i, hi, rfl, rfl, rfl⟩ := hR
  refine ⟨_, dss_cons (ds_set 2 (de_if (r := .v (.p (.int (cellF ns i)))) (k := decide ((i : Int) < (ns.length : Int))) (dt_cmp (de_var 1) (de_callB (id := "len") (da_cons (de_var 0) da_nil) (c_lenSc g) T.len (by decide +kernel)) o_lt)
      (fun h => de_ix (de_var 0) (de_var 1) (i_sc g (cell_at (by have := of_decide_eq_true h; omega)))) (fun h => de_of (de_bin (de_bin de_int (de_var 1) (o_mul (.inl (by decide)))) de_int o_add) (congrArg D.int ?_))) g.nd) (cn
    (dss_cons (ds_set 3 (de_of (de_bin (de_bin (de_callT (T := "int") (da_cons (de_callB (id := "abs") (da_cons (de_var 2) da_nil) c_abs T.abs (by decide +kernel)) da_nil) c_int T.int (by decide +kernel)) (de_bin (de_bin de_int de_int (o_pow ?_)) de_int (o_pow ?_)) (o_mod ?_))
      (de_callT (T := "int") (da_cons (de_cmp (de_callB (id := "abs") (da_cons (de_var 2) da_nil) c_abs T.abs (by decide +kernel)) (de_bin de_int de_int (o_pow ?_)) o_ge) da_nil) c_intB T.int (by decide +kernel)) (o_mul (.inr ?_))) (congrArg D.int (show _ = (potF ns i).a from rfl))) g.nd) (cn
    (dss_cons (ds_set 4 (de_bin (de_callT (T := "int") (da_cons (de_var 2) da_nil) c_int T.int (by decide +kernel)) de_int (o_mod (by decide))) g.nd) (cn
    (dss_ret (de_lstM (dp_cons (de_var 3) (dp_cons (de_of (de_bin (de_callT (T := "int") (da_cons (de_bin (de_bin (de_bin (de_var 4) de_int (o_mul (.inr (by decide)))) (de_bin (de_bin de_int (de_var 1) (o_mul (.inl (by decide)))) (de_var 1) (o_mul (.inr (by omega)))) o_add) de_int o_add) da_nil) c_int T.int (by decide +kernel)) de_int (o_mod (by decide))) (congrArg D.int (show _ = (potF ns i).b from rfl))) (dp_cons (de_of de_int (congrArg D.int (show _ = (potF ns i).c from rfl))) dp_nil)))))))))), .rt⟩
  · unfold cellF
    rw [if_neg (fun z => of_decide_eq_false h (by omega))]
  · exact ⟨by decide, by decide +kernel⟩
  · exact ⟨by decide, by decide +kernel⟩
  · decide +kernel
  · exact ⟨by decide, by decide +kernel⟩
  · exact ite01 _
theorem set_at {μ : List M} {j : Nat} {m x : M} (h : μ[j]? = some m) : (μ.set j x)[j]? = some x := List.getElem?_set_self (List.getElem?_eq_some_iff.mp h).1
theorem ok_take (F : Fun K "_law_take" "_law_take" sTake f fd) (T : TM mg) : FnOk P w K mg base (L2.CX P w) 1 f fd ["pot", "upto"] (spD K rTake) := by
  refine fn_D (k := 0) F scTake (fun ss μ r μ' h => by obtain ⟨j, p, u, _, _, _, rfl, _⟩ := h; rfl) ?_
  intro cdv A0 outer s0 H E N W ss μ r μ' g hA hR
  obtain ⟨j, p, u, hp, hu, hu2, rfl, hj, rfl, rfl⟩ := hR
  obtain ⟨b0, b1, c0, c1⟩ := hp
  by_cases ha : 0 < p.a
  · have e : takeF p u = (p.a % u, ⟨p.a / u, p.b, p.c⟩) := if_pos ha
    rw [e]
    exact ⟨_, dss_ifT (dt_of (dt_cmp (de_ix (de_var 0) de_int (i_lstM (i := 0) hj rfl)) de_int o_gt) (decide_eq_true ha))
      (dss_cons (ds_set 2 (de_bin (de_callT (T := "int") (da_cons (de_ix (de_var 0) de_int (i_lstM (i := 0) hj rfl)) da_nil) c_int T.int (by decide +kernel)) (de_var 1) (o_mod hu)) g.nd) (cn
      (dss_cons (ds_setM (de_bin (de_ix (de_var 0) de_int (i_lstM (i := 0) hj rfl)) (de_var 1) (o_div ⟨hu, by omega⟩)) (de_var 0) de_int hj rfl) (cn
      (dss_ret (de_var 2)))))) cr, .rt⟩
  · have e : takeF p u = (blendF p.b (p.c + 1) * (blendF p.b (p.c + 1) % 10271 + 143 * (p.c + 1)) / 149 % u, ⟨p.a, p.b, p.c + 1⟩) := if_neg ha
    rw [e]
    have hc : (0 : Int) ≤ p.c + 1 ∧ p.c + 1 ≤ 9001 := by omega
    have hb := blend_pos p.b (p.c + 1)
    have hm : 99871 * (p.c + 1) * (p.c + 1) ≤ 99871 * 9001 * 9001 := Int.mul_le_mul (by omega) hc.2 hc.1 (by decide)
    have hm0 : 0 ≤ 99871 * (p.c + 1) * (p.c + 1) := Int.mul_nonneg (by omega) hc.1
    refine ⟨_, dss_skip (dt_of (dt_cmp (de_ix (de_var 0) de_int (i_lstM (i := 0) hj rfl)) de_int o_gt) (decide_eq_false ha))
      (dss_cons (ds_setM (de_bin (de_ix (de_var 0) de_int (i_lstM (i := 2) hj rfl)) de_int o_add) (de_var 0) de_int hj rfl) (cn
      (dss_cons (ds_set 3 (de_ix (de_lst (dp_cons de_int (dp_cons de_int (dp_cons de_int (dp_cons de_int (dp_cons de_int dp_nil)))))) (de_bin (de_callT (T := "int") (da_cons (de_ix (de_var 0) de_int (i_lstM (i := 2) (set_at hj) rfl)) da_nil) c_int T.int (by decide +kernel)) de_int (o_mod (by decide))) (i_lst g (prime_at _))) g.nd) (cn
      (dss_cons (ds_set 4 (de_of (de_bin (de_callT (T := "int") (da_cons (de_bin (de_callT (T := "int") (da_cons (de_bin (de_bin (de_ix (de_var 0) de_int (i_lstM (i := 1) (set_at hj) rfl)) (de_bin (de_bin de_int (de_ix (de_var 0) de_int (i_lstM (i := 2) (set_at hj) rfl)) (o_mul (.inl (by decide)))) (de_ix (de_var 0) de_int (i_lstM (i := 2) (set_at hj) rfl)) (o_mul (.inr (by omega)))) o_add) de_int o_add) da_nil) c_int T.int (by decide +kernel)) de_int (o_pow ?_)) da_nil) c_int T.int (by decide +kernel)) (de_var 3) (o_mod (prime_pos _).1)) (congrArg D.int (show _ = blendF p.b (p.c + 1) from rfl))) g.nd) (cn
      (dss_ret (de_bin (de_callT (T := "int") (da_cons (de_bin (de_bin (de_var 4) (de_bin (de_bin (de_callT (T := "int") (da_cons (de_var 4) da_nil) c_int T.int (by decide +kernel)) de_int (o_mod (by decide))) (de_bin de_int (de_ix (de_var 0) de_int (i_lstM (i := 2) (set_at hj) rfl)) (o_mul (.inl (by decide)))) o_add) (o_mul (.inl (by omega)))) de_int (o_div ⟨by decide, by decide⟩)) da_nil) c_int T.int (by decide +kernel)) (de_var 1) (o_mod hu))))))))), .rt⟩
    refine ⟨by decide, ?_⟩
    have hx := intBits_le_64 (k := p.b + 99871 * (p.c + 1) * (p.c + 1) + 107) (by omega) (by omega)
    show ((Builtin.Int.intBits (p.b + 99871 * (p.c + 1) * (p.c + 1) + 107) : Nat) : Int) * 3 ≤ _
    omega
end
theorem Pot.ok.mono {n m : Nat} {p : Pot} (h : p.ok n) (q : n ≤ m) : p.ok m := ⟨h.b0, h.b1, h.c0, by have := h.c1; omega⟩
theorem set_self {μ : List M} {j : Nat} {m : M} (h : μ[j]? = some m) : μ.set j m = μ := by
  obtain ⟨h1, h2⟩ := List.getElem?_eq_some_iff.mp h
  subst h2
  exact List.set_getElem_self h1
/-! ### choices -/
def tk (p : Pot) (u : Nat) : Nat := (takeF p u).1.toNat
def tkP (p : Pot) (u : Nat) : Pot := (takeF p u).2
theorem tk_lt {p : Pot} {u : Nat} (h : 0 < u) : tk p u < u := by
  have := takeF_lt (p := p) (u := (u : Int)) (by omega)
  unfold tk
  omega
theorem tk_eq {p : Pot} {u : Nat} (h : 0 < u) : (takeF p u).1 = ((tk p u : Nat) : Int) := by
  have := takeF_lt (p := p) (u := (u : Int)) (by omega)
  unfold tk
  omega
theorem tkP_ok {n : Nat} {p : Pot} {u : Nat} (h : p.ok n) : (tkP p u).ok (n + 1) := takeF_ok h
def rTk : Rel := fun ss μ r μ' => ∃ (j : Nat) (p : Pot) (u : Nat), p.ok 9000 ∧ 0 < u ∧ u < 1000 ∧ ss = [.l j, .p (.int (u : Nat))] ∧ μ[j]? = some p.m ∧ r = .v (.p (.int (tk p u : Nat))) ∧ μ' = μ.set j (tkP p u).m
theorem tk_of {ss : List S} {μ : List M} {r : Rx} {μ' : List M} (h : rTk ss μ r μ') : rTake ss μ r μ' := by
  obtain ⟨j, p, u, h1, h2, h3, h4, h5, h6, h7⟩ := h
  exact ⟨j, p, (u : Int), h1, by omega, by omega, h4, h5, by rw [h6, tk_eq h2], h7⟩
def rOf : Rel := fun ss μ r μ' => ∃ (j : Nat) (p : Pot), p.ok 9000 ∧ μ[j]? = some p.m ∧
  ((∃ (α : Type) (q : α → D) (d : α) (l : List α), l ≠ [] ∧ l.length < 100 ∧ ss = [.l j, .p (.lst (l.map q))] ∧ r = .v (.p (q (l.getD (tk p l.length) d))) ∧ μ' = μ.set j (tkP p l.length).m) ∨
   (∃ (L : List Nat), L ≠ [] ∧ L.length < 100 ∧ ss = [.l j, .p (.str (st L))] ∧ r = .v (.p (.str ⟨#[L.getD (tk p L.length) 0]⟩)) ∧ μ' = μ.set j (tkP p L.length).m))
theorem at_getD {α : Type} {q : α → D} {d : α} {l : List α} {i : Nat} (h : i < l.length) : atI (l.map q) ((i : Nat) : Int) = some (q (l.getD i d)) := by
  refine atI_nat ?_
  rw [List.getElem?_map, List.getElem?_eq_getElem h, List.getD_eq_getElem?_getD, List.getElem?_eq_getElem h]
  rfl
theorem at_getN {l : List Nat} {d i : Nat} (h : i < l.length) : atI l ((i : Nat) : Int) = some (l.getD i d) := by
  refine atI_nat ?_
  rw [List.getElem?_eq_getElem h, List.getD_eq_getElem?_getD, List.getElem?_eq_getElem h]
  rfl
def cellsN (ns : List Int) : Nat := max 1 (min 4 ns.length)
def rCells : Rel := fun ss μ r μ' => ∃ (ns : List Int), ss = [.p (.sc ns), .p (.int 4)] ∧ r = .v (.p (.lst (rangeD 0 (cellsN ns)))) ∧ μ' = μ
def tupW (L : List Nat) (s : Int) : D := .tup [.int s, .str (st L)]
def rWText : Rel := fun ss μ r μ' => ∃ (L : List Nat) (s : Int), L.length ≤ 4 ∧ ss = [.p (tupW L s)] ∧ r = .v (.p (.str (st (sgL L s)))) ∧ μ' = μ
section
variable {P : Program} {w : World} {K : PySem.W.Frag} {mg : Str → Option Value} {base : Heap} {f C : Addr} {fd : FuncData}
theorem ok_tk (F : Fun K "_law_take" "_law_take" sTake f fd) (T : TM mg) : FnOk P w K mg base (L2.CX P w) 1 f fd ["pot", "upto"] (spD K rTk) := by
  exact (ok_take (P := P) (w := w) (base := base) F T).imp fun vs H Q E h => by
    obtain ⟨F1, A1, ss, μ, r, μ', h1, h2⟩ := h
    exact ⟨F1, A1, ss, μ, r, μ', tk_of h1, h2⟩
theorem ok_of (F : Fun K "_law_of" "_law_of" sOf f fd) (T : TM mg) (ct : Cf P w K mg base 1 "_law_take" [] rTk) : FnOk P w K mg base (L2.CX P w) 2 f fd ["pot", "some"] (spD K rOf) := by
  refine fn_D (k := 1) F scOf (fun ss μ r μ' h => by obtain ⟨j, p, _, _, (⟨_, _, _, _, _, _, rfl, _⟩ | ⟨L, _, _, rfl, _⟩)⟩ := h <;> rfl) ?_
  intro cdv A0 outer s0 H E N W ss μ r μ' g hA hR
  obtain ⟨j, p, hp, hj, (⟨α, q, d, l, h0, h1, rfl, rfl, rfl⟩ | ⟨L, h0, h1, rfl, rfl, rfl⟩)⟩ := hR
  · have h2 := List.length_pos_iff.mpr h0
    exact ⟨_, dss_ret (de_ix (de_var 1) (de_call g ct (da_cons (de_var 0) (da_cons (de_of (de_callB (id := "len") (da_cons (de_var 1) da_nil) (c_lenL g) T.len (by decide +kernel)) (by rw [List.length_map])) da_nil)) ⟨j, p, l.length, hp, by omega, by omega, rfl, hj, rfl, rfl⟩) (i_lst g (at_getD (tk_lt h2)))), .rt⟩
  · have h2 := List.length_pos_iff.mpr h0
    exact ⟨_, dss_ret (de_ix (de_var 1) (de_call g ct (da_cons (de_var 0) (da_cons (de_of (de_callB (id := "len") (da_cons (de_var 1) da_nil) (c_lenS (by rw [st_len]; exact size4 (by omega))) T.len (by decide +kernel)) (by rw [st_len])) da_nil)) ⟨j, p, L.length, hp, by omega, by omega, rfl, hj, rfl, rfl⟩) (i_str (by rw [st_len]; exact size4 (by omega)) (at_getN (tk_lt h2)))), .rt⟩
theorem ok_cells (F : Fun K "_law_cells" "_law_cells" sCells f fd) (T : TM mg) : FnOk P w K mg base (L2.CX P w) 1 f fd ["script", "most"] (spD K rCells) := by
  refine fn_D (k := 0) F scCells (fun ss μ r μ' h => by obtain ⟨ns, rfl, _⟩ := h; rfl) ?_
  intro cdv A0 outer s0 H E N W ss μ r μ' g hA hR
  obtain ⟨ns, rfl, rfl, rfl⟩ := hR
  refine ⟨_, dss_ret (de_of (de_listRg g (de_callB (id := "max") (da_cons de_int (da_cons (de_callB (id := "min") (da_cons (de_var 1) (da_cons (de_callB (id := "len") (da_cons (de_var 0) da_nil) (c_lenSc g) T.len (by decide +kernel)) da_nil)) (c_min2 g) T.min (by decide +kernel)) da_nil)) (c_max2 g) T.max (by decide +kernel)) T.list T.range ?_) ?_), .rt⟩
  · split <;> split at * <;> omega
  · congr 2
    unfold cellsN
    split <;> split at * <;> omega
theorem sgn_made (L : List Nat) (s : Int) : (if decide (s < 0) then Str.ofString "-" else Str.empty) ++ st L = st (sgL L s) := by
  rw [← sgn_sgL]
  by_cases h : s < 0
  · rw [decide_eq_true h, if_pos rfl]
    unfold sgn
    rw [if_pos h]
    exact st_app [45] L
  · rw [decide_eq_false h, if_neg (by decide)]
    unfold sgn
    rw [if_neg h]
    show Str.append _ _ = _
    simp [Str.append, Str.empty, Dl.st]
theorem ok_wtext (F : Fun K "_law_word_text" "_law_word_text" sWText f fd) (T : TM mg) : FnOk P w K mg base (L2.CX P w) 1 f fd ["word"] (spD K rWText) := by
  refine fn_D (k := 0) F scWText (fun ss μ r μ' h => by obtain ⟨L, s, _, rfl, _⟩ := h; rfl) ?_
  intro cdv A0 outer s0 H E N W ss μ r μ' g hA hR
  obtain ⟨L, s, h4, rfl, rfl, rfl⟩ := hR
  refine ⟨_, dss_ret (de_of (de_bin (de_bin de_str (de_callT (T := "int") (da_cons (de_cmp (de_ix (de_var 0) de_int (i_tup (i := 0) g rfl)) de_int o_lt) da_nil) c_intB T.int (by decide +kernel)) o_mulS) (de_ix (de_var 0) de_int (i_tup (i := 1) g rfl)) (o_addS ?_)) (congrArg D.str (sgn_made L s))), .rt⟩
  rw [st_len]
  split
  · show 1 + _ ≤ _
    exact size4 (by omega)
  · show 0 + _ ≤ _
    exact size4 (by omega)
end
/-! ### some of a row -/
structure SmT (α : Type) where
  p : Pot
  rest : List α
  found : List α
def smX {α : Type} (d : α) (t : SmT α) : SmT α := ⟨tkP t.p t.rest.length, t.rest.eraseIdx (tk t.p t.rest.length), t.found ++ [t.rest.getD (tk t.p t.rest.length) d]⟩
def iter {T : Type} (nx : T → T) : Nat → T → T
  | 0, t => t
  | n + 1, t => iter nx n (nx t)
def someF {α : Type} (d : α) (n : Nat) (p : Pot) (l : List α) : List α × Pot := ((iter (smX d) n ⟨p, l, []⟩).found, (iter (smX d) n ⟨p, l, []⟩).p)
def rSome : Rel := fun ss μ r μ' => ∃ (α : Type) (q : α → D) (d : α) (j : Nat) (p : Pot) (l : List α) (n : Nat), p.ok 8900 ∧ n ≤ l.length ∧ l.length ≤ 20 ∧ ss = [.l j, .p (.lst (l.map q)), .p (.int (n : Nat))] ∧ μ[j]? = some p.m ∧ r = .v (.p (.lst ((someF d n p l).1.map q))) ∧ μ' = μ.set j (someF d n p l).2.m
theorem sm_ok {α : Type} (d : α) : ∀ (n m : Nat) (t : SmT α), t.p.ok m → (iter (smX d) n t).p.ok (m + n)
  | 0, _, _, h => h
  | n + 1, m, t, h => (sm_ok d n (m + 1) (smX d t) (tkP_ok h)).mono (by omega)
theorem someF_ok {α : Type} {d : α} {n m : Nat} {p : Pot} {l : List α} (h : p.ok m) : (someF d n p l).2.ok (m + n) := sm_ok d n m ⟨p, l, []⟩ h
theorem erase_perm {α : Type} : ∀ (l : List α) (i : Nat) (h : i < l.length), (l[i] :: l.eraseIdx i).Perm l
  | a :: l, 0, _ => List.Perm.refl _
  | a :: l, i + 1, h => by
    have h' : i < l.length := by simpa using h
    have ih := erase_perm l i h'
    show (l[i] :: a :: l.eraseIdx i).Perm (a :: l)
    exact (List.Perm.swap a l[i] _).trans (List.Perm.cons a ih)
/-- what is drawn: as many, none twice, out of the row -/
theorem sm_sub {α : Type} (d : α) : ∀ (n : Nat) (t : SmT α), n ≤ t.rest.length → (t.found ++ t.rest).Nodup → (iter (smX d) n t).found.length = t.found.length + n ∧ ((iter (smX d) n t).found ++ (iter (smX d) n t).rest).Nodup ∧ ∀ x ∈ (iter (smX d) n t).found ++ (iter (smX d) n t).rest, x ∈ t.found ++ t.rest
  | 0, t, _, h => ⟨rfl, h, fun x hx => hx⟩
  | n + 1, t, hn, h => by
    have hi : tk t.p t.rest.length < t.rest.length := tk_lt (by omega)
    have hg : t.rest.getD (tk t.p t.rest.length) d = t.rest[tk t.p t.rest.length] := by rw [List.getD_eq_getElem?_getD, List.getElem?_eq_getElem hi]; rfl
    have hperm : ((smX d t).found ++ (smX d t).rest).Perm (t.found ++ t.rest) := by
      show ((t.found ++ [t.rest.getD (tk t.p t.rest.length) d]) ++ t.rest.eraseIdx (tk t.p t.rest.length)).Perm _
      rw [List.append_assoc, hg]
      refine List.Perm.append_left _ ?_
      exact erase_perm t.rest _ hi
    obtain ⟨h1, h2, h3⟩ := sm_sub d n (smX d t) (by show n ≤ (t.rest.eraseIdx _).length; rw [List.length_eraseIdx]; split <;> omega) (hperm.nodup_iff.mpr h)
    refine ⟨?_, h2, fun x hx => hperm.mem_iff.mp (h3 x hx)⟩
    show (iter (smX d) n (smX d t)).found.length = _
    rw [h1]
    show (t.found ++ [_]).length + n = _
    simp
    omega
theorem someF_is {α : Type} {d : α} {n : Nat} {p : Pot} {l : List α} (h : n ≤ l.length) (hd : l.Nodup) : (someF d n p l).1.length = n ∧ (someF d n p l).1.Nodup ∧ ∀ x ∈ (someF d n p l).1, x ∈ l := by
  obtain ⟨h1, h2, h3⟩ := sm_sub d n ⟨p, l, []⟩ h hd
  refine ⟨h1.trans (Nat.zero_add n), (List.nodup_append.mp h2).1, fun x hx => ?_⟩
  simpa using h3 x (List.mem_append_left _ hx)
def muS {α : Type} (q : α → D) (j : Nat) (μ0 : List M) (t : SmT α) : List M := μ0.set j t.p.m ++ [.lst (t.rest.map q), .lst (t.found.map q)]
section
variable {α : Type} {q : α → D} {j : Nat} {μ0 : List M} {x : M} {p p' : Pot} {r f r' f' : List α}
theorem ms_at (h : μ0[j]? = some x) : (muS q j μ0 ⟨p, r, f⟩)[j]? = some p.m := by
  have := (List.getElem?_eq_some_iff.mp h).1
  unfold muS
  rw [List.getElem?_append_left (by simpa using this)]
  exact set_at h
theorem ms_r : (muS q j μ0 ⟨p, r, f⟩)[μ0.length]? = some (.lst (r.map q)) := by
  unfold muS
  rw [List.getElem?_append_right (by simp)]
  simp
theorem ms_f : (muS q j μ0 ⟨p, r, f⟩)[μ0.length + 1]? = some (.lst (f.map q)) := by
  unfold muS
  rw [List.getElem?_append_right (by simp)]
  simp
theorem ms_set (h : μ0[j]? = some x) : (muS q j μ0 ⟨p, r, f⟩).set j p'.m = muS q j μ0 ⟨p', r, f⟩ := by
  have := (List.getElem?_eq_some_iff.mp h).1
  unfold muS
  rw [List.set_append_left _ _ (by simpa using this), List.set_set]
theorem ms_rset : (muS q j μ0 ⟨p, r, f⟩).set μ0.length (.lst (r'.map q)) = muS q j μ0 ⟨p, r', f⟩ := by
  unfold muS
  rw [List.set_append_right _ _ (by simp)]
  simp
theorem ms_fset : (muS q j μ0 ⟨p, r, f⟩).set (μ0.length + 1) (.lst (f'.map q)) = muS q j μ0 ⟨p, r, f'⟩ := by
  unfold muS
  rw [List.set_append_right _ _ (by simp)]
  simp
end
theorem map_erase {α : Type} (q : α → D) : ∀ (l : List α) (i : Nat), (l.map q).eraseIdx i = (l.eraseIdx i).map q
  | [], _ => rfl
  | _ :: _, 0 => rfl
  | n :: l, i + 1 => congrArg (q n :: ·) (map_erase q l i)
section
variable {X : Cx} {N : En} {W : WX} {f : As} {body : List Stmt}
theorem loop_st {T : Type} {mu : T → List M} {nx : T → T} (I : Nat → T → Prop) (Δ : T → List (Option S) → Prop)
    (h : ∀ k t d δ, Δ t δ → I (k + 1) t → I k (nx t) ∧ ∃ δt δ1, f d δ = some δt ∧ DSs X N W δt (mu t) body (.nx δ1 (mu (nx t))) ∧ Δ (nx t) δ1) :
    ∀ (ds : List D) (δ : List (Option S)) (t : T), Δ t δ → I ds.length t → ∃ δ', Loop X N W f body ds δ (mu t) (.nx δ' (mu (iter nx ds.length t))) ∧ Δ (iter nx ds.length t) δ' ∧ I 0 (iter nx ds.length t)
  | [], δ, t, h0, hi => ⟨δ, .nil, h0, hi⟩
  | d :: ds, δ, t, h0, hi => by
    obtain ⟨h1, δt, δ1, h2, h3, h4⟩ := h ds.length t d δ h0 hi
    obtain ⟨δ', h5, h6, h7⟩ := loop_st I Δ h ds δ1 (nx t) h4 h1
    exact ⟨δ', .next h2 h3 h5, h6, h7⟩
end
section
variable {P : Program} {w : World} {K : PySem.W.Frag} {mg : Str → Option Value} {base : Heap} {f C : Addr} {fd : FuncData}
theorem ok_some (F : Fun K "_law_some" "_law_some" sSome f fd) (T : TM mg) (ct : Cf P w K mg base 1 "_law_take" [] rTk) : FnOk P w K mg base (L2.CX P w) 2 f fd ["pot", "pool", "many"] (spD K rSome) := by
  refine fn_D (k := 1) F scSome (fun ss μ r μ' h => by obtain ⟨_, _, _, _, _, _, _, _, _, _, rfl, _⟩ := h; rfl) ?_
  intro cdv A0 outer s0 H E N W ss μ r μ' g hA hR
  obtain ⟨α, q, dd, j, p0, ns, n, hp, hn, h10, rfl, hj, rfl, rfl⟩ := hR
  have hone : ∀ k t d δ, (∃ x5, δ = [some (.l j), some (.p (.lst (ns.map q))), some (.p (.int (n : Nat))), some (.l μ.length), some (.l (μ.length + 1)), x5]) → (t.p.ok (8950 - (k + 1)) ∧ k + 1 ≤ t.rest.length ∧ t.rest.length ≤ 20 ∧ t.found.length ≤ 30 - (k + 1) ∧ k + 1 ≤ 20) → (((smX dd t).p.ok (8950 - k) ∧ k ≤ (smX dd t).rest.length ∧ (smX dd t).rest.length ≤ 20 ∧ (smX dd t).found.length ≤ 30 - k ∧ k ≤ 20)) ∧
      ∃ δt δ1, (asName 5) d δ = some δt ∧ DSs (cxOf (L2.CX P w) P w K mg base ["pot", "pool", "many", "rest", "found", "lap"] "_law_some" (defScope sSome) f cdv A0 outer s0 H E) N W δt (muS q j μ t) (bodyOf sSome 1) (.nx δ1 (muS q j μ (smX dd t))) ∧ (∃ x5, δ1 = [some (.l j), some (.p (.lst (ns.map q))), some (.p (.int (n : Nat))), some (.l μ.length), some (.l (μ.length + 1)), x5]) := by
    rintro k ⟨p, rs, fo⟩ d _ ⟨x5, rfl⟩ ⟨ok, hk, h10', hf, hk10⟩
    simp only at ok hk h10' hf
    have hi : tk p rs.length < rs.length := tk_lt (by omega)
    have lr : (rs.map q).length = rs.length := List.length_map ..
    have hx : (rs.map q)[tk p rs.length]? = some (q (rs.getD (tk p rs.length) dd)) := by
      rw [List.getElem?_map, List.getElem?_eq_getElem hi, List.getD_eq_getElem?_getD, List.getElem?_eq_getElem hi]
      rfl
    refine ⟨⟨(tkP_ok ok).mono (by omega), ?_, ?_, ?_, by omega⟩, _, _, rfl, dss_cons (ds_expr (de_bm PySem.F.plainAttrs_list PySem.F.slot_list_append PySem.F.type_list_append (de_var 4) (da_cons
        (de_bm PySem.F.plainAttrs_list PySem.F.slot_list_pop PySem.F.type_list_pop (de_var 3) (da_cons (de_call g ct (da_cons (de_var 0) (da_cons (de_of (de_callB (id := "len") (da_cons (de_var 3) da_nil) (c_lenM ms_r) T.len (by decide +kernel)) (by rw [lr])) da_nil)) ⟨j, p, rs.length, ok.mono (by omega), by omega, by omega, rfl, ms_at hj, rfl, (ms_set hj).symm⟩) da_nil)
          (m_popAt (q := tk p rs.length) ms_r ms_r (by omega) (by rw [lr, seqIndex_of (by omega) (by omega), Int.toNat_natCast]) hx)) da_nil)
        (m_append ms_f (by rw [map_erase, ms_rset]; exact ms_f) (by rw [List.length_map]; exact size4' (by omega))))) (cn (Eq.mp (congrArg (fun ν => DSs _ N W _ ν [] _) ?_) dss_nil)), _, rfl⟩
    · show k ≤ (rs.eraseIdx _).length
      rw [List.length_eraseIdx]
      split <;> omega
    · show (rs.eraseIdx _).length ≤ 20
      rw [List.length_eraseIdx]
      split <;> omega
    · show (fo ++ [_]).length ≤ _
      rw [List.length_append]
      show fo.length + 1 ≤ _
      omega
    · rw [map_erase, ms_rset, show fo.map q ++ [q (rs.getD (tk p rs.length) dd)] = (fo ++ [rs.getD (tk p rs.length) dd]).map q by simp, ms_fset]
      rfl
  have e0 : muS q j μ ⟨p0, ns, []⟩ = (μ ++ [.lst (ns.map q)]) ++ [.lst []] := by
    unfold muS
    rw [set_self hj, List.append_assoc]
    rfl
  have er : (rangeD 0 n).length = n := by simp [rangeD]
  obtain ⟨δ', hl, ⟨x5, rfl⟩, hI⟩ := loop_st (X := cxOf (L2.CX P w) P w K mg base ["pot", "pool", "many", "rest", "found", "lap"] "_law_some" (defScope sSome) f cdv A0 outer s0 H E) (N := N) (W := W) (f := asName 5) (body := bodyOf sSome 1) (T := SmT α) (mu := muS q j μ) (nx := smX dd)
    (fun k t => t.p.ok (8950 - k) ∧ k ≤ t.rest.length ∧ t.rest.length ≤ 20 ∧ t.found.length ≤ 30 - k ∧ k ≤ 20) (fun t δ => ∃ x5, δ = [some (.l j), some (.p (.lst (ns.map q))), some (.p (.int (n : Nat))), some (.l μ.length), some (.l (μ.length + 1)), x5]) hone (rangeD 0 n) [some (.l j), some (.p (.lst (ns.map q))), some (.p (.int (n : Nat))), some (.l μ.length), some (.l (μ.length + 1)), none] ⟨p0, ns, []⟩ ⟨_, rfl⟩
    (by
      rw [er]
      exact ⟨hp.mono (by omega), hn, h10, by show 0 ≤ _; omega, by omega⟩)
  rw [er] at hl
  rw [e0] at hl
  have lenF : (μ ++ [M.lst (ns.map q)]).length = μ.length + 1 := by simp
  have hfin : ∀ t : SmT α, (muS q j μ t).set (μ.length + 1) .gone = μ.set j t.p.m ++ [.lst (t.rest.map q), .gone] := fun t => by
    unfold muS
    rw [List.set_append_right _ _ (by simp)]
    simp
  refine ⟨_, dss_cons (ds_par 3 4 g (da_cons (de_callT (T := "list") (da_cons (de_var 1) da_nil) c_listM T.list (by decide +kernel)) (da_cons (de_lstM dp_nil) da_nil))) (cn
    (dss_cons (ds_for g (di_range1 (da_cons (de_var 2) da_nil) T.range (by omega)) (dg_name 5 g.nd) (by rw [lenF]; exact hl)) (cn
    (dss_freeze ms_f (by omega) 4 rfl (dss_ret (de_var 4)))))), ?_⟩
  rw [hfin]
  have e2 : (μ.set j (someF dd n p0 ns).2.m ++ [M.lst ((iter (smX dd) n ⟨p0, ns, []⟩).rest.map q), M.gone]).take μ.length = μ.set j (someF dd n p0 ns).2.m := by
    rw [List.take_append_of_le_length (by simp), List.take_of_length_le (by simp)]
  conv => rhs; rw [← e2]
  exact .rtT (Nat.le_refl _)
end
end K20
set_option Elab.async false
set_option linter.all false
set_option maxRecDepth 100000
set_option maxHeartbeats 4000000
set_option autoImplicit false
namespace K20
open PySem PySem.Spec PyProof.Rows L2 Dl Cq
/-! ### a drawn word -/
def IIXYZ : List Nat := [73, 73, 88, 89, 90]
def XYZ : List Nat := [88, 89, 90]
def ltrs (n : Nat) (p : Pot) : List Nat := scanO (fun _ p => IIXYZ.getD (tk p 5) 0) (fun _ p => tkP p 5) (List.range n) p
def ltrsP (n : Nat) (p : Pot) : Pot := scanT (fun _ p => tkP p 5) (List.range n) p
def dwL (n : Nat) (p : Pot) : List Nat := if ltrs n p = List.replicate n 73 then (ltrs n p).set (tk (tkP (ltrsP n p) 3) n) (XYZ.getD (tk (ltrsP n p) 3) 0) else ltrs n p
def dwQ (n : Nat) (p : Pot) : Pot := if ltrs n p = List.replicate n 73 then tkP (tkP (ltrsP n p) 3) n else ltrsP n p
def dwS (n : Nat) (p : Pot) : Int := ([1, 1, -1] : List Int).getD (tk (dwQ n p) 3) 1
def dwP (n : Nat) (p : Pot) : Pot := tkP (dwQ n p) 3
theorem scanT_ok {α : Type} (u : Nat) : ∀ (l : List α) (m : Nat) (p : Pot), p.ok m → (scanT (fun _ p => tkP p u) l p).ok (m + l.length)
  | [], _, _, h => h
  | a :: l, m, p, h => (scanT_ok u l (m + 1) _ (tkP_ok h)).mono (by simp; omega)
theorem ltrsP_ok {n m : Nat} {p : Pot} (h : p.ok m) : (ltrsP n p).ok (m + n) := by
  have := scanT_ok 5 (List.range n) m p h
  rw [List.length_range] at this
  exact this
theorem dwQ_ok {n m : Nat} {p : Pot} (h : p.ok m) : (dwQ n p).ok (m + n + 2) := by
  unfold dwQ
  split
  · exact tkP_ok (tkP_ok (ltrsP_ok h))
  · exact (ltrsP_ok h).mono (by omega)
theorem dwP_ok {n m : Nat} {p : Pot} (h : p.ok m) : (dwP n p).ok (m + n + 3) := tkP_ok (dwQ_ok h)
theorem getD_in {α : Type} {q : α → Prop} : ∀ {l : List α} {i : Nat} {d : α}, (∀ x ∈ l, q x) → i < l.length → q (l.getD i d)
  | x :: l, 0, d, h, _ => h x (by simp)
  | x :: l, i + 1, d, h, hi => getD_in (l := l) (fun y hy => h y (by simp [hy])) (by simpa using hi)
theorem ltrs_in (n : Nat) (p : Pot) : ∀ c ∈ ltrs n p, c ∈ IXYZ := by
  refine scanO_all (P := fun c => c ∈ IXYZ) (fun _ => True) (fun _ _ _ => trivial) (fun _ t _ => ?_) _ p trivial
  have : ∀ x ∈ IIXYZ, x ∈ IXYZ := by decide
  exact getD_in this (tk_lt (by decide))
theorem ltrs_len (n : Nat) (p : Pot) : (ltrs n p).length = n := by
  unfold ltrs
  rw [scanO_len, List.length_range]
theorem xyz_in (p : Pot) : XYZ.getD (tk p 3) 0 ∈ [88, 89, 90] := getD_in (q := fun c => c ∈ [88, 89, 90]) (l := XYZ) (by decide) (tk_lt (by decide))
theorem dw_is {n : Nat} {p : Pot} (h1 : 1 ≤ n) (h4 : n ≤ 4) : okWd n (dwS n p) (dwL n p) := by
  have hx := xyz_in (ltrsP n p)
  have hx1 : XYZ.getD (tk (ltrsP n p) 3) 0 ∈ IXYZ := by
    have : ∀ c ∈ [88, 89, 90], c ∈ IXYZ := by decide
    exact this _ hx
  have hx2 : XYZ.getD (tk (ltrsP n p) 3) 0 ≠ 73 := by
    intro e
    rw [e] at hx
    simp at hx
  have hl : (dwL n p).length = n := by
    unfold dwL
    split
    · rw [List.length_set, ltrs_len]
    · exact ltrs_len n p
  refine ⟨⟨by omega, by omega, fun c hc => ?_⟩, ?_, hl, ?_⟩
  · unfold dwL at hc
    split at hc
    · rcases List.mem_or_eq_of_mem_set hc with hc | rfl
      · exact ltrs_in n p c hc
      · exact hx1
    · exact ltrs_in n p c hc
  · have : ∀ x ∈ ([1, 1, -1] : List Int), x = 1 ∨ x = -1 := by decide
    exact getD_in this (tk_lt (by decide))
  · unfold dwL
    split
    · intro e
      have hi : tk (tkP (ltrsP n p) 3) n < (ltrs n p).length := by rw [ltrs_len]; exact tk_lt h1
      have := congrArg (fun l => l[tk (tkP (ltrsP n p) 3) n]?) e
      simp only [List.getElem?_set_self hi] at this
      rw [List.getElem?_replicate, if_pos (tk_lt h1)] at this
      exact hx2 (Option.some.inj this)
    · rename_i h
      exact h
def rDWord : Rel := fun ss μ r μ' => ∃ (j : Nat) (p : Pot) (n : Nat), p.ok 8900 ∧ 1 ≤ n ∧ n ≤ 4 ∧ ss = [.l j, .p (.int (n : Nat))] ∧ μ[j]? = some p.m ∧ r = .v (.p (tupW (dwL n p) (dwS n p))) ∧ μ' = μ.set j (dwP n p).m
/-! ### a list of signs beside another -/
abbrev chD (c : Nat) : D := .str ⟨#[c]⟩
abbrev chPy (c : Nat) : PyData := .str ⟨#[c]⟩
theorem ch_pys : ∀ L : List Nat, PyDs (L.map chD) (L.map chPy)
  | [] => .nil
  | c :: L => .cons (.str _) (ch_pys L)
theorem ch_eqv : ∀ L M : List Nat, PyData.eqvAll (L.map chPy) (M.map chPy) = decide (L = M)
  | [], [] => rfl
  | [], _ :: _ => rfl
  | _ :: _, [] => rfl
  | a :: L, b :: M => by
    rw [List.map_cons, List.map_cons, PyData.eqvAll, ch_eqv L M, PyData.eqv]
    have e : ((⟨#[a]⟩ : Str) == (⟨#[b]⟩ : Str)) = decide (a = b) := by
      by_cases h : a = b
      · subst h; simp
      · have : (⟨#[a]⟩ : Str) ≠ ⟨#[b]⟩ := fun z => h (by injection z with z; simpa using z)
        simp [h, this]
    rw [e]
    by_cases h : a = b <;> by_cases h2 : L = M <;> simp [h, h2]
theorem ch_lay : ∀ {L : List Nat}, (∀ c ∈ L, c < 1000) → PyData.canLayAll0 (L.map chPy) = true
  | [], _ => rfl
  | c :: L, h => by
    rw [List.map_cons]
    simp only [PyData.canLayAll0, PyData.canLay0, Bool.and_eq_true]
    refine ⟨?_, ch_lay fun x hx => h x (by simp [hx])⟩
    have := h c (by simp)
    show (#[c] : Array Nat).all (· < 0x110000) = true
    simp
    omega
theorem ch_depth : ∀ L : List Nat, PyData.depthAll (L.map chPy) = 0
  | [] => rfl
  | c :: L => by
    rw [List.map_cons]
    simp only [PyData.depthAll, PyData.depth, ch_depth L]
    rfl
theorem ch_shaped {L : List Nat} (h : ∀ c ∈ L, c < 1000) : SeqAt.shaped (.list (L.map chPy)) = true := by
  unfold SeqAt.shaped
  have e1 : (PyData.list (L.map chPy)).canLay0 = true := by
    rw [PyData.canLay0]
    exact ch_lay h
  have e2 : (PyData.list (L.map chPy)).depth ≤ 64 := by
    rw [PyData.depth, ch_depth]
    decide
  rw [e1, decide_eq_true e2]
  rfl
theorem rep_I : ∀ n : Nat, (List.replicate n [D.str (Str.ofString "I")]).flatten = (List.replicate n 73).map chD
  | 0 => rfl
  | n + 1 => by
    rw [List.replicate_succ, List.flatten_cons, rep_I n]
    rfl
theorem IXYZ_lt {c : Nat} (h : c ∈ IXYZ) : c < 1000 := by rcases in_IXYZ h with rfl | rfl | rfl | rfl <;> decide
theorem pj {μ : List M} {j : Nat} {m x y : M} (h : μ[j]? = some m) : (μ.set j x ++ [y])[j]? = some x := by
  have := (List.getElem?_eq_some_iff.mp h).1
  rw [List.getElem?_append_left (by simpa using this)]
  exact set_at h
theorem pjs {μ : List M} {j : Nat} {m x x' y : M} (h : μ[j]? = some m) : (μ.set j x ++ [y]).set j x' = μ.set j x' ++ [y] := by
  have := (List.getElem?_eq_some_iff.mp h).1
  rw [List.set_append_left _ _ (by simpa using this), List.set_set]
theorem join_ch (L : List Nat) : Txt.join (Str.ofString "") (L.map fun c => (⟨#[c]⟩ : Str)) = st L := by
  rw [show (L.map fun c => (⟨#[c]⟩ : Str)) = (L.map fun c => [c]).map st by rw [List.map_map]; rfl, show Txt.join (Str.ofString "") ((L.map fun c => [c]).map st) = st (TL.joinL [] (L.map fun c => [c])) from SX.join_S [] _]
  congr 1
  induction L with
  | nil => rfl
  | cons a L ih =>
    cases L with
    | nil => rfl
    | cons b L =>
      show [a] ++ ([] ++ TL.joinL [] ((b :: L).map fun c => [c])) = _
      rw [ih]
      rfl
theorem cmp_start {P : List (Option S) → List M → Option D → List M → Prop} {f : As} {δ : List (Option S)} {ds ys : List D} {μ μ' μ2 : List M} (e : μ = μ') (h : CmpL P f δ ds μ' ys μ2) : CmpL P f δ ds μ ys μ2 := e ▸ h
abbrev dwN : List Str := ["pot", "wires", "letters", "wire"]
section
variable {P : Program} {w : World} {K : PySem.W.Frag} {mg : Str → Option Value} {base : Heap} {f C : Addr} {fd : FuncData}
theorem ok_dword (F : Fun K "_law_drawn_word" "_law_drawn_word" sDWord f fd) (T : TM mg) (ct : Cf P w K mg base 1 "_law_take" [] rTk) (co : Cf P w K mg base 2 "_law_of" [] rOf) : FnOk P w K mg base (L2.CX P w) 3 f fd ["pot", "wires"] (spD K rDWord) := by
  refine fn_D (k := 2) F scDWord (fun ss μ r μ' h => by obtain ⟨_, _, _, _, _, _, rfl, _⟩ := h; rfl) ?_
  intro cdv A0 outer s0 H E N W ss μ r μ' g hA hR
  obtain ⟨j, p, n, hp, h1, h4, rfl, hj, rfl, rfl⟩ := hR
  have hlp : (ltrsP n p).ok 8904 := (ltrsP_ok hp).mono (by omega)
  have hll := ltrs_len n p
  have hlen := (dw_is (p := p) h1 h4).len
  have lc : DS (cxOf (L2.CX P w) P w K mg base dwN "_law_drawn_word" (defScope sDWord) f cdv A0 outer s0 H E) N W (starts dwN [.l j, .p (.int (n : Nat))]) μ ((defBody sDWord).getD 0 (.Pass ⟨0, 0, 0, 0⟩)) (.nx ((starts dwN [.l j, .p (.int (n : Nat))]).set 2 (some (.l μ.length))) (μ.set j (ltrsP n p).m ++ [.lst ((ltrs n p).map chD)])) := by
    have e : (.l μ.length : S) = .l (μ.set j (ltrsP n p).m).length := by rw [List.length_set]
    rw [e]
    refine ds_setLcM 2 g [("wire", 3)] (di_range1 (da_cons (de_var 1) da_nil) T.range (by omega)) (fun s H C cl fp => dg_name 3 g.nd) ?_ (ok := blkOk_by (by rfl)) (hds := ?_)
    · have e0 : μ = μ.set j p.m := (set_self hj).symm
      refine cmp_start e0 ?_
      rw [← show scanO (fun (_ : Nat) p => chD (IIXYZ.getD (tk p 5) 0)) (fun _ p => tkP p 5) (List.range n) p = (ltrs n p).map chD from scanO_map chD _ _ _ _]
      exact of_scan (T := Pot) (mu := fun t => μ.set j t.m) (fun m t => m ≤ 4 ∧ t.ok (8950 - m)) (List.range n) p ⟨by simpa using h4, hp.mono (by simp; omega)⟩ fun m t a _ hi => ⟨⟨by omega, (tkP_ok hi.2).mono (by omega)⟩, _, rfl, fun s H C cl fp N' hK g' => de_call g' co (da_cons (de_var 0) (da_cons de_str da_nil)) ⟨j, t, hi.2.mono (by omega), set_at hj, .inr ⟨IIXYZ, by decide, by decide, rfl, rfl, (List.set_set ..).symm⟩⟩⟩
    · rw [rangeD, List.length_map, List.length_range]
      exact sz' (by omega)
  have cmp : DT (cxOf (L2.CX P w) P w K mg base dwN "_law_drawn_word" (defScope sDWord) f cdv A0 outer s0 H E) N W ((starts dwN [.l j, .p (.int (n : Nat))]).set 2 (some (.l μ.length))) (μ.set j (ltrsP n p).m ++ [.lst ((ltrs n p).map chD)]) (match (defBody sDWord).getD 1 (.Pass ⟨0, 0, 0, 0⟩) with | .If c _ _ _ => c | _ => .Constant .none 0 ⟨0, 0, 0, 0⟩) (decide (ltrs n p = List.replicate n 73)) (μ.set j (ltrsP n p).m ++ [.lst ((ltrs n p).map chD)]) :=
    dt_cmp (de_var 2) (de_of (d' := .lst ((List.replicate n 73).map chD)) (de_bin (de_lst (dp_cons de_str dp_nil) (sz (by show 1 ≤ 100000; decide))) (de_var 1) (o_timesL (by omega) (by omega) (by show 1 * _ ≤ _; exact sz (by omega)))) (by rw [Int.toNat_natCast, rep_I])) (o_eqM g (end_at (by rw [List.length_set])) (.lst (ch_pys _)) (.lst (ch_pys _)) (ch_shaped fun c hc => IXYZ_lt (ltrs_in n p c hc)) (ch_shaped fun c hc => by rw [(List.mem_replicate.mp hc).2]; decide) (by rw [PyData.eqv, ch_eqv]))
  have fin : ∀ (L : List Nat) (q : Pot), L.length = n → q.ok 8950 → ∃ o, DSs (cxOf (L2.CX P w) P w K mg base dwN "_law_drawn_word" (defScope sDWord) f cdv A0 outer s0 H E) N W ((starts dwN [.l j, .p (.int (n : Nat))]).set 2 (some (.l μ.length))) (μ.set j q.m ++ [.lst (L.map chD)]) ((defBody sDWord).drop 2) o ∧ Fit μ.length o (.v (.p (tupW L (([1, 1, -1] : List Int).getD (tk q 3) 1)))) (μ.set j (tkP q 3).m) := by
    intro L q hL hq
    refine ⟨_, dss_freeze (end_at (by rw [List.length_set])) (by omega) 2 rfl (dss_ret (de_tup (dp_cons (de_call (r := .v (.p (.int (([1, 1, -1] : List Int).getD (tk q 3) 1)))) g co (da_cons (de_var 0) (da_cons (s := .p (.lst (([1, 1, -1] : List Int).map D.int))) (de_lst (dp_cons de_int (dp_cons de_int (dp_cons (de_un de_int u_neg) dp_nil)))) da_nil)) ⟨j, q, hq.mono (by omega), by rw [end_set (by rw [List.length_set])]; exact pj hj, .inl ⟨Int, D.int, 1, [1, 1, -1], by simp, by decide, rfl, rfl, rfl⟩⟩) (dp_cons (de_of (d' := .str (st L)) (de_bm PySem.F.plainAttrs_str PySem.F.slot_str_join PySem.F.type_str_join de_str (da_cons (s := .p (.lst ((L.map fun c => (⟨#[c]⟩ : Str)).map D.str))) (de_of (de_var 2) (by rw [List.map_map]; rfl)) da_nil) (m_join ?hj)) (congrArg D.str (join_ch L))) dp_nil)))), ?_⟩
    case hj =>
      rw [List.map_map]
      have e : (L.map (Str.length ∘ fun c => (⟨#[c]⟩ : Str))) = L.map fun _ => 1 := rfl
      rw [e]
      have e2 : ∀ M : List Nat, (M.map fun _ => 1).sum = M.length := fun M => by
        induction M with
        | nil => rfl
        | cons a M ih => rw [List.map_cons, List.sum_cons, ih, List.length_cons]; omega
      rw [e2, List.length_map, show (Str.ofString "").length = 0 from rfl]
      omega
    · rw [end_set (by rw [List.length_set]), pjs hj]
      have e2 : (μ.set j (tkP q 3).m ++ [M.gone]).take μ.length = μ.set j (tkP q 3).m := by
        rw [List.take_append_of_le_length (by simp), List.take_of_length_le (by simp)]
      conv => rhs; rw [← e2]
      exact .rtT (Nat.le_refl _)
  by_cases hI : ltrs n p = List.replicate n 73
  · have eL : dwL n p = (ltrs n p).set (tk (tkP (ltrsP n p) 3) n) (XYZ.getD (tk (ltrsP n p) 3) 0) := if_pos hI
    have eQ : dwQ n p = tkP (tkP (ltrsP n p) 3) n := if_pos hI
    obtain ⟨o, ho1, ho2⟩ := fin (dwL n p) (dwQ n p) hlen ((dwQ_ok hp).mono (by omega))
    refine ⟨o, dss_cons lc (cn (dss_ifT (dt_of cmp (decide_eq_true hI)) (dss_cons (ds_setI (de_call (r := .v (.p (chD (XYZ.getD (tk (ltrsP n p) 3) 0)))) g co (da_cons (de_var 0) (da_cons de_str da_nil)) ⟨j, ltrsP n p, hlp.mono (by omega), pj hj, .inr ⟨XYZ, by decide, by decide, rfl, rfl, rfl⟩⟩) (de_var 2) (de_call g ct (da_cons (de_var 0) (da_cons (de_var 1) da_nil)) ⟨j, tkP (ltrsP n p) 3, n, (tkP_ok hlp).mono (by omega), by omega, by omega, rfl, by rw [pjs hj]; exact pj hj, rfl, rfl⟩) (q := μ.length) (ds := (ltrs n p).map chD) (k := tk (tkP (ltrsP n p) 3) n) ?a1 ?a2) (cn dss_nil)) (cn ?a3))), ho2⟩
    case a1 =>
      rw [show XYZ.length = 3 from rfl, pjs hj, pjs hj]
      exact end_at (by rw [List.length_set])
    case a2 =>
      rw [List.length_map, hll]
      have := tk_lt (p := tkP (ltrsP n p) 3) (u := n) (by omega)
      unfold ixN
      simp
      omega
    case a3 =>
      rw [show XYZ.length = 3 from rfl, pjs hj, pjs hj, end_set (by rw [List.length_set]), ← List.map_set, ← eL, ← eQ]
      exact ho1
  · have eL : dwL n p = ltrs n p := if_neg hI
    have eQ : dwQ n p = ltrsP n p := if_neg hI
    obtain ⟨o, ho1, ho2⟩ := fin (dwL n p) (dwQ n p) hlen ((dwQ_ok hp).mono (by omega))
    rw [eL, eQ] at ho1
    exact ⟨o, dss_cons lc (cn (dss_skip (dt_of cmp (decide_eq_false hI)) ho1)), ho2⟩
end
end K20
set_option Elab.async false
set_option linter.all false
set_option maxRecDepth 100000
set_option maxHeartbeats 4000000
set_option autoImplicit false
namespace K20
open PySem PySem.Spec PyProof.Rows L2 Dl Cq
theorem scLText : FnScope ["line", "pieces", "many", "knob", "wire"] ["line"] (defScope sLText) := ⟨rfl, rfl, rfl, by decide +kernel, rfl, by decide +kernel, by decide +kernel⟩
theorem scText : FnScope ["wires", "lines", "line"] ["wires", "lines"] (defScope sText) := ⟨rfl, rfl, rfl, by decide +kernel, rfl, by decide +kernel, by decide +kernel⟩
/-! ### the law's own lines -/
def prD (p : List Nat × Int) : D := .tup [.str (st p.1), .int p.2]
def lnD : Ln → D
  | .ab q s L => .tup [.str (st (if q = true then wQuarter else wFlip)), tupW L s]
  | .h a => .tup [.str (st [104]), .int (a : Nat)]
  | .pr k a b => .tup [.str (st (pn k)), .int (a : Nat), .int (b : Nat)]
  | .tn s L ps => .tup [.str (st wTurn), tupW L s, .tup (ps.map prD)]
def rLText : Rel := fun ss μ r μ' => ∃ w l, w ≤ 4 ∧ okLn w l ∧ ss = [.p (lnD l)] ∧ r = .v (.p (.str (st (lt l)))) ∧ μ' = μ
def rText : Rel := fun ss μ r μ' => ∃ w ls, okC w ls ∧ ss = [.p (.int (w : Nat)), .p (.lst (ls.map lnD))] ∧ r = .v (.p (.str (st (ct w ls)))) ∧ μ' = μ
theorem mt_str {i : Int} (h : i ∈ manys) : Str.ofString (toString i) = st (mt i) := by
  have : ∀ j ∈ manys, Str.ofString (toString j) = st (mt j) := by decide +kernel
  exact this i h
theorem mt_log {i : Int} (h : i ∈ manys) : i.natAbs.log2 < 1920 := by
  have : ∀ j ∈ manys, j.natAbs.log2 < 1920 := by decide +kernel
  exact this i h
theorem dg_str {a : Nat} (h : a < 5) : Str.ofString (toString ((a : Nat) : Int)) = st [48 + a] := by
  have : ∀ b : Fin 5, Str.ofString (toString ((b.val : Nat) : Int)) = st [48 + b.val] := by decide +kernel
  exact this ⟨a, h⟩
theorem dg_log {a : Nat} (h : a < 5) : ((a : Nat) : Int).natAbs.log2 < 1920 := by
  have : ∀ b : Fin 5, ((b.val : Nat) : Int).natAbs.log2 < 1920 := by decide +kernel
  exact this ⟨a, h⟩
theorem mt_len {i : Int} (h : i ∈ manys) : (mt i).length ≤ 2 := by
  have : ∀ j ∈ manys, (mt j).length ≤ 2 := by decide
  exact this i h
theorem join32 (ws : List (List Nat)) : Txt.join (Str.ofString " ") (ws.map st) = st (TL.joinL [32] ws) := SX.join_S [32] _
theorem join_lim {ws : List (List Nat)} {m k : Nat} (h : ∀ v ∈ ws, v.length ≤ m) (hk : ws.length ≤ k) (hm : k * (m + 1) ≤ 16777216) : ((ws.map st).map (·.length)).sum + (ws.map st).length * (Str.ofString " ").length ≤ 16777216 := by
  have := sum_len ws m h
  rw [List.length_map, show (Str.ofString " ").length = 1 from rfl]
  have h2 : ws.length * m ≤ k * m := Nat.mul_le_mul_right _ hk
  rw [Nat.mul_add] at hm
  omega
section
variable {P : Program} {w : World} {K : PySem.W.Frag} {mg : Str → Option Value} {base : Heap} {f C : Addr} {fd : FuncData} {CC : Addr}
theorem ok_ltext (F : Fun K "_law_line_text" "_law_line_text" sLText f fd) (T : TM mg) (cw : Cf P w K mg base 1 "_law_word_text" [] rWText) : FnOk P w K mg base (L2.CX P w) 2 f fd ["line"] (spD K rLText) := by
  refine fn_D (k := 1) F scLText (fun ss μ r μ' h => by obtain ⟨_, _, _, _, rfl, _⟩ := h; rfl) ?_
  intro cdv A outer s0 H E N W ss μ r μ' g hA hR
  obtain ⟨n, l, h4, hok, rfl, rfl, rfl⟩ := hR
  obtain ⟨hl9, hl8⟩ := lw_len hok
  have hjl := join_lim (ws := lw l) (m := 8) (k := 9) hl8 hl9 (by decide)
  cases l with
  | ab q s L =>
    have hL4 := (show okWd n s L from hok).okL.four
    have hsg : (sgL L s).length ≤ 5 := sgL_len (w := n) hok
    refine ⟨_, dss_ifT (dt_of (dt_cmp (de_ix (de_var 0) de_int (i_tup (i := 0) g rfl)) (de_tup (ds := ([st wFlip, st wQuarter] : List Str).map D.str) (dp_cons de_str (dp_cons de_str dp_nil)) (sz (by show 2 ≤ 100000; decide))) (o_inStrT g)) (by cases q <;> decide +kernel)) (dss_ret (de_of (de_bin (de_bin (de_ix (de_var 0) de_int (i_tup (i := 0) g rfl)) de_str (o_addS ?_)) (de_call g cw (da_cons (de_ix (de_var 0) de_int (i_tup (i := 1) g rfl)) da_nil) ⟨L, s, hL4, rfl, rfl, rfl⟩) (o_addS ?_)) (congrArg D.str ?_))) cr, .rt⟩
    · rw [st_len]
      cases q <;> exact sz (by decide)
    · show (st (if q = true then wQuarter else wFlip) ++ st [32]).length + _ ≤ _
      rw [st_app, st_len, st_len]
      cases q
      · exact sz (by simp; omega)
      · exact sz (by simp; omega)
    · show st (if q = true then wQuarter else wFlip) ++ st [32] ++ st (sgL L s) = _
      rw [st_app, st_app, List.append_assoc]
      rfl
  | tn s L ps =>
    obtain ⟨hw, p1, p3, hnd, hps⟩ := (show okWd n s L ∧ 1 ≤ ps.length ∧ ps.length ≤ 3 ∧ (ps.map (·.1)).Nodup ∧ ∀ p ∈ ps, okNm p.1 ∧ p.2 ∈ manys from hok)
    have hL4 := hw.okL.four
    refine ⟨_, dss_skip (dt_of (dt_cmp (de_ix (de_var 0) de_int (i_tup (i := 0) g rfl)) (de_tup (ds := ([st wFlip, st wQuarter] : List Str).map D.str) (dp_cons de_str (dp_cons de_str dp_nil)) (sz (by show 2 ≤ 100000; decide))) (o_inStrT g)) (by decide +kernel)) (dss_ifT (dt_of (dt_cmp (de_ix (de_var 0) de_int (i_tup (i := 0) g rfl)) de_str o_eqS) (by decide +kernel))
      (dss_cons (ds_setLc 1 g [("knob", 3), ("many", 2)] (di_tup g (de_ix (de_var 0) de_int (i_tup (i := 2) g rfl))) (fun s H C cl fp => dg_tup (dgs_cons (dg_name 3 g.nd) (dgs_cons (dg_name 2 g.nd) dgs_nil)) g.hK g.calm) (of_maps (gd := prD) (fy := fun p => .str (st (mt p.2 ++ ([32] ++ p.1)))) fun p hp => ⟨_, rfl, fun s H C cl fp N' hK g' => de_of (de_bin (de_bin (de_callT (T := "str") (da_cons (de_var 2) da_nil) (c_strN (mt_log (hps p hp).2)) T.str (by decide +kernel)) de_str (o_addS ?a1)) (de_var 3) (o_addS ?a2)) (congrArg D.str ?a3)⟩) (ok := blkOk_by (by rfl)) (hds := by rw [List.length_map]; exact sz' (by omega))) (cn
      (dss_ret (de_of (de_bm PySem.F.plainAttrs_str PySem.F.slot_str_join PySem.F.type_str_join de_str (da_cons (s := .p (.lst (((wTurn :: sgL L s :: wBy :: ps.map fun p : List Nat × Int => mt p.2 ++ ([32] ++ p.1)).map st).map D.str))) (de_of (de_bin (de_lst (dp_cons de_str (dp_cons (de_call g cw (da_cons (de_ix (de_var 0) de_int (i_tup (i := 1) g rfl)) da_nil) ⟨L, s, hL4, rfl, rfl, rfl⟩) (dp_cons de_str dp_nil))) (sz (by show 3 ≤ 100000; decide))) (de_var 1) (o_catL ?a4)) ?a5) da_nil) (m_join ?a6)) (congrArg D.str ?a7)))))
      cr), .rt⟩
    case a1 =>
      rw [mt_str (hps p hp).2, st_len]
      have := mt_len (hps p hp).2
      exact sz (by show _ + 1 ≤ _; omega)
    case a2 =>
      rw [mt_str (hps p hp).2]
      show (st (mt p.2) ++ st [32]).length + _ ≤ _
      rw [st_app, st_len, st_len]
      have := mt_len (hps p hp).2
      have := (hps p hp).1.eight
      exact sz (by simp; omega)
    case a3 =>
      rw [mt_str (hps p hp).2]
      show st (mt p.2) ++ st [32] ++ st p.1 = _
      rw [st_app, st_app, List.append_assoc]
    case a4 => exact sz (by simp; omega)
    case a5 => simp [List.map_map, Function.comp_def]; exact ⟨rfl, rfl⟩
    case a6 =>
      refine join_lim (m := 20) (k := 9) (fun v hv => ?_) (by simp; omega) (by decide)
      have hsg : (sgL L s).length ≤ 5 := sgL_len (w := n) hw
      simp only [List.mem_cons, List.mem_map] at hv
      rcases hv with rfl | rfl | rfl | ⟨p, hp, rfl⟩
      · decide
      · omega
      · decide
      · have := mt_len (hps p hp).2
        have := (hps p hp).1.eight
        simp
        omega
    case a7 =>
      rw [join32]
      congr 1
      exact joinL_two (S := [32]) (fun p : List Nat × Int => mt p.2) (fun p => p.1) [wTurn, sgL L s, wBy] ps
  | h a =>
    have ha : a < n := hok
    refine ⟨_, dss_skip (dt_of (dt_cmp (de_ix (de_var 0) de_int (i_tup (i := 0) g rfl)) (de_tup (ds := ([st wFlip, st wQuarter] : List Str).map D.str) (dp_cons de_str (dp_cons de_str dp_nil)) (sz (by show 2 ≤ 100000; decide))) (o_inStrT g)) (by decide +kernel)) (dss_skip (dt_of (dt_cmp (de_ix (de_var 0) de_int (i_tup (i := 0) g rfl)) de_str o_eqS) (by decide +kernel))
      (dss_ret (de_of (de_bm PySem.F.plainAttrs_str PySem.F.slot_str_join PySem.F.type_str_join de_str (da_cons (s := .p (.lst (((lw (.h a)).map st).map D.str))) (de_bin (de_lst (dp_cons (de_ix (de_var 0) de_int (i_tup (i := 0) g rfl)) dp_nil) (sz (by show 1 ≤ 100000; decide))) (de_lc g [("wire", 4)] (di_of (di_tup g (de_cutTf g (de_var 0) de_int)) (show _ = [a].map fun a : Nat => D.int (a : Nat) from rfl)) (fun s H C cl fp => dg_name 4 g.nd) (of_maps (gd := fun a : Nat => D.int (a : Nat)) (fy := fun a => .str (st [48 + a])) fun b hb => ⟨_, rfl, fun s H C cl fp N' hK g' => de_of (de_callT (T := "str") (da_cons (de_var 4) da_nil) (c_strN (dg_log ?b1)) T.str (by decide +kernel)) (congrArg D.str (dg_str ?b1))⟩) (ok := blkOk_by (by rfl)) (hds := sz' (by show 1 ≤ _; decide))) (o_catL (sz (by show 2 ≤ _; decide)))) da_nil) (m_join hjl)) (congrArg D.str (join32 _))))), .rt⟩
    case b1 =>
      rw [List.mem_singleton.mp hb]
      omega
  | pr k a b =>
    obtain ⟨hk, ha, hb, hab⟩ := (show k < 3 ∧ a < n ∧ b < n ∧ a ≠ b from hok)
    have hk3 : k = 0 ∨ k = 1 ∨ k = 2 := by omega
    refine ⟨_, dss_skip (dt_of (dt_cmp (de_ix (de_var 0) de_int (i_tup (i := 0) g rfl)) (de_tup (ds := ([st wFlip, st wQuarter] : List Str).map D.str) (dp_cons de_str (dp_cons de_str dp_nil)) (sz (by show 2 ≤ 100000; decide))) (o_inStrT g)) (by rcases hk3 with rfl | rfl | rfl <;> decide +kernel)) (dss_skip (dt_of (dt_cmp (de_ix (de_var 0) de_int (i_tup (i := 0) g rfl)) de_str o_eqS) (by rcases hk3 with rfl | rfl | rfl <;> decide +kernel))
      (dss_ret (de_of (de_bm PySem.F.plainAttrs_str PySem.F.slot_str_join PySem.F.type_str_join de_str (da_cons (s := .p (.lst (((lw (.pr k a b)).map st).map D.str))) (de_bin (de_lst (dp_cons (de_ix (de_var 0) de_int (i_tup (i := 0) g rfl)) dp_nil) (sz (by show 1 ≤ 100000; decide))) (de_lc g [("wire", 4)] (di_of (di_tup g (de_cutTf g (de_var 0) de_int)) (show _ = [a, b].map fun a : Nat => D.int (a : Nat) from rfl)) (fun s H C cl fp => dg_name 4 g.nd) (of_maps (gd := fun a : Nat => D.int (a : Nat)) (fy := fun a => .str (st [48 + a])) fun c hc => ⟨_, rfl, fun s H C cl fp N' hK g' => de_of (de_callT (T := "str") (da_cons (de_var 4) da_nil) (c_strN (dg_log ?b1)) T.str (by decide +kernel)) (congrArg D.str (dg_str ?b1))⟩) (ok := blkOk_by (by rfl)) (hds := sz' (by show 2 ≤ _; decide))) (o_catL (sz (by show 3 ≤ _; decide)))) da_nil) (m_join hjl)) (congrArg D.str (join32 _))))), .rt⟩
    case b1 =>
      simp only [List.mem_cons, List.not_mem_nil, or_false] at hc
      rcases hc with rfl | rfl <;> omega
theorem ok_text (F : Fun K "_law_text" "_law_text" sText f fd) (T : TM mg) (cl_ : Cf P w K mg base 2 "_law_line_text" [] rLText) : FnOk P w K mg base (L2.CX P w) 3 f fd ["wires", "lines"] (spD K rText) := by
  refine fn_D (k := 2) F scText (fun ss μ r μ' h => by obtain ⟨_, _, _, rfl, _⟩ := h; rfl) ?_
  intro cdv A outer s0 H E N W ss μ r μ' g hA hR
  obtain ⟨n, ls, hok, rfl, rfl, rfl⟩ := hR
  have h1 := hok.w1
  have h4 := hok.w4
  have hl := hok.len
  refine ⟨_, dss_ret (de_of (de_bm PySem.F.plainAttrs_str PySem.F.slot_str_join PySem.F.type_str_join de_str (da_cons (s := .p (.lst (((wT n :: ls.map lt).map st).map D.str))) (de_of (de_bin (de_lst (dp_cons (de_of (d' := .str (st (wT n))) (de_bin de_str (de_callT (T := "str") (da_cons (de_var 0) da_nil) (c_strN (dg_log (by omega))) T.str (by decide +kernel)) (o_addS ?a1)) (congrArg D.str ?a2)) dp_nil) (sz (by show 1 ≤ 100000; decide))) (de_lc g [("line", 2)] (di_lst g (de_var 1)) (fun s H C cl fp => dg_name 2 g.nd) (of_maps (gd := lnD) (fy := fun l => .str (st (lt l))) fun l hl => ⟨_, rfl, fun s H C cl fp N' hK g' => de_call g' cl_ (da_cons (de_var 2) da_nil) ⟨n, l, h4, hok.ok l hl, rfl, rfl, rfl⟩⟩) (ok := blkOk_by (by rfl)) (hds := by rw [List.length_map]; exact sz' (by omega))) (o_catL ?a3)) ?a4) da_nil) (m_join (ct_sum hok))) (congrArg D.str (join_ct n ls))), .rt⟩
  case a1 =>
    rw [dg_str (by omega)]
    exact sz (by show 6 + 1 ≤ _; decide)
  case a2 =>
    rw [dg_str (by omega)]
    exact st_app [119, 105, 114, 101, 115, 32] [48 + n]
  case a3 => exact sz (by simp; omega)
  case a4 => simp [List.map_map, Function.comp_def]
end
end K20
set_option Elab.async false
set_option linter.all false
set_option maxRecDepth 100000
set_option maxHeartbeats 4000000
set_option autoImplicit false
namespace Dl
open PySem PySem.Spec PyProof.Rows L2
section
variable {X : Cx} {N : En} {W : WX} {n : Nat} {μ : List M}
theorem o_neD (g : Go X N W n) {d1 d2 : D} {p1 p2 : PyData} {q : Bool} (h1 : PyD d1 p1) (h2 : PyD d2 p2) (s1 : SeqAt.shaped p1 = true) (s2 : SeqAt.shaped p2 = true) (hq : (!PyData.eqv p1 p2) = q) : OpOk X N W (compareOp .NotEq) μ (.p d1) (.p d2) (.v (.p (.bl q))) μ :=
  ⟨_, op_neD (by have := g.room.un; omega), fun σ δ F A H x y Q R rx ry k => ⟨p1, p2, by rw [← g.hK]; exact h1.dp R.rc.sub rx, by rw [← g.hK]; exact h2.dp R.rc.sub ry, s1, s2, by rw [hq]; exact k.here R (.bl _)⟩⟩
end
end Dl
set_option Elab.async false
set_option linter.all false
set_option maxRecDepth 100000
set_option maxHeartbeats 4000000
set_option autoImplicit false
namespace K20
open PySem PySem.Spec PyProof.Rows L2 Dl Cq
theorem scGate : FnScope ["pot", "wires", "way"] ["pot", "wires"] (defScope sGate) := ⟨rfl, rfl, rfl, by decide +kernel, rfl, by decide +kernel, by decide +kernel⟩
theorem scKnobs : FnScope ["pot", "many", "pool"] ["pot", "many"] (defScope sKnobs) := ⟨rfl, rfl, rfl, by decide +kernel, rfl, by decide +kernel, by decide +kernel⟩
theorem scDTurn : FnScope ["pot", "wires", "knobs", "some", "word", "knob"] ["pot", "wires", "knobs"] (defScope sDTurn) := ⟨rfl, rfl, rfl, by decide +kernel, rfl, by decide +kernel, by decide +kernel⟩
/-! ### a drawn fixed line -/
def gU (n : Nat) : Nat := if 1 < n then 6 else 3
abbrev inD (a : Nat) : D := .int (a : Nat)
def gateS (n : Nat) (p : Pot) : List Nat × Pot := someF 0 2 (tkP p (gU n)) (List.range n)
def gateF (n : Nat) (p : Pot) : Ln :=
  if tk p (gU n) < 2 then .ab (tk p (gU n) == 1) (dwS n (tkP p (gU n))) (dwL n (tkP p (gU n)))
  else if tk p (gU n) = 2 then .h (tk (tkP p (gU n)) n)
  else .pr (tk p (gU n) - 3) ((gateS n p).1.getD 0 0) ((gateS n p).1.getD 1 0)
def gateP (n : Nat) (p : Pot) : Pot :=
  if tk p (gU n) < 2 then dwP n (tkP p (gU n)) else if tk p (gU n) = 2 then tkP (tkP p (gU n)) n else (gateS n p).2
theorem gU_pos (n : Nat) : 0 < gU n ∧ gU n < 1000 := by
  unfold gU
  split <;> exact ⟨by decide, by decide⟩
theorem gateP_ok {n m : Nat} {p : Pot} (h4 : n ≤ 4) (h : p.ok m) : (gateP n p).ok (m + 8) := by
  unfold gateP
  split
  · exact (dwP_ok (tkP_ok h)).mono (by omega)
  · split
    · exact (tkP_ok (tkP_ok h)).mono (by omega)
    · exact (someF_ok (tkP_ok h)).mono (by omega)
theorem gate_two {n : Nat} {p : Pot} (h : ¬ tk p (gU n) < 2) (h2 : ¬ tk p (gU n) = 2) : 2 ≤ n ∧ tk p (gU n) < 6 := by
  have h3 := tk_lt (p := p) (gU_pos n).1
  by_cases hn : 1 < n
  · rw [show gU n = 6 from if_pos hn] at h h2 h3 ⊢
    omega
  · rw [show gU n = 3 from if_neg hn] at h h2 h3 ⊢
    omega
theorem len2 {α : Type} {q : α → D} {d : α} : ∀ {l : List α}, l.length = 2 → l.map q = [q (l.getD 0 d), q (l.getD 1 d)]
  | [a, b], _ => rfl
theorem gate_is {n : Nat} {p : Pot} (h1 : 1 ≤ n) (h4 : n ≤ 4) : okLn n (gateF n p) := by
  unfold gateF
  split
  · exact dw_is h1 h4
  · split
    · exact tk_lt h1
    · rename_i ha hb
      obtain ⟨h2, h6⟩ := gate_two ha hb
      obtain ⟨l1, l2, l3⟩ := someF_is (d := 0) (n := 2) (p := tkP p (gU n)) (l := List.range n) (by rw [List.length_range]; exact h2) List.nodup_range
      unfold gateS
      match hl : (someF 0 2 (tkP p (gU n)) (List.range n)).1, l1, l2, l3 with
      | [a, b], _, l2, l3 =>
        have e1 := List.mem_range.mp (l3 a (by simp))
        have e2 := List.mem_range.mp (l3 b (by simp))
        refine ⟨by omega, e1, e2, ?_⟩
        simp at l2
        exact l2
theorem gate_isT (n : Nat) (p : Pot) : isT (gateF n p) = false := by
  unfold gateF
  split
  · rfl
  · split <;> rfl
def rGate : Rel := fun ss μ r μ' => ∃ (j : Nat) (p : Pot) (n : Nat), p.ok 8880 ∧ 1 ≤ n ∧ n ≤ 4 ∧ ss = [.l j, .p (.int (n : Nat))] ∧ μ[j]? = some p.m ∧ r = .v (.p (lnD (gateF n p))) ∧ μ' = μ.set j (gateP n p).m
theorem at_gate : ∀ k : Nat, k < 2 → atI [D.str (Str.ofString "flip"), D.str (Str.ofString "quarter")] (k : Int) = some (.str (st (if (k == 1) = true then wQuarter else wFlip)))
  | 0, _ => rfl
  | 1, _ => rfl
theorem at_pair : ∀ k : Nat, k < 6 → 3 ≤ k → atI [D.str (Str.ofString "cz"), D.str (Str.ofString "cx"), D.str (Str.ofString "swap")] ((k : Int) - 3) = some (.str (st (pn (k - 3))))
  | 3, _, _ => rfl
  | 4, _, _ => rfl
  | 5, _, _ => rfl
theorem rng_in (n : Nat) : rangeD 0 n = (List.range n).map inD := by
  unfold rangeD inD
  exact List.map_congr_left fun i _ => by simp
/-! ### drawn knobs -/
abbrev nmD (k : List Nat) : D := .str (st k)
def poolL : List (List Nat) := [[107], [109], [110], [97], [98], [98, 121], [116, 117, 114, 110], [119, 105, 114, 101, 115], [104], [122, 122, 122, 122, 122, 122, 122, 122], [102, 108, 105, 112], [120], [115, 101, 116], [115, 116, 97, 114, 116]]
structure okKs (ks : List (List Nat)) : Prop where
  one : ks ≠ []
  len : ks.length ≤ 14
  nd : ks.Nodup
  nm : ∀ k ∈ ks, okNm k
theorem pool_nd : poolL.Nodup := by decide +kernel
theorem pool_nm : ∀ k ∈ poolL, okNm k := by
  have h : ∀ k ∈ poolL, 1 ≤ k.length ∧ k.length ≤ 8 ∧ ∀ c ∈ k, 97 ≤ c ∧ c ≤ 122 := by decide +kernel
  exact fun k hk => ⟨(h k hk).1, (h k hk).2.1, (h k hk).2.2⟩
def knobsD (m : Nat) (p : Pot) : List (List Nat) × Pot := someF [] m p poolL
theorem knobsD_is {m : Nat} {p : Pot} (h1 : 1 ≤ m) (h : m ≤ 14) : okKs (knobsD m p).1 := by
  obtain ⟨l1, l2, l3⟩ := someF_is (d := ([] : List Nat)) (n := m) (p := p) (l := poolL) h pool_nd
  exact ⟨fun e => by rw [show (someF [] m p poolL).1 = [] from e] at l1; simp at l1; omega, by rw [show (knobsD m p).1.length = m from l1]; exact h, l2, fun k hk => pool_nm k (l3 k hk)⟩
def rKnobs : Rel := fun ss μ r μ' => ∃ (j : Nat) (p : Pot) (m : Nat), p.ok 8880 ∧ m ≤ 14 ∧ ss = [.l j, .p (.int (m : Nat))] ∧ μ[j]? = some p.m ∧ r = .v (.p (.lst ((knobsD m p).1.map nmD))) ∧ μ' = μ.set j (knobsD m p).2.m
/-! ### a drawn turn -/
def manysL : List Int := [1, 1, 1, -1, 2, -2, 3, 4]
def howL : List Nat := [1, 1, 1, 2, 3]
def tnC (ks : List (List Nat)) (p : Pot) : Nat := min ks.length (howL.getD (tk p 5) 1)
def tnS (ks : List (List Nat)) (p : Pot) : List (List Nat) × Pot := someF [] (tnC ks p) (tkP p 5) ks
def tnM (ks : List (List Nat)) (p : Pot) : List (List Nat × Int) := scanO (fun k p => (k, manysL.getD (tk p 8) 1)) (fun _ p => tkP p 8) ks p
def turnF (n : Nat) (ks : List (List Nat)) (p : Pot) : Ln := .tn (dwS n (tnS ks p).2) (dwL n (tnS ks p).2) (tnM (tnS ks p).1 (dwP n (tnS ks p).2))
def turnP (n : Nat) (ks : List (List Nat)) (p : Pot) : Pot := scanT (fun _ p => tkP p 8) (tnS ks p).1 (dwP n (tnS ks p).2)
theorem how_is (p : Pot) : 1 ≤ howL.getD (tk p 5) 1 ∧ howL.getD (tk p 5) 1 ≤ 3 := by
  have : ∀ x ∈ howL, 1 ≤ x ∧ x ≤ 3 := by decide
  exact getD_in (q := fun x => 1 ≤ x ∧ x ≤ 3) this (tk_lt (by decide))
theorem tnC_is {ks : List (List Nat)} (h : okKs ks) (p : Pot) : 1 ≤ tnC ks p ∧ tnC ks p ≤ 3 ∧ tnC ks p ≤ ks.length := by
  have h1 := how_is p
  have h2 := List.length_pos_iff.mpr h.one
  unfold tnC
  omega
theorem tnS_is {ks : List (List Nat)} (h : okKs ks) (p : Pot) : (tnS ks p).1.length = tnC ks p ∧ (tnS ks p).1.Nodup ∧ ∀ k ∈ (tnS ks p).1, k ∈ ks := someF_is (tnC_is h p).2.2 h.nd
theorem tnM_fst : ∀ (ks : List (List Nat)) (p : Pot), (tnM ks p).map (·.1) = ks
  | [], _ => rfl
  | k :: ks, p => congrArg (k :: ·) (tnM_fst ks (tkP p 8))
theorem tnM_len (ks : List (List Nat)) (p : Pot) : (tnM ks p).length = ks.length := scanO_len _ _ _ _
theorem turn_is {n : Nat} {ks : List (List Nat)} {p : Pot} (h1 : 1 ≤ n) (h4 : n ≤ 4) (h : okKs ks) : okLn n (turnF n ks p) := by
  obtain ⟨l1, l2, l3⟩ := tnS_is h p
  have lc := tnC_is h p
  refine ⟨dw_is h1 h4, by rw [tnM_len]; omega, by rw [tnM_len]; omega, by rw [tnM_fst]; exact l2, fun q hq => ⟨h.nm _ (l3 _ ?_), ?_⟩⟩
  · have := List.mem_map_of_mem (f := (·.1)) hq
    rw [tnM_fst] at this
    exact this
  · refine scanO_all (P := fun q : List Nat × Int => q.2 ∈ manys) (fun _ => True) (fun _ _ _ => trivial) (fun a t _ => ?_) _ _ trivial q hq
    have : ∀ x ∈ manysL, x ∈ manys := by decide
    exact getD_in (q := fun x => x ∈ manys) this (tk_lt (by decide))
theorem turnP_ok {n m : Nat} {ks : List (List Nat)} {p : Pot} (h4 : n ≤ 4) (hk : okKs ks) (h : p.ok m) : (turnP n ks p).ok (m + 14) := by
  have l1 := (tnS_is hk p).1
  have lc := tnC_is hk p
  have h2 : (tnS ks p).2.ok (m + 1 + tnC ks p) := someF_ok (tkP_ok h)
  exact (scanT_ok 8 (tnS ks p).1 _ _ (dwP_ok h2)).mono (by omega)
def rDTurn : Rel := fun ss μ r μ' => ∃ (j : Nat) (p : Pot) (n : Nat) (ks : List (List Nat)), p.ok 8880 ∧ 1 ≤ n ∧ n ≤ 4 ∧ okKs ks ∧ ss = [.l j, .p (.int (n : Nat)), .p (.lst (ks.map nmD))] ∧ μ[j]? = some p.m ∧ r = .v (.p (lnD (turnF n ks p))) ∧ μ' = μ.set j (turnP n ks p).m
section
variable {P : Program} {w : World} {K : PySem.W.Frag} {mg : Str → Option Value} {base : Heap} {f C : Addr} {fd : FuncData} {CC : Addr}
theorem ok_gate (F : Fun K "_law_gate" "_law_gate" sGate f fd) (T : TM mg) (ct : Cf P w K mg base 1 "_law_take" [] rTk) (cd : Cf P w K mg base 3 "_law_drawn_word" [] rDWord) (cs : Cf P w K mg base 2 "_law_some" [] rSome) : FnOk P w K mg base (L2.CX P w) 4 f fd ["pot", "wires"] (spD K rGate) := by
  refine fn_D (k := 3) F scGate (fun ss μ r μ' h => by obtain ⟨_, _, _, _, _, _, rfl, _⟩ := h; rfl) ?_
  intro cdv A0 outer s0 H E N W ss μ r μ' g hA hR
  obtain ⟨j, p, n, hp, h1, h4, rfl, hj, rfl, rfl⟩ := hR
  have lg := gU_pos n
  have hk := tk_lt (p := p) lg.1
  have hway : DS (cxOf (L2.CX P w) P w K mg base ["pot", "wires", "way"] "_law_gate" (defScope sGate) f cdv A0 outer s0 H E) N W (starts ["pot", "wires", "way"] [.l j, .p (.int (n : Nat))]) μ ((defBody sGate).getD 0 (.Pass ⟨0, 0, 0, 0⟩)) (.nx ((starts ["pot", "wires", "way"] [.l j, .p (.int (n : Nat))]).set 2 (some (.p (.int (tk p (gU n) : Nat))))) (μ.set j (tkP p (gU n)).m)) :=
    ds_set 2 (de_call g ct (da_cons (de_var 0) (da_cons (de_if (r := .v (.p (.int (gU n : Nat)))) (k := decide (1 < n)) (dt_of (dt_cmp (de_var 1) de_int o_gt) (decide_eq_decide.mpr (by omega))) (fun h => de_of de_int (congrArg D.int (by unfold gU; rw [if_pos (of_decide_eq_true h)]; rfl))) (fun h => de_of de_int (congrArg D.int (by unfold gU; rw [if_neg (of_decide_eq_false h)]; rfl)))) da_nil)) ⟨j, p, gU n, hp.mono (by omega), lg.1, lg.2, rfl, hj, rfl, rfl⟩) g.nd
  by_cases ha : tk p (gU n) < 2
  · have e1 : gateF n p = .ab (tk p (gU n) == 1) (dwS n (tkP p (gU n))) (dwL n (tkP p (gU n))) := if_pos ha
    have e2 : gateP n p = dwP n (tkP p (gU n)) := if_pos ha
    rw [e1, e2]
    exact ⟨_, dss_cons hway (cn (dss_ifT (dt_of (dt_cmp (de_var 2) de_int o_lt) (decide_eq_true (by omega))) (dss_ret (de_tup (dp_cons (de_ix (de_lst (dp_cons de_str (dp_cons de_str dp_nil)) (sz (by show 2 ≤ 100000; decide))) (de_var 2) (i_lst g (at_gate _ ha))) (dp_cons (de_call g cd (da_cons (de_var 0) (da_cons (de_var 1) da_nil)) ⟨j, tkP p (gU n), n, (tkP_ok hp).mono (by omega), h1, h4, rfl, set_at hj, rfl, (List.set_set ..).symm⟩) dp_nil)))) cr)), .rt⟩
  by_cases hb : tk p (gU n) = 2
  · have e1 : gateF n p = .h (tk (tkP p (gU n)) n) := (if_neg ha).trans (if_pos hb)
    have e2 : gateP n p = tkP (tkP p (gU n)) n := (if_neg ha).trans (if_pos hb)
    rw [e1, e2]
    exact ⟨_, dss_cons hway (cn (dss_skip (dt_of (dt_cmp (de_var 2) de_int o_lt) (decide_eq_false (by omega))) (dss_ifT (dt_of (dt_cmp (de_var 2) de_int o_eqI) (decide_eq_true (by omega))) (dss_ret (de_tup (dp_cons de_str (dp_cons (de_call g ct (da_cons (de_var 0) (da_cons (de_var 1) da_nil)) ⟨j, tkP p (gU n), n, (tkP_ok hp).mono (by omega), h1, by omega, rfl, set_at hj, rfl, (List.set_set ..).symm⟩) dp_nil)))) cr))), .rt⟩
  · have e1 : gateF n p = .pr (tk p (gU n) - 3) ((gateS n p).1.getD 0 0) ((gateS n p).1.getD 1 0) := (if_neg ha).trans (if_neg hb)
    have e2 : gateP n p = (gateS n p).2 := (if_neg ha).trans (if_neg hb)
    obtain ⟨g2, g6⟩ := gate_two ha hb
    have l1 := (someF_is (d := 0) (n := 2) (p := tkP p (gU n)) (l := List.range n) (by rw [List.length_range]; exact g2) List.nodup_range).1
    rw [e1, e2]
    exact ⟨_, dss_cons hway (cn (dss_skip (dt_of (dt_cmp (de_var 2) de_int o_lt) (decide_eq_false (by omega))) (dss_skip (dt_of (dt_cmp (de_var 2) de_int o_eqI) (decide_eq_false (by omega))) (dss_ret (de_of (de_bin (de_tup (dp_cons (de_ix (de_lst (dp_cons de_str (dp_cons de_str (dp_cons de_str dp_nil))) (sz (by show 3 ≤ 100000; decide))) (de_bin (de_var 2) de_int o_sub) (i_lst g (at_pair _ g6 (by omega)))) dp_nil)) (de_callT (T := "tuple") (da_cons (de_call g cs (da_cons (de_var 0) (da_cons (de_of (de_listRg g (de_var 1) T.list T.range (by omega)) (congrArg D.lst ((congrArg (rangeD 0) (Int.toNat_natCast n)).trans (rng_in n)))) (da_cons (de_of (d' := .int ((2 : Nat) : Int)) de_int rfl) da_nil))) ⟨Nat, inD, 0, j, tkP p (gU n), List.range n, 2, (tkP_ok hp).mono (by omega), by rw [List.length_range]; exact g2, by rw [List.length_range]; omega, rfl, set_at hj, rfl, (List.set_set ..).symm⟩) da_nil) c_tupL T.tuple (by decide +kernel)) (o_catT g (by rw [List.length_map, l1]; exact sz (by show 3 ≤ _; decide)))) (by rw [len2 (d := 0) l1]; rfl)))))), .rt⟩
theorem ok_knobs (F : Fun K "_law_knobs" "_law_knobs" sKnobs f fd) (cs : Cf P w K mg base 2 "_law_some" [] rSome) : FnOk P w K mg base (L2.CX P w) 3 f fd ["pot", "many"] (spD K rKnobs) := by
  refine fn_D (k := 2) F scKnobs (fun ss μ r μ' h => by obtain ⟨_, _, _, _, _, rfl, _⟩ := h; rfl) ?_
  intro cdv A0 outer s0 H E N W ss μ r μ' g hA hR
  obtain ⟨j, p, m, hp, hm, rfl, hj, rfl, rfl⟩ := hR
  exact ⟨_, dss_cons (ds_set 2 (de_of (d' := .lst (poolL.map nmD)) (de_lst (dp_cons de_str (dp_cons de_str (dp_cons de_str (dp_cons de_str (dp_cons de_str (dp_cons de_str (dp_cons de_str (dp_cons de_str (dp_cons de_str (dp_cons de_str (dp_cons de_str (dp_cons de_str (dp_cons de_str (dp_cons de_str dp_nil)))))))))))))) (sz (by show 14 ≤ 100000; decide))) rfl) g.nd) (cn (dss_ret (de_call g cs (da_cons (de_var 0) (da_cons (de_var 2) (da_cons (de_var 1) da_nil))) ⟨List Nat, nmD, [], j, p, poolL, m, hp.mono (by omega), hm, by decide, rfl, hj, rfl, rfl⟩))), .rt⟩
theorem ok_dturn (F : Fun K "_law_turn" "_law_turn" sDTurn f fd) (T : TM mg) (co : Cf P w K mg base 2 "_law_of" [] rOf) (cd : Cf P w K mg base 3 "_law_drawn_word" [] rDWord) (cs : Cf P w K mg base 2 "_law_some" [] rSome) : FnOk P w K mg base (L2.CX P w) 4 f fd ["pot", "wires", "knobs"] (spD K rDTurn) := by
  refine fn_D (k := 3) F scDTurn (fun ss μ r μ' h => by obtain ⟨_, _, _, _, _, _, _, _, rfl, _⟩ := h; rfl) ?_
  intro cdv A0 outer s0 H E N W ss μ r μ' g hA hR
  obtain ⟨j, p, n, ks, hp, h1, h4, hks, rfl, hj, rfl, rfl⟩ := hR
  obtain ⟨l1, l2, l3⟩ := tnS_is hks p
  have lc := tnC_is hks p
  have lh := how_is p
  have hlk := hks.len
  have p2 : (tnS ks p).2.ok 8890 := (someF_ok (tkP_ok hp)).mono (by show 8880 + 1 + tnC ks p ≤ _; omega)
  have p3 : (dwP n (tnS ks p).2).ok 8900 := (dwP_ok p2).mono (by omega)
  refine ⟨_, dss_cons (ds_set 3 (de_call g cs (da_cons (de_var 0) (da_cons (de_var 2) (da_cons (de_of (d' := .int (tnC ks p : Nat)) (de_callB (id := "min") (da_cons (de_callB (id := "len") (da_cons (de_var 2) da_nil) (c_lenL g) T.len (by decide +kernel)) (da_cons (de_call (r := .v (.p (inD (howL.getD (tk p 5) 1)))) g co (da_cons (de_var 0) (da_cons (s := .p (.lst (howL.map inD))) (de_lst (dp_cons de_int (dp_cons de_int (dp_cons de_int (dp_cons de_int (dp_cons de_int dp_nil))))) (sz (by show 5 ≤ 100000; decide))) da_nil)) ⟨j, p, hp.mono (by omega), hj, .inl ⟨Nat, inD, 1, howL, by decide, by decide, rfl, rfl, rfl⟩⟩) da_nil)) (c_min2 g) T.min (by decide +kernel)) ?a1) da_nil))) ⟨List Nat, nmD, [], j, tkP p 5, ks, tnC ks p, (tkP_ok hp).mono (by omega), lc.2.2, by omega, rfl, set_at hj, rfl, (List.set_set ..).symm⟩) g.nd) (cn
    (dss_cons (ds_set 4 (de_call g cd (da_cons (de_var 0) (da_cons (de_var 1) da_nil)) ⟨j, (tnS ks p).2, n, p2.mono (by omega), h1, h4, rfl, set_at hj, rfl, (List.set_set ..).symm⟩) g.nd) (cn
    (dss_ret (de_tup (dp_cons de_str (dp_cons (de_var 4) (dp_cons (de_callT (T := "tuple") (da_cons (s := .p (.lst ((tnM (tnS ks p).1 (dwP n (tnS ks p).2)).map prD))) (de_lc g [("knob", 5)] (di_lst g (de_var 3)) (fun s H C cl fp => dg_name 5 g.nd) ?a2 (ok := blkOk_by (by rfl)) (hds := ?a3)) da_nil) c_tupL T.tuple (by decide +kernel)) dp_nil)))))))), .rt⟩
  case a1 =>
    refine congrArg D.int ?_
    rw [List.length_map]
    unfold tnC
    split <;> omega
  case a2 =>
    rw [← show scanO (fun (k : List Nat) p => prD (k, manysL.getD (tk p 8) 1)) (fun _ p => tkP p 8) (tnS ks p).1 (dwP n (tnS ks p).2) = (tnM (tnS ks p).1 (dwP n (tnS ks p).2)).map prD from scanO_map prD _ _ _ _]
    exact of_scan (T := Pot) (mu := fun t => μ.set j t.m) (gd := nmD) (fun m t => m ≤ 3 ∧ t.ok (8950 - m)) (tnS ks p).1 (dwP n (tnS ks p).2) ⟨by omega, p3.mono (by omega)⟩ fun m t a _ hi => ⟨⟨by omega, (tkP_ok hi.2).mono (by omega)⟩, _, rfl, fun s H C cl fp N' hK g' => de_tup (dp_cons (de_var 5) (dp_cons (de_call (r := .v (.p (.int (manysL.getD (tk t 8) 1)))) g' co (da_cons (de_var 0) (da_cons (s := .p (.lst (manysL.map D.int))) (de_lst (dp_cons de_int (dp_cons de_int (dp_cons de_int (dp_cons (de_un de_int u_neg) (dp_cons de_int (dp_cons (de_un de_int u_neg) (dp_cons de_int (dp_cons de_int dp_nil)))))))) (sz (by show 8 ≤ 100000; decide))) da_nil)) ⟨j, t, hi.2.mono (by omega), set_at hj, .inl ⟨Int, D.int, 1, manysL, by decide, by decide, rfl, rfl, (List.set_set ..).symm⟩⟩) dp_nil))⟩
  case a3 =>
    rw [List.length_map]
    exact sz' (by show (tnS ks p).1.length ≤ _; omega)
end
end K20
set_option Elab.async false
set_option linter.all false
set_option maxRecDepth 100000
set_option maxHeartbeats 4000000
set_option autoImplicit false
namespace K20
open PySem PySem.Spec PyProof.Rows L2 Dl Cq
theorem scLines : FnScope ["pot", "wires", "knobs", "turns", "fixed", "lap", "found", "at"] ["pot", "wires", "knobs", "turns", "fixed"] (defScope sLines) := ⟨rfl, rfl, rfl, by decide +kernel, rfl, by decide +kernel, by decide +kernel⟩
/-! ### drawn lines -/
structure LnT where
  p : Pot
  ls : List Ln
def gatesF (n m : Nat) (p : Pot) : List Ln := scanO (fun _ p => gateF n p) (fun _ p => gateP n p) (List.range m) p
def gatesP (n m : Nat) (p : Pot) : Pot := scanT (fun _ p => gateP n p) (List.range m) p
def lnX (n : Nat) (ks : List (List Nat)) (t : LnT) : LnT :=
  ⟨turnP n ks (tkP t.p (t.ls.length + 1)), t.ls.take (tk t.p (t.ls.length + 1)) ++ [turnF n ks (tkP t.p (t.ls.length + 1))] ++ t.ls.drop (tk t.p (t.ls.length + 1))⟩
def linesT (n : Nat) (ks : List (List Nat)) (u x : Nat) (p : Pot) : LnT :=
  iter (lnX n ks) u ⟨gatesP n (tk p (x + 1)) (tkP p (x + 1)), gatesF n (tk p (x + 1)) (tkP p (x + 1))⟩
theorem iter_I {T : Type} {nx : T → T} (I : Nat → T → Prop) (h : ∀ k t, I (k + 1) t → I k (nx t)) : ∀ k t, I k t → I 0 (iter nx k t)
  | 0, _, hi => hi
  | k + 1, t, hi => iter_I I h k (nx t) (h k t hi)
theorem gatesP_ok {n : Nat} (h4 : n ≤ 4) : ∀ (l : List Nat) (m : Nat) (p : Pot), p.ok m → (scanT (fun _ p => gateP n p) l p).ok (m + 8 * l.length)
  | [], _, _, h => h
  | a :: l, m, p, h => (gatesP_ok h4 l (m + 8) _ (gateP_ok h4 h)).mono (by simp; omega)
theorem filt_cut {α : Type} (q : α → Bool) (l : List α) (i : Nat) : ((l.take i).filter q).length + ((l.drop i).filter q).length = (l.filter q).length := by
  rw [← List.length_append, ← List.filter_append, List.take_append_drop]
theorem no_turn (n : Nat) : ∀ (l : List Nat) (p : Pot), (scanO (fun _ p => gateF n p) (fun _ p => gateP n p) l p).filter isT = []
  | [], _ => rfl
  | a :: l, p => by
    show (gateF n p :: scanO _ _ l (gateP n p)).filter isT = []
    rw [List.filter_cons, gate_isT]
    exact no_turn n l _
theorem lines_is {n u x : Nat} {ks : List (List Nat)} {p : Pot} (h1 : 1 ≤ n) (h4 : n ≤ 4) (hk : okKs ks) : (∀ l ∈ (linesT n ks u x p).ls, okLn n l) ∧ (linesT n ks u x p).ls.length ≤ x + u ∧ ((linesT n ks u x p).ls.filter isT).length ≤ u := by
  have hx : tk p (x + 1) < x + 1 := tk_lt (by omega)
  have := iter_I (nx := lnX n ks) (fun k t => (∀ l ∈ t.ls, okLn n l) ∧ t.ls.length + k ≤ x + u ∧ (t.ls.filter isT).length + k ≤ u) (fun k t hi => ?_) u ⟨gatesP n (tk p (x + 1)) (tkP p (x + 1)), gatesF n (tk p (x + 1)) (tkP p (x + 1))⟩ ⟨?_, ?_, ?_⟩
  · exact this
  · obtain ⟨i1, i2, i3⟩ := hi
    refine ⟨fun l hl => ?_, ?_, ?_⟩
    · rcases List.mem_append.mp hl with hl | hl
      · rcases List.mem_append.mp hl with hl | hl
        · exact i1 l (List.mem_of_mem_take hl)
        · rw [List.mem_singleton.mp hl]
          exact turn_is h1 h4 hk
      · exact i1 l (List.mem_of_mem_drop hl)
    · show (_ ++ [_] ++ _).length + k ≤ _
      rw [List.length_append, List.length_append]
      have e := congrArg List.length (List.take_append_drop (tk t.p (t.ls.length + 1)) t.ls)
      rw [List.length_append] at e
      show _ + 1 + _ + k ≤ _
      omega
    · show ((_ ++ [_] ++ _).filter isT).length + k ≤ _
      rw [List.filter_append, List.filter_append, List.length_append, List.length_append]
      have e := filt_cut isT t.ls (tk t.p (t.ls.length + 1))
      show _ + 1 + _ + k ≤ _
      omega
  · refine scanO_all (P := fun l => okLn n l) (fun _ => True) (fun _ _ _ => trivial) (fun _ t _ => gate_is h1 h4) _ _ trivial
  · show (gatesF n (tk p (x + 1)) (tkP p (x + 1))).length + u ≤ _
    unfold gatesF
    rw [scanO_len, List.length_range]
    omega
  · show ((gatesF n (tk p (x + 1)) (tkP p (x + 1))).filter isT).length + u ≤ _
    unfold gatesF
    rw [no_turn]
    simp
theorem linesT_ok {n u x m : Nat} {ks : List (List Nat)} {p : Pot} (h4 : n ≤ 4) (hk : okKs ks) (h : p.ok m) : (linesT n ks u x p).p.ok (m + 1 + 8 * x + 15 * u) := by
  have hx : tk p (x + 1) < x + 1 := tk_lt (by omega)
  have := iter_I (nx := lnX n ks) (fun k t => t.p.ok (m + 1 + 8 * x + 15 * u - 15 * k) ∧ k ≤ u) (fun k t hi => ⟨(turnP_ok h4 hk (tkP_ok hi.1)).mono (by omega), by omega⟩) u ⟨gatesP n (tk p (x + 1)) (tkP p (x + 1)), gatesF n (tk p (x + 1)) (tkP p (x + 1))⟩ ⟨?_, Nat.le_refl _⟩
  · exact this.1
  · exact (gatesP_ok h4 (List.range _) _ _ (tkP_ok h)).mono (by rw [List.length_range]; omega)
theorem linesC {n u x : Nat} {ks : List (List Nat)} {p : Pot} (h1 : 1 ≤ n) (h4 : n ≤ 4) (hk : okKs ks) (hu : u ≤ 6) (hx : x ≤ 30) : okC n (linesT n ks u x p).ls := by
  obtain ⟨l1, l2, l3⟩ := lines_is (u := u) (x := x) (p := p) h1 h4 hk
  exact ⟨h1, h4, l1, by omega, by omega⟩
def rLines : Rel := fun ss μ r μ' => ∃ (j : Nat) (p : Pot) (n : Nat) (ks : List (List Nat)) (u x : Nat), p.ok 8400 ∧ 1 ≤ n ∧ n ≤ 4 ∧ okKs ks ∧ u ≤ 6 ∧ x ≤ 30 ∧ ss = [.l j, .p (.int (n : Nat)), .p (.lst (ks.map nmD)), .p (.int (u : Nat)), .p (.int (x : Nat))] ∧ μ[j]? = some p.m ∧ r = .v (.p (.lst ((linesT n ks u x p).ls.map lnD))) ∧ μ' = μ.set j (linesT n ks u x p).p.m
/-! ### knobs beside none -/
abbrev nmPy (k : List Nat) : PyData := .str (st k)
theorem nm_pys : ∀ L : List (List Nat), PyDs (L.map nmD) (L.map nmPy)
  | [] => .nil
  | c :: L => .cons (.str _) (nm_pys L)
theorem st_all {k : List Nat} (h : ∀ c ∈ k, c < 1000) : (st k).cps.all (· < 0x110000) = true := by
  rw [Array.all_eq_true']
  intro c hc
  have hc' : c ∈ k := by simpa [Dl.st] using hc
  have := h c hc'
  simp
  omega
theorem nm_lay : ∀ {L : List (List Nat)}, (∀ k ∈ L, ∀ c ∈ k, c < 1000) → PyData.canLayAll0 (L.map nmPy) = true
  | [], _ => rfl
  | k :: L, h => by
    rw [List.map_cons]
    simp only [PyData.canLayAll0, PyData.canLay0, Bool.and_eq_true]
    exact ⟨st_all (h k (by simp)), nm_lay fun x hx => h x (by simp [hx])⟩
theorem nm_depth : ∀ L : List (List Nat), PyData.depthAll (L.map nmPy) = 0
  | [] => rfl
  | c :: L => by
    rw [List.map_cons]
    simp only [PyData.depthAll, PyData.depth, nm_depth L]
    rfl
theorem nm_shaped {L : List (List Nat)} (h : ∀ k ∈ L, ∀ c ∈ k, c < 1000) : SeqAt.shaped (.list (L.map nmPy)) = true := by
  unfold SeqAt.shaped
  have e1 : (PyData.list (L.map nmPy)).canLay0 = true := by
    rw [PyData.canLay0]
    exact nm_lay h
  have e2 : (PyData.list (L.map nmPy)).depth ≤ 64 := by
    rw [PyData.depth, nm_depth]
    decide
  rw [e1, decide_eq_true e2]
  rfl
theorem okKs.low {ks : List (List Nat)} (h : okKs ks) : ∀ k ∈ ks, ∀ c ∈ k, c < 1000 := fun k hk c hc => by
  have := (h.nm k hk).az c hc
  omega
theorem nm_neq {ks : List (List Nat)} (h : ks ≠ []) : (!PyData.eqv (.list (ks.map nmPy)) (.list [])) = true := by
  cases ks with
  | nil => exact absurd rfl h
  | cons k ks => rfl
theorem cut_take {α : Type} (l : List α) {i : Nat} (h : i ≤ l.length) : cutX l none (some (i : Int)) = l.take i := by
  unfold cutX
  rw [sIx_nat, sIx_no, List.drop_zero, Nat.min_eq_left h, Nat.sub_zero]
theorem cut_drop {α : Type} (l : List α) {i : Nat} (h : i ≤ l.length) : cutX l (some (i : Int)) none = l.drop i := by
  unfold cutX
  rw [sIx_nat, sIx_no, Nat.min_eq_left h]
  exact List.take_of_length_le (by rw [List.length_drop]; omega)
section
variable {P : Program} {w : World} {K : PySem.W.Frag} {mg : Str → Option Value} {base : Heap} {f C : Addr} {fd : FuncData} {CC : Addr}
abbrev lnN : List Str := ["pot", "wires", "knobs", "turns", "fixed", "lap", "found", "at"]
theorem ok_lines (F : Fun K "_law_lines" "_law_lines" sLines f fd) (T : TM mg) (ct : Cf P w K mg base 1 "_law_take" [] rTk) (cg : Cf P w K mg base 4 "_law_gate" [] rGate) (ctn : Cf P w K mg base 4 "_law_turn" [] rDTurn) : FnOk P w K mg base (L2.CX P w) 5 f fd ["pot", "wires", "knobs", "turns", "fixed"] (spD K rLines) := by
  refine fn_D (k := 4) F scLines (fun ss μ r μ' h => by obtain ⟨_, _, _, _, _, _, _, _, _, _, _, _, rfl, _⟩ := h; rfl) ?_
  intro cdv A0 outer s0 H E N W ss μ r μ' g hA hR
  obtain ⟨j, p, n, ks, u, x, hp, h1, h4, hks, hu, hx, rfl, hj, rfl, rfl⟩ := hR
  have hm : tk p (x + 1) < x + 1 := tk_lt (by omega)
  have hone : ∀ k t d δ, (∃ x5 x7, δ = [some (.l j), some (.p (.int (n : Nat))), some (.p (.lst (ks.map nmD))), some (.p (.int (u : Nat))), some (.p (.int (x : Nat))), x5, some (.p (.lst (t.ls.map lnD))), x7]) → (t.p.ok (8800 - 15 * (k + 1)) ∧ t.ls.length ≤ 40 - (k + 1) ∧ k + 1 ≤ 6) → ((lnX n ks t).p.ok (8800 - 15 * k) ∧ (lnX n ks t).ls.length ≤ 40 - k ∧ k ≤ 6) ∧
      ∃ δt δ1, (asName 5) d δ = some δt ∧ DSs (cxOf (L2.CX P w) P w K mg base lnN "_law_lines" (defScope sLines) f cdv A0 outer s0 H E) N W δt (μ.set j t.p.m) (bodyOf sLines 1) (.nx δ1 (μ.set j (lnX n ks t).p.m)) ∧ (∃ x5 x7, δ1 = [some (.l j), some (.p (.int (n : Nat))), some (.p (.lst (ks.map nmD))), some (.p (.int (u : Nat))), some (.p (.int (x : Nat))), x5, some (.p (.lst ((lnX n ks t).ls.map lnD))), x7]) := by
    rintro k t d _ ⟨x5, x7, rfl⟩ ⟨ok, hl, hk⟩
    have ha : tk t.p (t.ls.length + 1) < t.ls.length + 1 := tk_lt (by omega)
    have e := congrArg List.length (List.take_append_drop (tk t.p (t.ls.length + 1)) t.ls)
    rw [List.length_append] at e
    refine ⟨⟨(turnP_ok h4 hks (tkP_ok ok)).mono (by omega), ?_, by omega⟩, _, _, rfl, dss_cons (ds_set 7 (de_call g ct (da_cons (de_var 0) (da_cons (de_of (d' := .int ((t.ls.length + 1 : Nat) : Int)) (de_bin (de_callB (id := "len") (da_cons (de_var 6) da_nil) (c_lenL g) T.len (by decide +kernel)) de_int o_add) (by rw [List.length_map]; rfl)) da_nil)) ⟨j, t.p, t.ls.length + 1, ok.mono (by omega), by omega, by omega, rfl, set_at hj, rfl, (List.set_set ..).symm⟩) g.nd) (cn
      (dss_cons (ds_set 6 (de_of (d' := .lst ((lnX n ks t).ls.map lnD)) (de_bin (de_bin (de_cutLt g (de_var 6) (de_var 7)) (de_lst (dp_cons (de_call g ctn (da_cons (de_var 0) (da_cons (de_var 1) (da_cons (de_var 2) da_nil))) ⟨j, tkP t.p (t.ls.length + 1), n, ks, (tkP_ok ok).mono (by omega), h1, h4, hks, rfl, set_at hj, rfl, (List.set_set ..).symm⟩) dp_nil)) (o_catL ?a1)) (de_cutLf g (de_var 6) (de_var 7)) (o_catL ?a2)) ?a3) g.nd) (cn dss_nil))), _, _, rfl⟩
    · show (_ ++ [_] ++ _).length ≤ _
      rw [List.length_append, List.length_append]
      show _ + 1 + _ ≤ _
      omega
    case a1 =>
      rw [cut_take _ (by rw [List.length_map]; omega), List.length_take, List.length_map]
      exact sz (by show _ + 1 ≤ _; omega)
    case a2 =>
      rw [cut_take _ (by rw [List.length_map]; omega), cut_drop _ (by rw [List.length_map]; omega)]
      simp only [List.length_append, List.length_take, List.length_drop, List.length_map, List.length_cons, List.length_nil]
      exact sz (by omega)
    case a3 =>
      rw [cut_take _ (by rw [List.length_map]; omega), cut_drop _ (by rw [List.length_map]; omega)]
      unfold lnX
      simp [List.map_take, List.map_drop]
  have er : (rangeD 0 u).length = u := by simp [rangeD]
  have hg0 : (gatesP n (tk p (x + 1)) (tkP p (x + 1))).ok 8650 := (gatesP_ok h4 (List.range _) _ _ (tkP_ok hp)).mono (by rw [List.length_range]; omega)
  have hgl : (gatesF n (tk p (x + 1)) (tkP p (x + 1))).length = tk p (x + 1) := by unfold gatesF; rw [scanO_len, List.length_range]
  obtain ⟨δ', hl, ⟨x5, x7, rfl⟩, hI⟩ := loop_st (X := cxOf (L2.CX P w) P w K mg base lnN "_law_lines" (defScope sLines) f cdv A0 outer s0 H E) (N := N) (W := W) (f := asName 5) (body := bodyOf sLines 1) (T := LnT) (mu := fun t => μ.set j t.p.m) (nx := lnX n ks)
    (fun k t => t.p.ok (8800 - 15 * k) ∧ t.ls.length ≤ 40 - k ∧ k ≤ 6) (fun t δ => ∃ x5 x7, δ = [some (.l j), some (.p (.int (n : Nat))), some (.p (.lst (ks.map nmD))), some (.p (.int (u : Nat))), some (.p (.int (x : Nat))), x5, some (.p (.lst (t.ls.map lnD))), x7]) hone (rangeD 0 u) [some (.l j), some (.p (.int (n : Nat))), some (.p (.lst (ks.map nmD))), some (.p (.int (u : Nat))), some (.p (.int (x : Nat))), none, some (.p (.lst ((gatesF n (tk p (x + 1)) (tkP p (x + 1))).map lnD))), none] ⟨gatesP n (tk p (x + 1)) (tkP p (x + 1)), gatesF n (tk p (x + 1)) (tkP p (x + 1))⟩ ⟨_, _, rfl⟩
    (by
      rw [er]
      exact ⟨hg0.mono (by omega), by show (gatesF _ _ _).length ≤ _; omega, hu⟩)
  rw [er] at hl
  refine ⟨_, dss_cons (ds_setLc 6 g [("lap", 5)] (di_range1 (da_cons (de_call g ct (da_cons (de_var 0) (da_cons (de_of (d' := .int ((x + 1 : Nat) : Int)) (de_bin (de_var 4) de_int o_add) rfl) da_nil)) ⟨j, p, x + 1, hp.mono (by omega), by omega, by omega, rfl, hj, rfl, rfl⟩) da_nil) T.range (by omega)) (fun s H C cl fp => dg_name 5 g.nd) ?b1 (ok := blkOk_by (by rfl)) (hds := ?b2)) (cn
    (dss_cons (ds_for g (di_range1 (da_cons (de_if (r := .v (.p (.int (u : Nat)))) (k := true) (dt_cmp (de_var 2) (de_lst dp_nil) (o_neD g (.lst (nm_pys ks)) (.lst .nil) (nm_shaped hks.low) (by decide +kernel) (nm_neq hks.one))) (fun _ => de_var 3) (fun h => by cases h)) da_nil) T.range (by omega)) (dg_name 5 g.nd) hl) (cn
    (dss_ret (de_var 6))))), .rt⟩
  case b1 =>
    rw [← show scanO (fun (_ : Nat) p => lnD (gateF n p)) (fun _ p => gateP n p) (List.range (tk p (x + 1))) (tkP p (x + 1)) = (gatesF n (tk p (x + 1)) (tkP p (x + 1))).map lnD from scanO_map lnD _ _ _ _]
    exact of_scan (T := Pot) (mu := fun t => μ.set j t.m) (fun m t => m ≤ 30 ∧ t.ok (8700 - 8 * m)) (List.range (tk p (x + 1))) (tkP p (x + 1)) ⟨by rw [List.length_range]; omega, (tkP_ok hp).mono (by rw [List.length_range]; omega)⟩ fun m t a _ hi => ⟨⟨by omega, (gateP_ok h4 hi.2).mono (by omega)⟩, _, rfl, fun s H C cl fp N' hK g' => de_call g' cg (da_cons (de_var 0) (da_cons (de_var 1) da_nil)) ⟨j, t, n, hi.2.mono (by omega), h1, h4, rfl, set_at hj, rfl, (List.set_set ..).symm⟩⟩
  case b2 =>
    rw [rangeD, List.length_map, List.length_range]
    exact sz' (by omega)
end
/-! ### a drawn circuit -/
theorem scDrawn : FnScope ["pot", "most", "wires", "knobs"] ["pot", "most"] (defScope sDrawn) := ⟨rfl, rfl, rfl, by decide +kernel, rfl, by decide +kernel, by decide +kernel⟩
def fixL : List Nat := [0, 3, 6, 12]
def drN (p : Pot) : Nat := 1 + tk p 4
def drK (p : Pot) : List (List Nat) × Pot := knobsD (1 + tk (tkP p 4) 5) (tkP (tkP p 4) 5)
def drX (p : Pot) : Nat := fixL.getD (tk (tkP (drK p).2 7) 4) 0
def drT (p : Pot) : LnT := linesT (drN p) (drK p).1 (tk (drK p).2 7) (drX p) (tkP (tkP (drK p).2 7) 4)
theorem drX_le (p : Pot) : drX p ≤ 12 := by
  have : ∀ x ∈ fixL, x ≤ 12 := by decide
  exact getD_in (q := fun x => x ≤ 12) this (tk_lt (by decide))
theorem drN_is (p : Pot) : 1 ≤ drN p ∧ drN p ≤ 4 := by
  have := tk_lt (p := p) (u := 4) (by decide)
  unfold drN
  omega
theorem drK_is (p : Pot) : okKs (drK p).1 := by
  have := tk_lt (p := tkP p 4) (u := 5) (by decide)
  exact knobsD_is (by omega) (by omega)
theorem drKP_ok {m : Nat} {p : Pot} (h : p.ok m) : (drK p).2.ok (m + 7) := by
  have := tk_lt (p := tkP p 4) (u := 5) (by decide)
  exact (someF_ok (tkP_ok (tkP_ok h))).mono (by omega)
theorem drT_is (p : Pot) : okC (drN p) (drT p).ls ∧ (drT p).ls.length ≤ 18 := by
  have hu := tk_lt (p := (drK p).2) (u := 7) (by decide)
  have hx := drX_le p
  obtain ⟨n1, n4⟩ := drN_is p
  refine ⟨linesC n1 n4 (drK_is p) (by omega) (by omega), ?_⟩
  have := (lines_is (u := tk (drK p).2 7) (x := drX p) (p := tkP (tkP (drK p).2 7) 4) n1 n4 (drK_is p)).2.1
  exact Nat.le_trans this (by omega)
theorem drT_ok {m : Nat} {p : Pot} (h : p.ok m) : (drT p).p.ok (m + 200) := by
  have hu := tk_lt (p := (drK p).2) (u := 7) (by decide)
  have hx := drX_le p
  exact (linesT_ok (drN_is p).2 (drK_is p) (tkP_ok (tkP_ok (drKP_ok h)))).mono (by omega)
def rDrawn : Rel := fun ss μ r μ' => ∃ (j : Nat) (p : Pot), p.ok 8300 ∧ ss = [.l j, .p (.int 4)] ∧ μ[j]? = some p.m ∧ r = .v (.p (.tup [.int (drN p : Nat), .lst ((drT p).ls.map lnD)])) ∧ μ' = μ.set j (drT p).p.m
section
variable {P : Program} {w : World} {K : PySem.W.Frag} {mg : Str → Option Value} {base : Heap} {f C : Addr} {fd : FuncData} {CC : Addr}
theorem ok_drawn (F : Fun K "_law_drawn" "_law_drawn" sDrawn f fd) (T : TM mg) (ct : Cf P w K mg base 1 "_law_take" [] rTk) (co : Cf P w K mg base 2 "_law_of" [] rOf) (ck : Cf P w K mg base 3 "_law_knobs" [] rKnobs) (cl_ : Cf P w K mg base 5 "_law_lines" [] rLines) : FnOk P w K mg base (L2.CX P w) 6 f fd ["pot", "most"] (spD K rDrawn) := by
  refine fn_D (k := 5) F scDrawn (fun ss μ r μ' h => by obtain ⟨_, _, _, rfl, _⟩ := h; rfl) ?_
  intro cdv A0 outer s0 H E N W ss μ r μ' g hA hR
  obtain ⟨j, p, hp, rfl, hj, rfl, rfl⟩ := hR
  have hu := tk_lt (p := (drK p).2) (u := 7) (by decide)
  have hx := drX_le p
  have h5 := tk_lt (p := tkP p 4) (u := 5) (by decide)
  obtain ⟨n1, n4⟩ := drN_is p
  have k3 : (drK p).2.ok 8310 := (drKP_ok hp).mono (by omega)
  exact ⟨_, dss_cons (ds_set 2 (de_of (d' := .int (drN p : Nat)) (de_bin de_int (de_call g ct (da_cons (de_var 0) (da_cons (de_var 1) da_nil)) ⟨j, p, 4, hp.mono (by omega), by decide, by decide, rfl, hj, rfl, rfl⟩) o_add) (congrArg D.int (by unfold drN; omega))) g.nd) (cn
    (dss_cons (ds_set 3 (de_call g ck (da_cons (de_var 0) (da_cons (de_of (d' := .int ((1 + tk (tkP p 4) 5 : Nat) : Int)) (de_bin de_int (de_call g ct (da_cons (de_var 0) (da_cons (de_of (d' := .int ((5 : Nat) : Int)) de_int rfl) da_nil)) ⟨j, tkP p 4, 5, (tkP_ok hp).mono (by omega), by decide, by decide, rfl, set_at hj, rfl, (List.set_set ..).symm⟩) o_add) (congrArg D.int (by omega))) da_nil)) ⟨j, tkP (tkP p 4) 5, 1 + tk (tkP p 4) 5, (tkP_ok (tkP_ok hp)).mono (by omega), by omega, rfl, set_at hj, rfl, (List.set_set ..).symm⟩) g.nd) (cn
    (dss_ret (de_tup (dp_cons (de_var 2) (dp_cons (de_call g cl_ (da_cons (de_var 0) (da_cons (de_var 2) (da_cons (de_var 3) (da_cons (de_call g ct (da_cons (de_var 0) (da_cons (de_of (d' := .int ((7 : Nat) : Int)) de_int rfl) da_nil)) ⟨j, (drK p).2, 7, k3.mono (by omega), by decide, by decide, rfl, set_at hj, rfl, (List.set_set ..).symm⟩) (da_cons (de_call (r := .v (.p (inD (drX p)))) g co (da_cons (de_var 0) (da_cons (s := .p (.lst (fixL.map inD))) (de_lst (dp_cons de_int (dp_cons de_int (dp_cons de_int (dp_cons de_int dp_nil)))) (sz (by show 4 ≤ 100000; decide))) da_nil)) ⟨j, tkP (drK p).2 7, (tkP_ok k3).mono (by omega), set_at hj, .inl ⟨Nat, inD, 0, fixL, by decide, by decide, rfl, rfl, (List.set_set ..).symm⟩⟩) da_nil))))) ⟨j, tkP (tkP (drK p).2 7) 4, drN p, (drK p).1, tk (drK p).2 7, drX p, (tkP_ok (tkP_ok k3)).mono (by omega), n1, n4, drK_is p, by omega, by omega, rfl, set_at hj, rfl, (List.set_set ..).symm⟩) dp_nil))))))), .rt⟩
end
end K20
set_option Elab.async false
set_option linter.all false
set_option maxRecDepth 100000
set_option maxHeartbeats 4000000
set_option autoImplicit false
namespace Cq
open PySem PySem.Spec PyProof.Rows L2 Dl
/-- a text that is read as a circuit is the text of that circuit -/
theorem rdS_ok {w : Nat} : ∀ (lines : List (List Nat)) (k t : Nat) (done ls : List Ln), k ≤ 40 → t ≤ 6 → done.length = k → (done.filter isT).length = t → (∀ l ∈ done, okLn w l) → rdS w k t lines done = .inr ls →
    (∀ l ∈ ls, okLn w l) ∧ ls.length ≤ 40 ∧ (ls.filter isT).length ≤ 6 ∧ ls.map lt = done.map lt ++ lines
  | [], k, t, done, ls, hk, ht, hd, hf, ok, h => by
    cases h
    exact ⟨ok, by omega, by omega, by simp⟩
  | l :: lines, k, t, done, ls, hk, ht, hd, hf, ok, h => by
    unfold rdS at h
    cases hl : rdL w l with
    | none => rw [hl] at h; cases h
    | some s =>
      rw [hl] at h
      simp only at h
      obtain ⟨t1, ht1⟩ : ∃ t1, t1 = t + (if isT s then 1 else 0) := ⟨_, rfl⟩
      rw [← ht1] at h
      by_cases hb : 6 < t1 ∨ k = 40
      · rw [if_pos hb] at h; cases h
      · rw [if_neg hb] at h
        obtain ⟨oks, els⟩ := rdL_ok hl
        have cnt : ((done ++ [s]).filter isT).length = t1 := by
          rw [List.filter_append, List.length_append, hf, ht1]
          cases hT : isT s with
          | true => rw [List.filter_cons, if_pos hT, if_pos rfl]; rfl
          | false => rw [List.filter_cons, if_neg (by rw [hT]; decide), if_neg (by decide)]; rfl
        obtain ⟨r1, r2, r3, r4⟩ := rdS_ok lines (k + 1) t1 (done ++ [s]) ls (by omega) (by omega) (by rw [List.length_append, hd]; rfl) cnt (fun x hx => by
          rcases List.mem_append.mp hx with hx | hx
          · exact ok x hx
          · rw [List.mem_singleton.mp hx]; exact oks) h
        refine ⟨r1, r2, r3, ?_⟩
        rw [r4, List.map_append, List.append_assoc]
        show done.map lt ++ (lt s :: lines) = _
        rw [els]
theorem rdC_ok {text : List Nat} {w : Nat} {ls : List Ln} (h : rdC text = .inr (w, ls)) : okC w ls ∧ ct w ls = text := by
  unfold rdC at h
  split at h
  · rename_i first lines hs
    split at h
    · cases h
    · rename_i v hv
      split at h
      · cases h
      · rename_i ls' hr
        have h := Sum.inr.inj h
        obtain ⟨rfl, rfl⟩ := Prod.mk.inj h
        obtain ⟨r1, r2, r3, r4⟩ := rdS_ok lines 0 0 [] _ (by omega) (by omega) rfl rfl (fun _ h => by cases h) hr
        unfold szV at hv
        have q1 := List.mem_of_find?_eq_some hv
        have q2 := List.find?_some hv
        have q2 := of_decide_eq_true q2
        simp only [List.mem_cons, List.not_mem_nil, or_false] at q1
        refine ⟨⟨by omega, by omega, r1, r2, r3⟩, ?_⟩
        unfold ct
        rw [r4, List.map_nil, List.nil_append, q2, ← hs]
        exact joinL_spl 10 text
  · cases h
end Cq
set_option Elab.async false
set_option linter.all false
set_option maxRecDepth 100000
set_option maxHeartbeats 4000000
set_option autoImplicit false
namespace Cq
open PySem PySem.Spec PyProof.Rows L2 Dl
/-! # the law's own look at numbers: which texts are wires, which are multiples -/
def dgc (c : Nat) : Bool := decide (48 ≤ c) && decide (c ≤ 57)
def whV (L : List Nat) : Option Int :=
  if offM L = [] ∨ (offM L).all dgc = false then none
  else if (offM L).headD 0 ≠ 48 ∨ L = [48] then some (sgM L * ((NumText.digitsVal (offM L) : Nat) : Int)) else none
theorem fold_ge : ∀ (r : List Nat) (a : Nat), a * 10 ^ r.length ≤ r.foldl (fun acc c => acc * 10 + (c - 48)) a
  | [], a => by simp
  | c :: r, a => by
    rw [List.foldl_cons, List.length_cons, Nat.pow_succ]
    refine Nat.le_trans ?_ (fold_ge r (a * 10 + (c - 48)))
    rw [show a * (10 ^ r.length * 10) = (a * 10) * 10 ^ r.length by rw [Nat.mul_assoc, Nat.mul_comm 10]]
    exact Nat.mul_le_mul_right _ (Nat.le_add_right _ _)
theorem digs_ge {c : Nat} {r : List Nat} (h : 49 ≤ c) : (c - 48) * 10 ^ r.length ≤ NumText.digitsVal (c :: r) := by
  have e : NumText.digitsVal (c :: r) = r.foldl (fun acc c => acc * 10 + (c - 48)) (c - 48) := by
    unfold NumText.digitsVal
    rw [List.foldl_cons, Nat.zero_mul, Nat.zero_add]
  rw [e]
  exact fold_ge r (c - 48)
theorem sgM_pm (L : List Nat) : sgM L = 1 ∨ sgM L = -1 := by unfold sgM; split <;> simp
/-- a number of the law that is small has one digit -/
theorem whV_small {L : List Nat} {v : Int} (h : whV L = some v) (hv : v.natAbs ≤ 9) : ∃ a : Nat, a ≤ 9 ∧ ((L = [48 + a] ∧ v = (a : Int)) ∨ (L = [45, 48 + a] ∧ v = -(a : Int) ∧ 1 ≤ a)) := by
  unfold whV at h
  split at h
  · cases h
  rename_i h1
  have h1 : offM L ≠ [] ∧ (offM L).all dgc = true := ⟨fun z => h1 (.inl z), by
    cases hq : (offM L).all dgc with
    | true => rfl
    | false => exact absurd (.inr hq) h1⟩
  split at h
  · rename_i h2
    have e := Option.some.inj h
    by_cases hL : L = [48]
    · subst hL
      refine ⟨0, by omega, .inl ⟨rfl, ?_⟩⟩
      rw [← e]
      rfl
    have hh : (offM L).headD 0 ≠ 48 := h2.resolve_right hL
    match hO : offM L, h1.1, h1.2, hh with
    | c :: r, _, hall, hh =>
      rw [List.all_cons, Bool.and_eq_true] at hall
      unfold dgc at hall
      rw [Bool.and_eq_true, decide_eq_true_eq, decide_eq_true_eq] at hall
      have hc : 49 ≤ c := by
        have : c ≠ 48 := hh
        omega
      have ge := digs_ge (r := r) hc
      rw [hO] at e
      have hd : NumText.digitsVal (c :: r) ≤ 9 := by
        rcases sgM_pm L with q | q <;> rw [q] at e <;> omega
      have hr : r = [] := by
        cases r with
        | nil => rfl
        | cons d r =>
          rw [List.length_cons, Nat.pow_succ] at ge
          have : 1 ≤ 10 ^ r.length := Nat.one_le_pow _ _ (by decide)
          have : 1 * 10 ≤ (c - 48) * (10 ^ r.length * 10) := Nat.mul_le_mul (by omega) (by omega)
          omega
      subst hr
      have hval : NumText.digitsVal [c] = c - 48 := by simp [NumText.digitsVal]
      rw [hval] at e
      refine ⟨c - 48, by omega, ?_⟩
      unfold offM at hO
      unfold sgM at e
      by_cases hm : L.head? = some 45
      · rw [if_pos hm] at hO e
        cases L with
        | nil => cases hm
        | cons x t =>
          injection hm with hm
          subst hm
          have hO : t = [c] := hO
          subst hO
          refine .inr ⟨by rw [show 48 + (c - 48) = c by omega], by omega, by omega⟩
      · rw [if_neg hm] at hO e
        subst hO
        refine .inl ⟨by rw [show 48 + (c - 48) = c by omega], by omega⟩
  · cases h
theorem whV_dig : ∀ a : Fin 10, whV [48 + a.val] = some (a.val : Int) := by decide +kernel
theorem whV_one {a : Nat} (h : a ≤ 9) : whV [48 + a] = some (a : Int) := whV_dig ⟨a, by omega⟩
/-- wires -/
theorem whV_wire {w : Nat} (h4 : w ≤ 4) (L : List Nat) : dgB w L = (match whV L with | some v => decide (0 ≤ v) && decide (v < (w : Int)) | none => false) := by
  cases hv : whV L with
  | none =>
    refine Bool.eq_false_iff.mpr fun z => ?_
    obtain ⟨a, ha, e⟩ := List.any_eq_true.mp z
    rw [of_decide_eq_true e, whV_one (by have := List.mem_range.mp ha; omega)] at hv
    cases hv
  | some v =>
    rw [Bool.eq_iff_iff]
    constructor
    · intro z
      obtain ⟨a, ha, e⟩ := List.any_eq_true.mp z
      have ha := List.mem_range.mp ha
      rw [of_decide_eq_true e, whV_one (by omega)] at hv
      cases hv
      simp
      omega
    · intro z
      have z : (decide (0 ≤ v) && decide (v < (w : Int))) = true := z
      rw [Bool.and_eq_true, decide_eq_true_eq, decide_eq_true_eq] at z
      obtain ⟨a, ha, (⟨e, e2⟩ | ⟨e, e2, e3⟩)⟩ := whV_small hv (by omega)
      · exact List.any_eq_true.mpr ⟨a, List.mem_range.mpr (by omega), decide_eq_true e⟩
      · omega
theorem whV_val {w : Nat} (h4 : w ≤ 4) {L : List Nat} (h : dgB w L = true) : whV L = some ((dgV L : Nat) : Int) ∧ dgV L < w := by
  obtain ⟨a, ha, e⟩ := List.any_eq_true.mp h
  have ha := List.mem_range.mp ha
  rw [of_decide_eq_true e]
  have : dgV [48 + a] = a := by unfold dgV; simp
  rw [this]
  exact ⟨whV_one (by omega), ha⟩
/-- multiples -/
theorem whV_mt : ∀ i ∈ manys, whV (mt i) = some i := by decide +kernel
theorem whV_many (L : List Nat) : mnV L = (match whV L with | some v => if 1 ≤ v.natAbs ∧ v.natAbs ≤ 4 then some v else none | none => none) := by
  unfold mnV
  cases hm : manys.find? fun i => decide (mt i = L) with
  | some i =>
    have hi := List.mem_of_find?_eq_some hm
    have e : mt i = L := of_decide_eq_true (List.find?_some (p := fun i => decide (mt i = L)) hm)
    rw [← e, whV_mt i hi]
    have : ∀ j ∈ manys, 1 ≤ j.natAbs ∧ j.natAbs ≤ 4 := by decide
    exact (if_pos (this i hi)).symm
  | none =>
    cases hv : whV L with
    | none => rfl
    | some v =>
      show none = if _ then _ else _
      by_cases h : 1 ≤ v.natAbs ∧ v.natAbs ≤ 4
      · have hn := List.find?_eq_none.mp hm
        have key : ∀ i ∈ manys, mt i ≠ L := fun i hi e => hn i hi (decide_eq_true e)
        obtain ⟨a, ha, (⟨e, e2⟩ | ⟨e, e2, e3⟩)⟩ := whV_small hv (by omega)
        · have : a = 1 ∨ a = 2 ∨ a = 3 ∨ a = 4 := by omega
          rcases this with q | q | q | q <;> subst q <;> first
            | exact absurd (by rw [e]; decide : mt 1 = L) (key 1 (by decide))
            | exact absurd (by rw [e]; decide : mt 2 = L) (key 2 (by decide))
            | exact absurd (by rw [e]; decide : mt 3 = L) (key 3 (by decide))
            | exact absurd (by rw [e]; decide : mt 4 = L) (key 4 (by decide))
        · have : a = 1 ∨ a = 2 ∨ a = 3 ∨ a = 4 := by omega
          rcases this with q | q | q | q <;> subst q <;> first
            | exact absurd (by rw [e]; decide : mt (-1) = L) (key (-1) (by decide))
            | exact absurd (by rw [e]; decide : mt (-2) = L) (key (-2) (by decide))
            | exact absurd (by rw [e]; decide : mt (-3) = L) (key (-3) (by decide))
            | exact absurd (by rw [e]; decide : mt (-4) = L) (key (-4) (by decide))
      · exact (if_neg h).symm
/-- the number as int reads it -/
theorem whV_int {L : List Nat} {v : Int} (h : whV L = some v) (hl : L.length ≤ 640) : intText? (st L) = some v := by
  unfold whV at h
  split at h
  · cases h
  rename_i h1
  split at h
  · have e := Option.some.inj h
    have hne : offM L ≠ [] := fun z => h1 (.inl z)
    have hall : NumText.AllDigits (offM L) := fun c hc => by
      have ha : (offM L).all dgc = true := by
        cases hq : (offM L).all dgc with
        | true => rfl
        | false => exact absurd (.inr hq) h1
      have := List.all_eq_true.mp ha c hc
      unfold dgc at this
      rw [Bool.and_eq_true, decide_eq_true_eq, decide_eq_true_eq] at this
      exact this
    rw [← e]
    unfold sgM
    unfold offM at hne hall ⊢
    by_cases hm : L.head? = some 45
    · rw [if_pos hm] at hne hall ⊢
      rw [if_pos hm]
      cases L with
      | nil => cases hm
      | cons x t =>
        injection hm with hm
        subst hm
        have := PySem.intText_neg (x := st (45 :: t)) (cs := t) rfl hall hne (by rw [st_len]; omega)
        rw [this]
        simp
    · rw [if_neg hm] at hne hall ⊢
      rw [if_neg hm]
      have := PySem.intText_digits (x := st L) hall hne (by rw [st_len]; omega)
      rw [this]
      simp [Dl.st]
  · cases h
end Cq
set_option Elab.async false
set_option linter.all false
set_option maxRecDepth 100000
set_option maxHeartbeats 4000000
set_option autoImplicit false
namespace Dl
open PySem PySem.Spec PyProof.Rows L2
/-! ## set(xs) of a list of ints, with what its order rests on -/
abbrev newSet (w : World) : Obj := { cls := .type "set", dict := none, data := .set #[] 0 (.fresh 0 0 (!w.params.followText "set-order")) }
section
variable {P : Program} {w : World} {A : Around} {E : Value → Shared → Prop} {s : Shared}
set_option maxRecDepth 100000 in
theorem set_of_list {l : Addr} {items : Array Value} (ns : List Int) {Q : Value → Shared → Prop} (calm : A.handled = none) (isl : s.heap.IsList l items) (isi : IntsAre items.toList ns) (few : ns.length + 1 < scanBound)
    (k : ∀ (g : Heap) (tk c : Nat), SetR w g s.heap.objs.size (fun j => decide (j ∈ ns)) c → c ≤ ns.length → (∀ b o, s.heap.get? b = some o → g.get? b = some o) → Q (.ref s.heap.objs.size) { s with heap := g, toks := tk }) :
    wpAny (model P w) A (call (.type "set") [.ref l]) Q E s := by
  have size : items.size = ns.length := by
    have z := IntsAre.length isi
    rw [Array.length_toList] at z
    exact z
  obtain ⟨c0, tl0, mro0⟩ := F.called_set.mro
  have m1 := F.called_set.made
  have m2 := F.called_set.sub
  refine wpAny_call (codeAny_of_tree ?_)
  show wpAny _ _ (callAny (.type "set") _) _ _ _
  refine wpAny_pure ⟨Code.quiet_builtin _ (by decide +kernel), codeAny_builtin F.entry_type_call ?_⟩
  rw [Around.under_plain (weight_type_call_type "set" [.ref l] []) rfl]
  have m3 := F.called_set.notType
  have m4 := F.called_set.canCreate
  have m5 := F.typeCall_set_1 (.ref l)
  repeat any_goals first | wp_step | assumption
  refine codeAny_mono (code_set_led1 (.ref l) (E := E) (Q₁ := fun ob t => ob = .ref s.heap.objs.size ∧ t = { s with heap := s.heap.push (newSet w) }) ⟨rfl, rfl⟩) fun r t hr => ?_
  cases r with
  | error e => exact hr
  | ok fl =>
    cases fl with
    | next => exact hr.elim
    | brk => exact hr.elim
    | cont => exact hr.elim
    | ret ob =>
      obtain ⟨rfl, rfl⟩ := hr
      have atS : (s.heap.push (newSet w)).get? s.heap.objs.size = some (newSet w) := Heap.get?_push_size _ rfl
      have tyS : Shared.TypeIs { s with heap := s.heap.push (newSet w) } (.ref s.heap.objs.size) "set" := ⟨_, atS, rfl⟩
      have i1 := F.called_set.init.lookup
      have i2 := F.called_set.init.bind (.ref s.heap.objs.size)
      repeat any_goals first | wp_step | assumption
      refine codeAny_mono (codeAny_call_builtin (R := wants (fun v t => v = .none ∧ ∃ g tk c, t = { s with heap := g, toks := tk } ∧ SetR w g s.heap.objs.size (fun j => decide (j ∈ ns)) c ∧ c ≤ ns.length ∧ (∀ b o, s.heap.get? b = some o → g.get? b = some o)) E)
        F.called_set.init.plain F.entry_set_init (check_set_init_1 tyS ?_)) fun r2 t2 hr2 => ?_
      · obtain ⟨⟨oc, od, oda, osl⟩, holo, hcl, nl, hdl⟩ := isl
        simp only at hcl hdl
        subst hcl hdl
        have atL : (s.heap.push (newSet w)).get? l = some { cls := .type "list", dict := od, data := .seq items nl, slots := osl } := Heap.get?_push_of_some _ holo
        have lst : (s.heap.push (newSet w)).IsList l items := ⟨_, atL, rfl, nl, rfl⟩
        have n1 := F.sub_list_set
        have n2 := F.sub_list_frozenset
        have n3 : (Value.type "list" == Value.type "dict") = false := by decide
        unfold Builtin.«set.__init__» noKeywords Builtin.Frozenset.updateFrom
        generalize hit : pyIter = IT
        wp_walk
        subst hit
        refine wpAny_pyIter_list lst (wpAny_bind (wpAny_runValue ?_))
        have big : l < s.heap.objs.size := Heap.lt_size holo
        have calm3 : A.in1.in1.in1.handled = none := by simp [calm]
        have offI : l ≠ (s.heap.push (newSet w)).objs.size := by
          rw [Heap.size_push]
          exact Nat.ne_of_lt (Nat.lt_succ_of_lt big)
        have offS : s.heap.objs.size ∉ [(s.heap.push (newSet w)).objs.size, l] := by
          rw [Heap.size_push]
          simp only [List.mem_cons, List.not_mem_nil, or_false, not_or]
          exact ⟨Nat.ne_of_lt (Nat.lt_succ_self _), (Nat.ne_of_lt big).symm⟩
        have val : ∀ (i : Nat) (v : Value), items[i]? = some v → ∃ z t, ns[i]? = some z ∧ v = .int z t := fun i v hv => by
          have lt : i < ns.length := by
            rw [← size]
            exact (Array.getElem?_eq_some_iff.mp hv).1
          obtain ⟨t, e⟩ := PyProof.Rows.IntsAre.int_at isi i v (by rw [Array.getElem?_toList]; exact hv)
          exact ⟨ns[i], t, List.getElem?_eq_getElem lt, by rw [e, List.getD_eq_getElem?_getD, List.getElem?_eq_getElem lt] <;> rfl⟩
        refine set_update_ints ((Walks.list calm3 _ l offI items).toS) s.heap.objs.size offS ns size few val (items.size - 0) 0 _ (by omega) (Nat.zero_le _) ⟨⟨_, Heap.get?_push_size _ rfl, rfl, rfl⟩, lst.push _⟩ ?_ ?_
        · exact ⟨0, Nat.le_refl 0, setR_new_at (Heap.get?_push_of_some _ atS)⟩
        · intro t3 c3 mv le R3
          obtain ⟨g3, gn, dr, tk, os⟩ := t3
          have e1 : gn = s.gens := mv.gens
          have e2 : dr = s.drawn := mv.drawn
          have e3 : os = s.os := mv.os
          subst e1 e2 e3
          rw [size] at le
          show wpAny _ _ _ _ _ _
          refine wpAny_pure ?_
          show wpAny _ _ (ret Value.none) _ _ _
          refine wpAny_pure ⟨rfl, g3, tk, c3, rfl, R3, le, fun b o e => ?_⟩
          have lt : b < s.heap.objs.size := Heap.lt_size e
          refine mv.heap b o ?_ (Heap.get?_push_of_some _ (Heap.get?_push_of_some _ e))
          simp only [List.mem_cons, List.not_mem_nil, or_false, not_or, Heap.size_push]
          exact ⟨Nat.ne_of_lt lt, Nat.ne_of_lt (Nat.lt_succ_of_lt lt)⟩
      · cases r2 with
        | error e => exact hr2
        | ok fl2 =>
          cases fl2 with
          | next => exact hr2.elim
          | brk => exact hr2.elim
          | cont => exact hr2.elim
          | ret v =>
            obtain ⟨rfl, g, tk, c, rfl, R, le, kp⟩ := hr2
            repeat any_goals first | wp_step | assumption
            exact k _ _ _ R le kp
end
section
variable {X : Cx} {N : En} {W : WX} {n : Nat} {δ : List (Option S)} {μ μ1 : List M} {e : Expr} {p1 p2 pos pos2 : Pos}
theorem cr_setI (hc : X.calm = true) : CallR X (.type "set") (fun xs H Q => ∃ (p : Addr) (ns : List Int), xs = [.ref p] ∧ SqL X.K H p (ns.map V.int) ∧ ns.length ≤ 1000 ∧ ∀ (a : Addr) (c : Nat), H a = none → c ≤ ns.length → Q (.ref a) (upd H a (SetO X.w a (fun j => decide (j ∈ ns)) c))) := by
  intro pins s σ H xs us Q I r ⟨p, ns, ex, hs, few, k⟩
  subst ex
  rw [Vals.ref1 r]
  obtain ⟨its, rv, ⟨⟨ocls, odd, oda, osl⟩, m, ho, hcl, hdn, hda⟩, hlen⟩ := I.list hs
  simp only at hcl hda
  have isl : s.heap.IsList p its.toArray := ⟨_, ho, hcl, m, hda⟩
  refine set_of_list ns (I.ok.hd hc) isl (ints_of_vals rv) (by unfold scanBound; omega) fun g tk c R le kp => ?_
  have nn : H s.heap.objs.size = none := I.hok.fresh (Nat.le_refl _)
  exact ⟨.ref s.heap.objs.size, _, I.laid kp (Nat.le_refl _) (setO_new R), rfl, k _ c nn le⟩
end
end Dl
set_option Elab.async false
set_option linter.all false
set_option maxRecDepth 100000
set_option maxHeartbeats 4000000
set_option autoImplicit false
set_option Elab.async false
set_option linter.all false
set_option maxRecDepth 100000
set_option maxHeartbeats 4000000
set_option autoImplicit false
namespace Dl
open PySem PySem.Spec PyProof.Rows L2
/-! ## == of data that hold own objects -/
theorem Rc.ext {N : En} {F : Hp} {A : List Addr} {H H' : Hp} {μ : List M} (r : Rc N F A H μ) (e : Ext H H') : Rc N F A H' μ where
  sub := r.sub.trans fun a o h => e a o h
  base := r.base
  new := r.new
  keep := fun a o h hA => e _ _ (r.keep a o h hA)
  pre := r.pre
  nd := r.nd
  len := r.len
  mus := fun j a m h1 h2 => by
    obtain ⟨o, ho⟩ := r.there (List.mem_of_getElem? h1)
    exact (r.mus j a m h1 h2).mono (Same.refl _) (List.prefix_refl _) ((e _ _ ho).trans ho.symm)
  fr := r.fr
theorem Rl.ext {N : En} {F : Hp} {A : List Addr} {H H' : Hp} {σ : L2.St} {δ : List (Option S)} {μ : List M} (r : Rl N F A H σ δ μ) (e : Ext H H') : Rl N F A H' σ δ μ := ⟨r.rc.ext e, r.len, r.sl⟩
/-- == inside a builtin, of what stands for d1 and d2, gives b -/
def EB (X : Cx) (n : Nat) (d1 d2 : D) (b : Bool) : Prop :=
  ∀ (A : Around) (pins : List (Addr × Obj)) (s : Shared) (σ : L2.St) (H F : Hp) (x y : V) (u v : Value), Sub X n A → Inv X pins σ H s → Same F H → RelV x u → RelV y v → Rep X.K F x d1 → Rep X.K F y d2 →
    wpAny (model X.prog X.w) A (eqBool u v) (fun r s' => r = b ∧ ∃ H', Inv X pins σ H' s' ∧ Ext H H') X.xe s
section
variable {X : Cx} {N : En} {W : WX} {n : Nat} {δ δ' δ1 δ2 : List (Option S)} {μ μ' μ1 μ2 μ3 : List M} {e a b c o : Expr} {pos p apos : Pos} {d : D} {s s1 s2 : S} {r : Rx} {R : Rel} {k : Nat} {C : Addr}
theorem EB.mono {m : Nat} {d1 d2 : D} {b : Bool} (h : EB X n d1 d2 b) (hn : n ≤ m) : EB X m d1 d2 b := fun A pins s σ H F x y u v sb => h A pins s σ H F x y u v (sb.mono hn)
end
end Dl
set_option Elab.async false
set_option linter.all false
set_option maxRecDepth 100000
set_option maxHeartbeats 4000000
set_option autoImplicit false
namespace Dl
open PySem PySem.Spec PyProof.Rows L2
/-! ## a value is equal to itself, whatever it holds -/
/-- its rich comparison with what stands for the same is True -/
def RB (X : Cx) (n : Nat) (d : D) : Prop :=
  ∀ (A : Around) (pins : List (Addr × Obj)) (s : Shared) (σ : L2.St) (H F : Hp) (x y : V) (u v : Value), Sub X n A → Inv X pins σ H s → Same F H → RelV x u → RelV y v → Rep X.K F x d → Rep X.K F y d →
    wpAny (model X.prog X.w) A (richCompare .Eq u v) (fun r s' => r = .bool true ∧ ∃ H', Inv X pins σ H' s' ∧ Ext H H') X.xe s
section
variable {X : Cx} {N : En} {W : WX} {n m : Nat} {μ : List M} {d : D} {ds : List D}
theorem RB.mono (h : RB X n d) (hn : n ≤ m) : RB X m d := fun A pins s σ H F x y u v sb => h A pins s σ H F x y u v (sb.mono hn)
theorem rep_dic {K : PySem.W.Frag} {F : Hp} {x : V} {ks : List Key} (h : Rep K F x (.dic ks ds)) : ∃ a kvs, x = .ref a ∧ F a = some (.dK kvs) ∧ kvs.map (·.1) = ks ∧ Reps K F (kvs.map (·.2)) ds := by
  generalize hd : D.dic ks ds = d at h
  cases h with
  | dic h1 h2 =>
    cases hd
    exact ⟨_, _, rfl, h1, rfl, h2⟩
  | _ => cases hd
end
end Dl
set_option Elab.async false
set_option linter.all false
set_option maxRecDepth 100000
set_option maxHeartbeats 4000000
set_option autoImplicit false
namespace Dl
open PySem PySem.Spec PyProof.Rows L2
/-! ## {k: v for ..} with keys that are texts, as data -/
inductive RKV (K : PySem.W.Frag) (F : Hp) : List (Key × V) → List (Key × D) → Prop
  | nil : RKV K F [] []
  | cons {k v d kvs kv} : Rep K F v d → RKV K F kvs kv → RKV K F ((k, v) :: kvs) ((k, d) :: kv)
section
variable {K : PySem.W.Frag} {F F' : Hp} {kvs : List (Key × V)} {kv : List (Key × D)} {k : Key} {v : V} {d : D}
theorem RKV.keys (h : RKV K F kvs kv) : kvs.map (·.1) = kv.map (·.1) := by
  induction h with
  | nil => rfl
  | cons _ _ ih => rw [List.map_cons, List.map_cons, ih]
theorem RKV.reps (h : RKV K F kvs kv) : Reps K F (kvs.map (·.2)) (kv.map (·.2)) := by
  induction h with
  | nil => exact .nil
  | cons r _ ih => exact .cons r ih
theorem RKV.mono (h : RKV K F kvs kv) (s : Same F F') : RKV K F' kvs kv := by
  induction h with
  | nil => exact .nil
  | cons r _ ih => exact .cons (r.mono s) ih
theorem RKV.any (h : RKV K F kvs kv) : (kvs.any fun p => decide (p.1 = k)) = kv.any fun p => decide (p.1 = k) := by
  induction h with
  | nil => rfl
  | cons _ _ ih => rw [List.any_cons, List.any_cons, ih]
theorem RKV.snoc (h : RKV K F kvs kv) (r : Rep K F v d) : RKV K F (kvs ++ [(k, v)]) (kv ++ [(k, d)]) := by
  induction h with
  | nil => exact .cons r .nil
  | cons q _ ih => exact .cons q ih
theorem RKV.rep {a : Addr} (h : RKV K F kvs kv) (e : F a = some (.dK kvs)) : Rep K F (.ref a) (.dic (kv.map (·.1)) (kv.map (·.2))) := by
  rw [← h.keys]
  exact .dic e h.reps
end
end Dl
set_option Elab.async false
set_option linter.all false
set_option maxRecDepth 100000
set_option maxHeartbeats 4000000
set_option autoImplicit false
namespace Dl
open PySem PySem.Spec PyProof.Rows L2
/-! ## dicts written: {}, and one text as key with an int as value -/
section
variable {X : Cx} {N : En} {W : WX} {δ : List (Option S)} {μ : List M} {p1 p2 pos : Pos} {x : Str} {i : Int} {j1 j2}
theorem de_dic0 : DE X N W δ μ (.Dict [] [] pos) (.v (.p (.dic [] []))) μ :=
  PE.imp pe_dnewK fun σ H Q ⟨F, A, R, q⟩ p np => by
    have sm := same_updN (o := .dK []) (R.rc.fresh np).2.1
    exact q (.ref p) _ A _ sm (List.prefix_refl _) (R.to sm (List.prefix_refl _) (R.rc.frozen np _)) (.dic (kvs := []) upd_same .nil)
end
end Dl
set_option Elab.async false
set_option linter.all false
set_option maxRecDepth 100000
set_option maxHeartbeats 4000000
set_option autoImplicit false
namespace Dl
open PySem PySem.Spec PyProof.Rows L2
/-! ## dicts written with ints as keys -/
end Dl
set_option Elab.async false
set_option linter.all false
set_option maxRecDepth 100000
set_option maxHeartbeats 4000000
set_option autoImplicit false
namespace Dl
open PySem PySem.Spec PyProof.Rows L2
/-! ## dicts that change: written, looked up, filled, listed, frozen -/
def dM (kv : List (Key × D)) : M := .dic (kv.map (·.1)) (kv.map (·.2))
def dD (kv : List (Key × D)) : D := .dic (kv.map (·.1)) (kv.map (·.2))
def valP (kv : List (Key × D)) (k : Key) : Option D := (kv.find? fun p => decide (p.1 = k)).map (·.2)
def keyD : Key → D
  | .inl i => .int i
  | .inr x => .str x
theorem rkv_of {K : PySem.W.Frag} {F : Hp} : ∀ {kvs : List (Key × V)} {kv : List (Key × D)}, kvs.map (·.1) = kv.map (·.1) → Reps K F (kvs.map (·.2)) (kv.map (·.2)) → RKV K F kvs kv
  | [], [], _, _ => .nil
  | [], _ :: _, h, _ => by cases h
  | _ :: _, [], h, _ => by cases h
  | (k, v) :: kvs, (j, d) :: kv, h, r => by
    rw [List.map_cons, List.map_cons] at h
    injection h with h1 h2
    cases r with
    | cons a b =>
      have h1 : k = j := h1
      subst h1
      exact .cons a (rkv_of h2 b)
theorem RKV.val {K : PySem.W.Frag} {F : Hp} {kvs : List (Key × V)} {kv : List (Key × D)} (h : RKV K F kvs kv) (k : Key) : (valP kv k = none ∧ valV kvs k = none) ∨ ∃ v d, valP kv k = some d ∧ valV kvs k = some v ∧ Rep K F v d := by
  induction h with
  | nil => exact .inl ⟨rfl, rfl⟩
  | @cons j v d kvs kv r _ ih =>
    by_cases hj : j = k
    · exact .inr ⟨v, d, by simp [valP, hj], by simp [valV, hj], r⟩
    · have e1 : valP ((j, d) :: kv) k = valP kv k := by simp [valP, hj]
      have e2 : valV ((j, v) :: kvs) k = valV kvs k := by simp [valV, hj]
      rw [e1, e2]
      exact ih
theorem RKV.length {K : PySem.W.Frag} {F : Hp} {kvs : List (Key × V)} {kv : List (Key × D)} (h : RKV K F kvs kv) : kvs.length = kv.length := by
  induction h with
  | nil => rfl
  | cons _ _ ih => exact congrArg (· + 1) ih
theorem rep_key {K : PySem.W.Frag} {F : Hp} {v : V} {k : Key} (h : Rep K F v (keyD k)) : v = kV k := by
  cases k with
  | inl i => exact rs_int (A := []) h
  | inr x =>
    cases (show Rep K F v (.str x) from h)
    rfl
theorem rep_dD {K : PySem.W.Frag} {F : Hp} {v : V} {kv : List (Key × D)} (h : Rep K F v (dD kv)) : ∃ a kvs, v = .ref a ∧ F a = some (.dK kvs) ∧ RKV K F kvs kv := by
  obtain ⟨a, kvs, rfl, h1, h2, h3⟩ := rep_dic h
  exact ⟨a, kvs, rfl, h1, rkv_of h2 h3⟩
section
variable {X : Cx} {N : En} {W : WX} {n : Nat} {δ : List (Option S)} {μ μ1 μ2 μ3 : List M} {a b o e value : Expr} {pos pos' apos cpos : Pos} {d : D} {kv : List (Key × D)} {k : Key} {j : Nat}
/-- d.get(k, x) -/
theorem de_dget2D (g : Go X N W n) {d2 : D} (ho : DE X N W δ μ o (.v (.p (dD kv))) μ1) (ha : DE X N W δ μ1 a (.v (.p (keyD k))) μ2) (hb : DE X N W δ μ2 b (.v (.p d2)) μ3) (m : M2 X o "get" apos a b cpos := by exact ⟨rfl, rfl, rfl, rfl⟩) :
    DE X N W δ μ (.Call (.Attribute o "get" apos) [a, b] [] cpos) (.v (.p ((valP kv k).getD d2))) μ3 :=
  PE.imp (pe_dget2 (by have := g.room.un; omega) ho ha hb m) fun σ H Q ⟨F, A, R0, q⟩ => ⟨F, A, R0, fun x F1 A1 H1 e1 p1 R1 rx => by
    obtain ⟨ad, kvs, rfl, h1, h2⟩ := rep_dD (show Rep N.K F1 x (dD kv) from rx)
    refine ⟨ad, rfl, .inl ⟨kvs, .inl (R1.rc.sub _ _ h1)⟩, F1, A1, R1, fun y F2 A2 H2 e2 p2 R2 ry => ⟨F2, A2, R2, fun z F3 A3 H3 e3 p3 R3 rz => ?_⟩⟩
    obtain rfl := rep_key ry
    have rz : Rep N.K F3 z d2 := rz
    have h2 := h2.mono (e2.trans e3)
    refine ⟨valV kvs k, DGet.k (R3.rc.sub _ _ ((e2.trans e3) _ _ h1)), ?_⟩
    rcases h2.val k with ⟨z1, z2⟩ | ⟨v, d', h3, h4, h5⟩
    · rw [z2]
      rw [z1] at q
      exact q z F3 A3 H3 ((e1.trans e2).trans e3) ((p1.trans p2).trans p3) R3 rz
    · rw [h4]
      rw [h3] at q
      exact q v F3 A3 H3 ((e1.trans e2).trans e3) ((p1.trans p2).trans p3) R3 h5⟩
end
end Dl
set_option Elab.async false
set_option linter.all false
set_option maxRecDepth 100000
set_option maxHeartbeats 4000000
set_option autoImplicit false
namespace Dl
open PySem PySem.Spec PyProof.Rows L2
/-! ## str.replace of two texts of the code, behind a text of the code in the same row -/
/-- behind it a token is out -/
def PEG (X : Cx) (e : Expr) (t : TE) : Prop := ∀ (pins : List (Addr × Obj)) (s : Shared) (σ : L2.St) (H : Hp) (Q : VK), Inv X pins σ H s → t σ H Q → wpAny (model X.prog X.w) X.A (eval e X.env) (fun v s1 => 1 ≤ s1.toks ∧ EP X pins σ Q v s1) X.xe s
section
variable {X : Cx} {a e1 e2 : Expr} {es : List Expr} {ta t1 t2 te : TE} {tl : TA} {x : Str} {j : Nat} {p p1 p2 : Pos}
theorem pa_consG (ha : PEG X a te) (hr : PAT X es tl) (hs : starEach (a :: es) X.env = (false, eval a X.env) :: starEach es X.env := by rfl) : PA X (a :: es) (tCons te tl) := by
  refine ⟨fun pos pins s σ H Q I h => ?_⟩
  rw [hs]
  show wpAny _ _ (spliced ((false, eval a X.env) :: backTo pos (starEach es X.env))) _ _ s
  refine Calls.spliced_cons (thn (ha pins s σ H _ I h) fun u s1 ⟨hk, x, H1, I1, r1, q1⟩ => ?_)
  exact thn (hr pos pins s1 σ H1 _ hk I1 q1) fun us s2 ⟨xs, H2, I2, r2, q2⟩ => ⟨x :: xs, H2, I2, .cons r1 r2, q2⟩
end
end Dl
set_option Elab.async false
set_option linter.all false
set_option maxRecDepth 100000
set_option maxHeartbeats 4000000
set_option autoImplicit false
namespace Dl
open PySem PySem.Spec PyProof.Rows L2
/-! ## texts in frozen lists, ints not in tuples, dicts of texts and ints written, len(set(ints)) -/
def uniqI (ns : List Int) : List Int := ns.foldl (fun acc z => if z ∈ acc then acc else acc ++ [z]) []
theorem uniqI_go : ∀ (ns acc : List Int), acc.Nodup → (ns.foldl (fun acc z => if z ∈ acc then acc else acc ++ [z]) acc).Nodup ∧ ∀ k, k ∈ ns.foldl (fun acc z => if z ∈ acc then acc else acc ++ [z]) acc ↔ k ∈ acc ∨ k ∈ ns
  | [], acc, h => ⟨h, fun k => by simp⟩
  | z :: ns, acc, h => by
    rw [List.foldl_cons]
    by_cases hz : z ∈ acc
    · rw [if_pos hz]
      obtain ⟨a, b⟩ := uniqI_go ns acc h
      refine ⟨a, fun k => (b k).trans ⟨fun q => q.elim .inl fun q => .inr (List.mem_cons_of_mem _ q), fun q => q.elim .inl fun q => ?_⟩⟩
      rcases List.mem_cons.mp q with rfl | q
      · exact .inl hz
      · exact .inr q
    · rw [if_neg hz]
      have hn : (acc ++ [z]).Nodup := List.nodup_append.mpr ⟨h, by simp, fun a ha b hb => by rw [List.mem_singleton.mp hb]; exact fun e => hz (e ▸ ha)⟩
      obtain ⟨a, b⟩ := uniqI_go ns (acc ++ [z]) hn
      refine ⟨a, fun k => (b k).trans ?_⟩
      rw [List.mem_append, List.mem_singleton, List.mem_cons, or_assoc]
theorem uniqI_nd (ns : List Int) : (uniqI ns).Nodup := (uniqI_go ns [] List.nodup_nil).1
theorem uniqI_mem (ns : List Int) (k : Int) : k ∈ uniqI ns ↔ k ∈ ns := ((uniqI_go ns [] List.nodup_nil).2 k).trans (by simp)
theorem uniqI_len (ns : List Int) : ((uniqI ns).length = ns.length) ↔ ns.Nodup := by
  constructor
  · intro e
    have sub : ∀ k ∈ uniqI ns, k ∈ ns := fun k h => (uniqI_mem ns k).mp h
    have key : ∀ (l m : List Int), l.Nodup → (∀ x ∈ l, x ∈ m) → l.length = m.length → l.Perm m := by
      intro l
      induction l with
      | nil =>
        intro m _ _ e
        rw [List.eq_nil_of_length_eq_zero e.symm]
      | cons a t ih =>
        intro m hn hs e
        rw [List.nodup_cons] at hn
        have ha := hs a List.mem_cons_self
        have hp := List.perm_cons_erase ha
        refine (List.Perm.cons a (ih (m.erase a) hn.2 (fun x hx => ?_) ?_)).trans hp.symm
        · have hne : x ≠ a := fun z => hn.1 (z ▸ hx)
          exact (List.mem_erase_of_ne hne).mpr (hs x (List.mem_cons_of_mem _ hx))
        · have := hp.length_eq
          rw [List.length_cons] at this e
          omega
    exact (key _ _ (uniqI_nd ns) sub e).nodup_iff.mp (uniqI_nd ns)
  · intro h
    exact ((List.perm_ext_iff_of_nodup (uniqI_nd ns) h).mpr (uniqI_mem ns)).length_eq
theorem setR_count {w : World} {h : Heap} {a : Addr} {ns : List Int} {c : Nat} (R : SetR w h a (fun j => decide (j ∈ ns)) c) : c = (uniqI ns).length := by
  obtain ⟨o, es, ep, t, _, _, _, _, hn, hm, _, _, he, _⟩ := R
  have p := (List.perm_ext_iff_of_nodup hn (uniqI_nd ns)).mpr fun k => (hm k).symm.trans (by rw [decide_eq_true_eq, uniqI_mem])
  have := p.length_eq
  rw [List.length_map, Array.length_toList] at this
  omega
section
variable {X : Cx} {N : En} {W : WX} {n : Nat} {δ : List (Option S)} {μ μ1 μ2 : List M} {e : Expr} {p1 p2 pos pos2 : Pos}
theorem cr_lenI : CallR X (.builtin "len") (fun xs H Q => ∃ (a : Addr) (ns : List Int) (c : Nat), xs = [.ref a] ∧ H a = some (SetO X.w a (fun j => decide (j ∈ ns)) c) ∧ Q (.int ((uniqI ns).length : Nat)) H) := by
  intro pins s σ H xs us Q I r ⟨a, ns, c, ex, hs, k⟩
  subst ex
  rw [Vals.ref1 r]
  have R0 := setO_get I hs
  have hc := setR_count R0
  obtain ⟨o, es, ep, t, ho, hex, hd, hel, hnd, hmem, hb, hf, hn, _⟩ := R0
  have hb' : es.size < 2 ^ 62 := Nat.lt_of_lt_of_le hb (by unfold scanBound; decide)
  have e : es.size = (uniqI ns).length := hn.trans hc
  rw [← e] at k
  exact call_len_set ho hex hd hf (by omega) ⟨.int (es.size : Int), H, I.tok _, ⟨_, rfl⟩, k⟩
/-- len(set(e)), e a list of ints -/
theorem de_lenSetI {ns : List Int} (g : Go X N W n) (h : DE X N W δ μ e (.v (.p (.lst (ns.map D.int)))) μ1) (few : ns.length ≤ 1000) (hm : X.mg "len" = none) (hm2 : X.mg "set" = none) (hg : Gl X "len" := by rfl) (hg2 : Gl X "set" := by rfl)
    (h1 : starEach [e] X.env = (false, eval e X.env) :: starEach [] X.env := by rfl) (h2 : starEach [.Call (.Name "set" p2) [e] [] pos2] X.env = (false, eval (.Call (.Name "set" p2) [e] [] pos2) X.env) :: starEach [] X.env := by rfl) :
    DE X N W δ μ (.Call (.Name "len" p1) [.Call (.Name "set" p2) [e] [] pos2] [] pos) (.v (.p (.int ((uniqI ns).length : Nat)))) μ1 :=
  PE.imp (pe_callB cr_lenI hg hm (by decide +kernel) (pa_cons (pe_callTy (cr_setI g.calm) hg2 hm2 (by decide +kernel) (pa_cons h pa_nil h1) (by decide) (by decide) h1 (by rfl)) pa_nil h2) (by decide) (by decide) h2 (by rfl)) fun σ H Q ⟨F, A, R0, k⟩ => ⟨F, A, R0, fun v F1 A1 H1 e1 p1 R1 rv => by
    obtain ⟨a, ws, rfl, q1, q2⟩ := rep_lst (show Rep N.K F1 v (.lst (ns.map D.int)) from rv)
    have q3 := reps_ints q2
    subst q3
    refine ⟨a, ns, rfl, SqL.of (R1.rc.sub _ _ q1), few, fun b c nb _ => ?_⟩
    refine ⟨b, _, _, rfl, upd_same, ?_⟩
    exact k _ _ A1 _ e1 p1 (R1.to (Same.refl _) (List.prefix_refl _) (R1.rc.junk nb _)) (.int _)⟩
/-- a text in a frozen list of texts -/
theorem o_inStrF (g : Go X N W n) {w : Str} {ws : List Str} : OpOk X N W (compareOp .In) μ (.p (.str w)) (.p (.lst (ws.map D.str))) (.v (.p (.bl (decide (w ∈ ws))))) μ :=
  ⟨_, op_in_seq, fun σ δ F A H v y Q R rx ry kq => by
    cases (show Rep N.K F v (.str w) from rx)
    obtain ⟨a, vs, rfl, h1, h2⟩ := rep_lst (show Rep N.K F y (.lst (ws.map D.str)) from ry)
    have e := strs_vals h2
    subst e
    refine ⟨a, _, rfl, .inl (SqL.of (R.rc.sub _ _ h1)), rfl, by simp [flatV], ?_⟩
    rw [inV_strs]
    exact kq.here R (.bl _)⟩
theorem inV_ints (z : Int) : ∀ zs : List Int, inV (V.int z) (zs.map V.int) = decide (z ∈ zs)
  | [] => rfl
  | y :: zs => by
    have := inV_ints z zs
    unfold inV at *
    rw [List.map_cons, List.any_cons, this]
    show ((y == z) || decide (z ∈ zs)) = decide (z ∈ y :: zs)
    by_cases h : z = y
    · subst h; simp
    · have h' : ¬ y = z := fun q => h q.symm
      simp [h, h']
theorem o_notInI (g : Go X N W n) {z : Int} {zs : List Int} : OpOk X N W (compareOp .NotIn) μ (.p (.int z)) (.p (.tup (zs.map D.int))) (.v (.p (.bl (!decide (z ∈ zs))))) μ :=
  ⟨_, op_notIn_seq, fun σ δ F A H x y Q R rx ry k => by
    cases (show Rep N.K F x (.int z) from rx)
    obtain ⟨a, vs, rfl, h1, h2⟩ := rep_tup (show Rep N.K F y (.tup (zs.map D.int)) from ry)
    have e := reps_ints h2
    subst e
    refine ⟨a, _, rfl, .inr (by rw [← g.hK]; exact same_sqT R.rc.sub h1), rfl, by simp [flatV], ?_⟩
    rw [inV_ints]
    exact k.here R (.bl _)⟩
/-- {'a': 1, 'b': 2, 'c': 3, 'd': 4} -/
theorem de_dic4 {x1 x2 x3 x4 : Str} {i1 i2 i3 i4 : Int} {j1 j2 j3 j4 j5 j6 j7 j8} {q1 q2 q3 q4 q5 q6 q7 q8 : Pos} (hn : [x1, x2, x3, x4].Nodup := by decide) :
    DE X N W δ μ (.Dict [some (.Constant (.str x1) j1 q1), some (.Constant (.str x2) j2 q2), some (.Constant (.str x3) j3 q3), some (.Constant (.str x4) j4 q4)] [.Constant (.int i1) j5 q5, .Constant (.int i2) j6 q6, .Constant (.int i3) j7 q7, .Constant (.int i4) j8 q8] pos) (.v (.p (dD [(.inr x1, .int i1), (.inr x2, .int i2), (.inr x3, .int i3), (.inr x4, .int i4)]))) μ :=
  PE.imp (pe_disp (pps_cons pe_str pe_int (pps_cons pe_str pe_int (pps_cons pe_str pe_int (pps_cons pe_str pe_int pps_nil)))) rfl rfl (by simp) (by show 4 ≤ 15; decide)) fun σ H Q ⟨F, A, R, q⟩ p np => by
    have h12 : x1 ≠ x2 := fun z => by simp [z] at hn
    have h13 : x1 ≠ x3 := fun z => by simp [z] at hn
    have h14 : x1 ≠ x4 := fun z => by simp [z] at hn
    have h23 : x2 ≠ x3 := fun z => by simp [z] at hn
    have h24 : x2 ≠ x4 := fun z => by simp [z] at hn
    have h34 : x3 ≠ x4 := fun z => by simp [z] at hn
    have sm := same_updN (o := .dK [((.inr x1 : Key), V.int i1), (.inr x2, .int i2), (.inr x3, .int i3), (.inr x4, .int i4)]) (R.rc.fresh np).2.1
    have hmk : mergeK [] [((.inr x1 : Key), V.int i1), (.inr x2, .int i2), (.inr x3, .int i3), (.inr x4, .int i4)] = [((.inr x1 : Key), V.int i1), (.inr x2, .int i2), (.inr x3, .int i3), (.inr x4, .int i4)] := by
      simp [mergeK, putK, h12, h13, h14, h23, h24, h34]
    refine ⟨upd_same, [(.inr x1, .int i1), (.inr x2, .int i2), (.inr x3, .int i3), (.inr x4, .int i4)], rfl, by show 4 ≤ 15; decide, ?_⟩
    rw [hmk]
    simp only [upd_upd]
    exact q (.ref p) _ A _ sm (List.prefix_refl _) (R.to sm (List.prefix_refl _) (R.rc.frozen np _)) (.dic (kvs := [(.inr x1, .int i1), (.inr x2, .int i2), (.inr x3, .int i3), (.inr x4, .int i4)]) upd_same (.cons (.int i1) (.cons (.int i2) (.cons (.int i3) (.cons (.int i4) .nil)))))
end
end Dl
set_option Elab.async false
set_option linter.all false
set_option maxRecDepth 100000
set_option maxHeartbeats 4000000
set_option autoImplicit false
namespace K20
open PySem PySem.Spec PyProof.Rows L2 Dl Cq
abbrev sIsName : Stmt := top 67
abbrev sWholeIn : Stmt := top 68
abbrev sWordIn : Stmt := top 69
abbrev sFormIn : Stmt := top 70
abbrev sLineIn : Stmt := top 71
abbrev sFirstBad : Stmt := top 72
abbrev sSpoilt : Stmt := top 74
abbrev sJudged : Stmt := top 75
abbrev sRowsOf : Stmt := top 76
def bodyIf (s : Stmt) (i : Nat) : List Stmt := match (defBody s).getD i (.Pass ⟨0, 0, 0, 0⟩) with
  | .If _ b _ _ => b
  | _ => []
def ifC : Stmt → Expr
  | .If c _ _ _ => c
  | _ => .Constant .none 0 ⟨0, 0, 0, 0⟩
theorem scIsName : FnScope ["value", "sign"] ["value"] (defScope sIsName) := ⟨rfl, rfl, rfl, by decide +kernel, rfl, by decide +kernel, by decide +kernel⟩
abbrev whN : List Str := ["word", "size", "sign"]
theorem scWholeIn : FnScope whN ["word"] (defScope sWholeIn) := ⟨rfl, rfl, rfl, by decide +kernel, rfl, by decide +kernel, by decide +kernel⟩
abbrev wiN : List Str := ["wires", "text", "letters", "sign"]
theorem scWordIn : FnScope wiN ["wires", "text"] (defScope sWordIn) := ⟨rfl, rfl, rfl, by decide +kernel, rfl, by decide +kernel, by decide +kernel⟩
/-! ### the law's own reading: names, numbers, words -/
def optI : Option Int → D
  | none => .non
  | some v => .int v
def Lt (L : List Nat) : Prop := L.length ≤ 640
def rLName : Rel := fun ss μ r μ' => ∃ L, Lt L ∧ ss = [.p (.str (st L))] ∧ r = .v (.p (.bl (nmB L))) ∧ μ' = μ
def rLWhole : Rel := fun ss μ r μ' => ∃ L, Lt L ∧ ss = [.p (.str (st L))] ∧ r = .v (.p (optI (whV L))) ∧ μ' = μ
def wdO (w : Nat) (L : List Nat) : D := if abB w L = true then tupW (offM L) (sgM L) else .non
def rLWord : Rel := fun ss μ r μ' => ∃ (w : Nat) (L : List Nat), 1 ≤ w ∧ w ≤ 4 ∧ Lt L ∧ ss = [.p (.int (w : Nat)), .p (.str (st L))] ∧ r = .v (.p (wdO w L)) ∧ μ' = μ
theorem DG_iff (c : Nat) : decide (c ∈ (Str.ofString "0123456789").cps.toList) = dgc c := by
  have h1 : ∀ d ∈ (Str.ofString "0123456789").cps.toList, 48 ≤ d ∧ d ≤ 57 := by decide +kernel
  have h2 : ∀ a : Fin 10, 48 + a.val ∈ (Str.ofString "0123456789").cps.toList := by decide +kernel
  unfold dgc
  rw [Bool.eq_iff_iff]
  simp only [Bool.and_eq_true, decide_eq_true_eq]
  refine ⟨h1 c, fun h => ?_⟩
  have := h2 ⟨c - 48, by omega⟩
  rw [show 48 + (c - 48) = c by omega] at this
  exact this
theorem AZ_is : (Str.ofString "abcdefghijklmnopqrstuvwxyz").cps.toList = AZ := by decide +kernel
theorem IX_is : (Str.ofString "IXYZ").cps.toList = IXYZ := by decide +kernel
theorem minus_is (L : List Nat) : decide (Txt.slice (st L) none (some 1) = Str.ofString "-") = decide (L.head? = some 45) := by
  rw [show Txt.slice (st L) none (some 1) = st (L.take 1) from SX.slice_to (by decide), show Str.ofString "-" = st [45] from rfl]
  refine decide_eq_decide.mpr ?_
  rw [st_inj]
  cases L with
  | nil => simp
  | cons a l => simp
theorem off_tail {L : List Nat} (h : L.head? = some 45) : Txt.slice (st L) (some 1) none = st (offM L) := by
  rw [show Txt.slice (st L) (some 1) none = st (L.drop 1) from SX.slice_from (by decide)]
  unfold offM
  rw [if_pos h]
  cases L <;> rfl
theorem offM_len (L : List Nat) : (offM L).length ≤ L.length := by
  unfold offM
  split
  · rw [List.length_tail]; omega
  · exact Nat.le_refl _
theorem all_fun {l : List Nat} {p q : Nat → Bool} (h : ∀ c, p c = q c) : l.all p = l.all q := by
  congr 1
  exact funext h
section
variable {P : Program} {w : World} {K : PySem.W.Frag} {mg : Str → Option Value} {base : Heap} {f : Addr} {fd : FuncData}
theorem ok_lname (F : Fun K "_law_is_name" "_law_is_name" sIsName f fd) (T : TM mg) : FnOk P w K mg base (L2.CX P w) 1 f fd ["value"] (spD K rLName) := by
  refine fn_D (k := 0) F scIsName (fun ss μ r μ' h => by obtain ⟨L, _, rfl, _⟩ := h; rfl) ?_
  intro cdv A outer s H E N W ss μ r μ' g hA hR
  obtain ⟨L, hL, rfl, rfl, rfl⟩ := hR
  have hb : L.length ≤ 640 := hL
  have e1 : (decide ((1 : Int) ≤ ((st L).length : Nat)) && decide (((st L).length : Nat) ≤ (8 : Int))) = (decide (1 ≤ L.length) && decide (L.length ≤ 8)) := by
    rw [st_len, show decide ((1 : Int) ≤ (L.length : Nat)) = decide (1 ≤ L.length) from decide_eq_decide.mpr (by omega), show decide (((L.length : Nat) : Int) ≤ 8) = decide (L.length ≤ 8) from decide_eq_decide.mpr (by omega)]
  have cond : DT (cxOf (L2.CX P w) P w K mg base ["value", "sign"] "_law_is_name" (defScope sIsName) f cdv A outer s H E) N W (starts ["value", "sign"] [.p (.str (st L))]) μ' (ifC ((defBody sIsName).getD 0 (.Pass ⟨0, 0, 0, 0⟩))) (!(decide (1 ≤ L.length) && decide (L.length ≤ 8))) μ' :=
    dt_of (dt_w (dw_or (k := false) (k' := !(decide (1 ≤ L.length) && decide (L.length ≤ 8))) (dt_not (dt_val (de_callB (id := "isinstance") (da_cons (de_var 0) (da_cons (de_ty T.str (by decide +kernel)) da_nil)) (c_isi g (.str _) (.ty _) kit_same) T.isinstance (by decide +kernel)))) (fun _ => dw_or1 (dt_of (dt_not (dt_chn de_int (de_callB (id := "len") (da_cons (de_var 0) da_nil) (c_lenS (by rw [st_len]; exact sz (by omega))) T.len (by decide +kernel)) o_le (fun _ => de_int) (fun _ => o_le))) (by rw [e1]))))) rfl
  by_cases hq : (decide (1 ≤ L.length) && decide (L.length ≤ 8)) = true
  · refine ⟨_, dss_skip (dt_of cond (by rw [hq]; rfl)) (dss_ret (de_of (d' := .bl (nmB L)) (de_callB (id := "all") (da_cons (de_lc g [("sign", 1)] (di_of (di_str (de_var 0)) (chars_st L)) (fun s H C cl fp => dg_name 1 g.nd)
      (of_maps (fy := fun c => .bl (decide (c ∈ (Str.ofString "abcdefghijklmnopqrstuvwxyz").cps.toList))) fun c hc => ⟨_, rfl, fun s H C cl fp N' hK g' => de_cmp (de_var 1) de_str o_inS⟩) (ok := blkOk_by (by rfl)) (hds := by rw [List.length_map]; exact sz' (by omega))) da_nil) (c_allm g) T.all (by decide +kernel)) (congrArg D.bl ?_))), .rt⟩
    unfold nmB
    rw [hq, Bool.true_and, AZ_is]
    exact congrArg (fun p => L.all p) (funext fun c => AZ_iff c)
  · have hq : (decide (1 ≤ L.length) && decide (L.length ≤ 8)) = false := by simpa using hq
    have en : nmB L = false := by unfold nmB; rw [hq]; rfl
    rw [en]
    exact ⟨_, dss_ifT (dt_of cond (by rw [hq]; rfl)) (dss_ret de_bl) cr, .rt⟩
theorem ok_whole (F : Fun K "_law_whole_in" "_law_whole_in" sWholeIn f fd) (T : TM mg) : FnOk P w K mg base (L2.CX P w) 1 f fd ["word"] (spD K rLWhole) := by
  refine fn_D (k := 0) F scWholeIn (fun ss μ r μ' h => by obtain ⟨L, _, rfl, _⟩ := h; rfl) ?_
  intro cdv A outer s H E N W ss μ r μ' g hA hR
  obtain ⟨L, hL, rfl, rfl, rfl⟩ := hR
  have hb : L.length ≤ 640 := hL
  have ho := offM_len L
  have hz : (st L).length ≤ sizeLine := by rw [st_len]; exact sz (by omega)
  have d0 : DS (cxOf (L2.CX P w) P w K mg base whN "_law_whole_in" (defScope sWholeIn) f cdv A outer s H E) N W (starts whN [.p (.str (st L))]) μ' ((defBody sWholeIn).getD 0 (.Pass ⟨0, 0, 0, 0⟩)) (.nx [some (.p (.str (st L))), some (.p (.str (st (offM L)))), none] μ') := by
    refine ds_set 1 (de_if (k := decide (L.head? = some 45)) (dt_of (dt_cmp (de_cutTo (de_var 0) de_int hz) de_str o_eqS) (minus_is L)) (fun h => de_of (d' := .str (st (offM L))) (de_cutFrom (de_var 0) de_int hz) (congrArg D.str (off_tail (of_decide_eq_true h)))) (fun h => de_of (d' := .str (st (offM L))) (de_var 0) (congrArg D.str ?_))) g.nd
    unfold offM
    rw [if_neg (of_decide_eq_false h)]
  have hall : (offM L).all (fun c => decide (c ∈ (Str.ofString "0123456789").cps.toList)) = (offM L).all dgc := all_fun DG_iff
  have t1 : DT (cxOf (L2.CX P w) P w K mg base whN "_law_whole_in" (defScope sWholeIn) f cdv A outer s H E) N W [some (.p (.str (st L))), some (.p (.str (st (offM L)))), none] μ' (ifC ((defBody sWholeIn).getD 1 (.Pass ⟨0, 0, 0, 0⟩))) (decide (offM L = []) || !(offM L).all dgc) μ' := by
    refine dt_w (dw_or (k := decide (offM L = [])) (k' := !(offM L).all dgc) (dt_of (dt_cmp (de_var 1) de_str o_eqS) (decide_eq_decide.mpr ⟨fun h => st_inj.mp h, fun h => by rw [h]; rfl⟩)) (fun _ => dw_or1 (dt_of (dt_not (dt_val (de_callB (id := "all") (da_cons (de_lc g [("sign", 2)] (di_of (di_str (de_var 1)) (chars_st (offM L))) (fun s H C cl fp => dg_name 2 g.nd)
      (of_maps (fy := fun c => .bl (decide (c ∈ (Str.ofString "0123456789").cps.toList))) fun c hc => ⟨_, rfl, fun s H C cl fp N' hK g' => de_cmp (de_var 2) de_str o_inS⟩) (ok := blkOk_by (by rfl)) (hds := by rw [List.length_map]; exact sz' (by omega))) da_nil) (c_allm g) T.all (by decide +kernel)))) (by rw [hall]))))
  by_cases h1 : offM L = [] ∨ (offM L).all dgc = false
  · have e : whV L = none := if_pos h1
    rw [e]
    refine ⟨_, dss_cons d0 (cn (dss_ifT (dt_of t1 ?_) (dss_ret de_non) cr)), .rt⟩
    rcases h1 with h | h
    · rw [decide_eq_true h]; rfl
    · rw [h]; simp
  · have h1a : offM L ≠ [] := fun z => h1 (.inl z)
    have h1b : (offM L).all dgc = true := by
      cases hq : (offM L).all dgc with
      | true => rfl
      | false => exact absurd (.inr hq) h1
    obtain ⟨c, r, hc⟩ : ∃ c r, offM L = c :: r := by
      cases h : offM L with
      | nil => exact absurd h h1a
      | cons c r => exact ⟨c, r, rfl⟩
    have e : whV L = if (offM L).headD 0 ≠ 48 ∨ L = [48] then some (sgM L * ((NumText.digitsVal (offM L) : Nat) : Int)) else none := if_neg h1
    have t2 : ∀ δ2 : D, DT (cxOf (L2.CX P w) P w K mg base whN "_law_whole_in" (defScope sWholeIn) f cdv A outer s H E) N W [some (.p (.str (st L))), some (.p (.str (st (offM L)))), none] μ' (match (defBody sWholeIn).getD 2 (.Pass ⟨0, 0, 0, 0⟩) with | .Return (some (.IfExp c _ _ _)) _ => c | _ => .Constant .none 0 ⟨0, 0, 0, 0⟩) (decide ((offM L).headD 0 ≠ 48) || decide (L = [48])) μ' := fun _ => by
      refine dt_w (dw_or (k := decide ((offM L).headD 0 ≠ 48)) (k' := decide (L = [48])) (dt_of (dt_cmp (de_ix (de_var 1) de_int (i_str (c := c) (by rw [st_len]; exact sz (by omega)) (by rw [show (st (offM L)).cps.toList = offM L from rfl, hc]; exact atI_nat (j := 0) rfl))) de_str o_neS) ?_) (fun _ => dw_or1 (dt_of (dt_cmp (de_var 0) de_str o_eqS) (decide_eq_decide.mpr (Dl.st_inj (M := [48]))))))
      rw [hc]
      show (!decide ((⟨#[c]⟩ : Str) = ⟨#[48]⟩)) = decide (c ≠ 48)
      by_cases q : c = 48 <;> simp [q]
    by_cases h2 : (offM L).headD 0 ≠ 48 ∨ L = [48]
    · rw [if_pos h2] at e
      have hi := whV_int e hb
      rw [e]
      refine ⟨_, dss_cons d0 (cn (dss_skip (dt_of t1 (by rw [decide_eq_false h1a, h1b]; rfl)) (dss_ret (de_if (k := true) (dt_of (t2 .non) ?_) (fun _ => de_callT (T := "int") (da_cons (de_var 0) da_nil) (c_intT hi (by rw [st_len]; exact hb)) T.int (by decide +kernel)) (fun h => by cases h))))), .rt⟩
      rcases h2 with h | h
      · rw [decide_eq_true h]; rfl
      · rw [decide_eq_true h]; simp
    · rw [if_neg h2] at e
      rw [e]
      refine ⟨_, dss_cons d0 (cn (dss_skip (dt_of t1 (by rw [decide_eq_false h1a, h1b]; rfl)) (dss_ret (de_if (k := false) (dt_of (t2 .non) ?_) (fun h => by cases h) (fun _ => de_non))))), .rt⟩
      rw [decide_eq_false fun z => h2 (.inl z), decide_eq_false fun z => h2 (.inr z)]
      rfl
theorem ok_wordin (F : Fun K "_law_word_in" "_law_word_in" sWordIn f fd) (T : TM mg) : FnOk P w K mg base (L2.CX P w) 1 f fd ["wires", "text"] (spD K rLWord) := by
  refine fn_D (k := 0) F scWordIn (fun ss μ r μ' h => by obtain ⟨_, L, _, _, _, rfl, _⟩ := h; rfl) ?_
  intro cdv A outer s H E N W ss μ r μ' g hA hR
  obtain ⟨n, L, h1, h4, hL, rfl, rfl, rfl⟩ := hR
  have hb : L.length ≤ 640 := hL
  have ho := offM_len L
  have hz : (st L).length ≤ sizeLine := by rw [st_len]; exact sz (by omega)
  have d0 : DS (cxOf (L2.CX P w) P w K mg base wiN "_law_word_in" (defScope sWordIn) f cdv A outer s H E) N W (starts wiN [.p (.int (n : Nat)), .p (.str (st L))]) μ' ((defBody sWordIn).getD 0 (.Pass ⟨0, 0, 0, 0⟩)) (.nx [some (.p (.int (n : Nat))), some (.p (.str (st L))), some (.p (.str (st (offM L)))), none] μ') := by
    refine ds_set 2 (de_if (k := decide (L.head? = some 45)) (dt_of (dt_cmp (de_cutTo (de_var 1) de_int hz) de_str o_eqS) (minus_is L)) (fun h => de_of (d' := .str (st (offM L))) (de_cutFrom (de_var 1) de_int hz) (congrArg D.str (off_tail (of_decide_eq_true h)))) (fun h => de_of (d' := .str (st (offM L))) (de_var 1) (congrArg D.str ?_))) g.nd
    unfold offM
    rw [if_neg (of_decide_eq_false h)]
  have rep : ∀ (μ : List M), OpOk (cxOf (L2.CX P w) P w K mg base wiN "_law_word_in" (defScope sWordIn) f cdv A outer s H E) N W (binaryOp .Mult) μ (.p (.str ⟨#[73]⟩)) (.p (.int ((n : Nat) : Int))) (.v (.p (.str (Dl.st (List.replicate n 73))))) μ := fun μ => by
    by_cases h : n = 1
    · subst h
      exact o_mulS (k := true)
    · exact o_mulSk ⟨by omega, by omega⟩
  have hall : (offM L).all (fun c => decide (c ∈ (Str.ofString "IXYZ").cps.toList)) = (offM L).all (fun c => decide (c ∈ IXYZ)) := by rw [IX_is]
  have t1 : DT (cxOf (L2.CX P w) P w K mg base wiN "_law_word_in" (defScope sWordIn) f cdv A outer s H E) N W [some (.p (.int (n : Nat))), some (.p (.str (st L))), some (.p (.str (st (offM L)))), none] μ' (ifC ((defBody sWordIn).getD 1 (.Pass ⟨0, 0, 0, 0⟩))) (!abB n L) μ' := by
    refine dt_of (dt_w (dw_or (k := !decide ((offM L).length = n)) (k' := decide (offM L = List.replicate n 73) || !(offM L).all (fun c => decide (c ∈ IXYZ))) (dt_of (dt_cmp (de_callB (id := "len") (da_cons (de_var 2) da_nil) (c_lenS (by rw [st_len]; exact sz (by omega))) T.len (by decide +kernel)) (de_var 0) o_neI) ?e1) (fun _ => dw_or (k := decide (offM L = List.replicate n 73)) (k' := !(offM L).all (fun c => decide (c ∈ IXYZ))) (dt_of (dt_cmp (de_var 2) (de_bin (de_of (d' := .str ⟨#[73]⟩) de_str rfl) (de_var 0) (rep _)) o_eqS) (decide_eq_decide.mpr st_inj)) (fun _ => dw_or1 (dt_of (dt_not (dt_val (de_callB (id := "all") (da_cons (de_lc g [("sign", 3)] (di_of (di_str (de_var 2)) (chars_st (offM L))) (fun s H C cl fp => dg_name 3 g.nd)
      (of_maps (fy := fun c => .bl (decide (c ∈ (Str.ofString "IXYZ").cps.toList))) fun c hc => ⟨_, rfl, fun s H C cl fp N' hK g' => de_cmp (de_var 3) de_str o_inS⟩) (ok := blkOk_by (by rfl)) (hds := by rw [List.length_map]; exact sz' (by omega))) da_nil) (c_allm g) T.all (by decide +kernel)))) (by rw [hall])))))) ?e2
    case e1 =>
      rw [st_len]
      exact congrArg not (decide_eq_decide.mpr (by omega))
    case e2 =>
      unfold abB letB
      by_cases q : (offM L).length = n
      · rw [decide_eq_true q, decide_eq_true (show 1 ≤ (offM L).length by omega), decide_eq_true (show (offM L).length ≤ 4 by omega)]
        cases decide (offM L = List.replicate n 73) <;> cases (offM L).all (fun c => decide (c ∈ IXYZ)) <;> rfl
      · rw [decide_eq_false q]; rfl
  by_cases ha : abB n L = true
  · have e : wdO n L = tupW (offM L) (sgM L) := if_pos ha
    rw [e]
    refine ⟨_, dss_cons d0 (cn (dss_skip (dt_of t1 (by rw [ha]; rfl)) (dss_ret (de_of (d' := tupW (offM L) (sgM L)) (de_tup (ds := [.int (sgM L), .str (st (offM L))]) (dp_cons (de_if (k := decide (L.head? = some 45)) (dt_of (dt_cmp (de_cutTo (de_var 1) de_int hz) de_str o_eqS) (minus_is L)) (fun h => de_of (d' := .int (sgM L)) (de_un de_int u_neg) (by unfold sgM; rw [if_pos (of_decide_eq_true h)])) (fun h => de_of (d' := .int (sgM L)) de_int (by unfold sgM; rw [if_neg (of_decide_eq_false h)]))) (dp_cons (de_var 2) dp_nil)) (sz (by show 2 ≤ _; decide))) rfl)))), .rt⟩
  · have e : wdO n L = .non := if_neg ha
    rw [e]
    have ha : abB n L = false := by simpa using ha
    exact ⟨_, dss_cons d0 (cn (dss_ifT (dt_of t1 (by rw [ha]; rfl)) (dss_ret de_non) cr)), .rt⟩
end
end K20
set_option Elab.async false
set_option linter.all false
set_option maxRecDepth 100000
set_option maxHeartbeats 4000000
set_option autoImplicit false
namespace Dl
open PySem PySem.Spec PyProof.Rows L2
/-! ## a loop that may end by a return -/
section
variable {X : Cx} {N : En} {W : WX} {f : As} {body : List Stmt}
def okAllG {T α : Type} (bad : T → α → Bool) (nx : α → T → T) : T → List α → Bool
  | _, [] => true
  | t, a :: l => !bad t a && okAllG bad nx (nx a t) l
theorem loop_noG {T α : Type} {mu : T → List M} {bad : T → α → Bool} {nx : α → T → T} {gd : α → D} {s : T → α → S} (I : Nat → T → Prop) (Δ : T → List (Option S) → Prop) : ∀ (l : List α) (δ : List (Option S)) (t : T),
    (∀ a ∈ l, ∀ k t δ, Δ t δ → I (k + 1) t → ∃ δt, f (gd a) δ = some δt ∧ ((bad t a = false ∧ I k (nx a t) ∧ ∃ δ1, DSs X N W δt (mu t) body (.nx δ1 (mu (nx a t))) ∧ Δ (nx a t) δ1) ∨ (bad t a = true ∧ DSs X N W δt (mu t) body (.rt (s t a) (mu t))))) → Δ t δ → I l.length t →
    (okAllG bad nx t l = true ∧ ∃ δ', Loop X N W f body (l.map gd) δ (mu t) (.nx δ' (mu (l.foldl (fun t a => nx a t) t))) ∧ Δ (l.foldl (fun t a => nx a t) t) δ') ∨ (okAllG bad nx t l = false ∧ ∃ l1 a l2, l = l1 ++ a :: l2 ∧ okAllG bad nx t l1 = true ∧ bad (l1.foldl (fun t a => nx a t) t) a = true ∧ Loop X N W f body (l.map gd) δ (mu t) (.rt (s (l1.foldl (fun t a => nx a t) t) a) (mu (l1.foldl (fun t a => nx a t) t))))
  | [], δ, t, _, h0, _ => .inl ⟨rfl, δ, .nil, h0⟩
  | a :: l, δ, t, h, h0, hi => by
    obtain ⟨δt, h1, (⟨h2, h3, δ1, h4, h5⟩ | ⟨h2, h3⟩)⟩ := h a List.mem_cons_self l.length t δ h0 hi
    · rcases loop_noG I Δ l δ1 (nx a t) (fun b hb => h b (List.mem_cons_of_mem _ hb)) h5 h3 with ⟨q1, δ', q2, q3⟩ | ⟨q1, l1, b, l2, e, q0, qb, q2⟩
      · exact .inl ⟨by unfold okAllG; rw [h2, q1]; rfl, δ', .next h1 h4 q2, q3⟩
      · refine .inr ⟨by unfold okAllG; rw [h2, q1]; rfl, a :: l1, b, l2, by rw [e]; rfl, by unfold okAllG; rw [h2, q0]; rfl, qb, .next h1 h4 q2⟩
    · exact .inr ⟨by unfold okAllG; rw [h2]; rfl, [], a, l, rfl, rfl, h2, .ret h1 h3⟩
end
end Dl
set_option Elab.async false
set_option linter.all false
set_option maxRecDepth 100000
set_option maxHeartbeats 4000000
set_option autoImplicit false
namespace Dl
open PySem PySem.Spec PyProof.Rows L2
/-! ## comprehensions over a list that changes, elements that change nothing -/
section
variable {X : Cx} {N : En} {W : WX} {n : Nat} {δ : List (Option S)} {μ μ1 : List M} {elt tg iter : Expr} {pos : Pos} {α : Type} {gd fy : α → D} {l : List α} {scope : Scope} {own : List (Str × Nat)} {f : As} {ix : List Nat} {j : Nat}
theorem lcm_go (g : Go X N W n) {a : Addr} {F1 : Hp} {A1 : List Addr} {H1 : Hp} {σ : L2.St} {D0 : Addr} {Qd : Hp → Prop} (hds : (l.map gd).length < sizeLine) (R1 : Rl N F1 A1 H1 σ δ μ1) (ha : A1[j]? = some a) (hm : μ1[j]? = some (.lst (l.map gd))) (hD : H1 D0 = none) (hix : ∀ i ∈ ix, i ∈ own.map (·.2))
    (hl : ∀ d ∈ l, ∃ δt, f (gd d) (wipeD δ (own.map (·.2))) = some δt ∧ DEB X N.K n scope elt δt μ1 (fy d) μ1)
    (hq : ∀ F' A' H' vs, Same F1 F' → A1 <+: A' → Rc N F' A' H' μ1 → H' D0 = some (.lst vs) → F' D0 = none → D0 ∉ A' → Reps N.K F' vs (l.map fy) → Qd H') :
    ∃ Wt : Nat → Nat → Hp → Prop, (∃ m, Wt 0 m (upd H1 D0 (.lst []))) ∧ ∀ i m H, Wt i m H →
      ((Itl N.K a).stop i H ∧ Qd H) ∨ ((Itl N.K a).go i H ∧ ∃ Nx : Hp → Prop, (∀ H', Nx H' → ∃ m', m' < m ∧ Wt (i + 1) m' H') ∧ ∀ x H', (Itl N.K a).yld i H x H' → tGd N f ix x (wipe σ (own.map (·.2))) H' fun σ2 H2 => wipe σ2 (own.map (·.2)) = wipe σ (own.map (·.2)) ∧ tYes σ2 H2 fun b H3 =>
        if b = true then teB X N.K n scope elt σ2 H3 fun y H4 => ∃ acc, H4 D0 = some (.lst acc) ∧ acc.length < sizeLine ∧ Nx (upd H4 D0 (.lst (acc ++ [y]))) else Nx H3) := by
  have h0 := R1.rc.fresh hD
  refine ⟨fun i m H => i ≤ l.length ∧ m = l.length - i ∧ ∃ F A vs, Same F1 F ∧ A1 <+: A ∧ Rc N F A H μ1 ∧ H D0 = some (.lst vs) ∧ F D0 = none ∧ D0 ∉ A ∧ Reps N.K F vs ((l.take i).map fy),
    ⟨l.length, Nat.zero_le _, by simp, F1, A1, [], Same.refl _, List.prefix_refl _, R1.rc.junk hD _, upd_same, h0.2.1, h0.2.2, by simp only [List.take_zero, List.map_nil]; exact .nil⟩, ?_⟩
  rintro i m H ⟨hi, rfl, F, A, vs, e, p, R, hv, hF, hA, hr⟩
  obtain ⟨ws, hw1, hw2⟩ := R.mus j a _ (getElem?_pre p ha) hm
  have hwl := hw2.length
  have wk := walk_list (K := N.K) (a := a) (xs := ws)
  rw [List.length_map] at hwl hds
  by_cases hlt : i < l.length
  · refine .inr ⟨wk.goes i H (by omega) (SqL.of hw1), fun H' => ∃ F A vs, Same F1 F ∧ A1 <+: A ∧ Rc N F A H' μ1 ∧ H' D0 = some (.lst vs) ∧ F D0 = none ∧ D0 ∉ A ∧ Reps N.K F vs ((l.take (i + 1)).map fy),
      fun H' ⟨F, A, vs, a⟩ => ⟨l.length - (i + 1), by omega, hlt, rfl, F, A, vs, a⟩, fun x H' hyd => ?_⟩
    obtain ⟨rfl, hx⟩ := wk.yields i H x H' (by omega) (SqL.of hw1) hyd
    obtain ⟨d0, hd0, rx⟩ := hw2.get' hx
    rw [List.getElem?_map] at hd0
    obtain ⟨d, hd, rfl⟩ := Option.map_eq_some_iff.mp hd0
    have Rf : Rl N F A H' σ δ μ1 := R1.to e p R
    obtain ⟨δt, hf, hde⟩ := hl d (List.mem_of_getElem? hd)
    refine ⟨F, A, _, μ1, gd d, _, Rf.wiped (own.map (·.2)), rx, hf, fun σ2 w2 R3 => ⟨(wipe_sub hix w2).trans (by
      apply List.ext_getElem?
      intro j
      rw [wipe_get, wipe_get]
      by_cases hj : j ∈ own.map (·.2)
      · rw [if_pos hj, if_pos hj]; cases σ[j]? <;> rfl
      · rw [if_neg hj, if_neg hj]), ?_⟩⟩
    have R3' : Rl ⟨N.K, H', F, A⟩ F A H' σ2 δt μ1 := ⟨R3.rc.entry, R3.len, R3.sl⟩
    unfold tYes
    simp only [if_true]
    refine ⟨⟨N.K, H', F, A⟩, F, A, δt, μ1, fy d, μ1, rfl, R3', hde, fun v F4 A4 H4 e4 p4 R4 rv => ?_⟩
    have b4 : Rc N F4 A4 H4 μ1 := R3.rc.back R4.rc
    have k4 : H4 D0 = some (.lst vs) := R4.rc.keep D0 _ hv hA
    have f4 : F4 D0 = none := by
      cases q : F4 D0 with
      | none => rfl
      | some o =>
        rcases R4.rc.new D0 o q with ⟨o', z⟩ | z
        · have z' : F D0 = some o' := z
          rw [hF] at z'; cases z'
        · have z' : H' D0 = none := z
          rw [hv] at z'; cases z'
    have a4 : D0 ∉ A4 := fun hm => by
      obtain ⟨B, eB, hB⟩ := R4.rc.pre
      rw [eB] at hm
      rcases List.mem_append.mp hm with z | z
      · exact hA z
      · have z' : H' D0 = none := hB _ z
        rw [hv] at z'; cases z'
    have vl := hr.length
    rw [List.length_map, List.length_take] at vl
    refine ⟨vs, k4, by omega, F4, A4, vs ++ [v], e.trans e4, p.trans p4, b4.poke f4 a4 h0.1 _, upd_same, f4, a4, ?_⟩
    rw [List.take_succ, hd, Option.toList_some, List.map_append]
    exact (hr.mono e4).snoc rv
  · have hi' : i = l.length := by omega
    subst hi'
    refine .inl ⟨?_, ?_⟩
    · have := wk.stops H (SqL.of hw1)
      rw [hwl] at this
      exact this
    rw [List.take_length] at hr
    exact hq F A H vs e p R hv hF hA hr
theorem lcm_read (g : Go X N W n) (hds : (l.map gd).length < sizeLine) (hix : ∀ i ∈ ix, i ∈ own.map (·.2)) (hm : μ1[j]? = some (.lst (l.map gd))) (hl : ∀ d ∈ l, ∃ δt, f (gd d) (wipeD δ (own.map (·.2))) = some δt ∧ DEB X N.K n scope elt δt μ1 (fy d) μ1)
    {σ : L2.St} {H : Hp} {Q : VK} {F : Hp} {A : List Addr} (R : Rl N F A H σ δ μ)
    (hq : ∀ D0 F' A' H' vs, Same F F' → A <+: A' → Rc N F' A' H' μ1 → H' D0 = some (.lst vs) → F' D0 = none → D0 ∉ A' → N.H0 D0 = none → Reps N.K F' vs (l.map fy) → Q (.ref D0) H') :
    tLc (iList X.K (tD N W δ μ (.v (.l j)) μ1)) (tGd N f ix) tYes (teB X N.K n scope elt) (own.map (·.2)) σ H Q :=
  ⟨F, A, R, fun v F1 A1 H1 e1 p1 R1 rv => by
    obtain ⟨a, rfl, ha⟩ := rv
    obtain ⟨ws, hw1, hw2⟩ := R1.rc.mus j a _ ha hm
    have hK := g.hK
    refine ⟨a, rfl, ⟨ws, SqL.of hw1⟩, fun D0 hD => ?_⟩
    rw [← hK]
    exact lcm_go g hds R1 ha hm hD hix hl fun F' A' H' vs e p r a b c d => hq D0 F' A' H' vs (e1.trans e) (p1.trans p) r a b c (R1.rc.fresh hD).1 d⟩
theorem de_lcL (g : Go X N W n) (own : List (Str × Nat)) (hi : DE X N W δ μ iter (.v (.l j)) μ1) (hm : μ1[j]? = some (.lst (l.map gd))) (hg : ∀ s H C cl fp, DG (blkX X scope s H C cl fp) N tg f ix) (hl : ∀ d ∈ l, ∃ δt, f (gd d) (wipeD δ (own.map (·.2))) = some δt ∧ DEB X N.K n scope elt δt μ1 (fy d) μ1)
    (ok : BlkOk X.N X.env.scope scope own := by exact blkOk_by (by decide +kernel)) (hds : (l.map gd).length < sizeLine := by first | (show _ < sizeLine; decide) | (simp; decide)) (hix : ∀ i ∈ ix, i ∈ own.map (·.2) := by decide) (hs : ∀ x, foldedSetIterable iter X.env x = pure x := by intro _; rfl) :
    DE X N W δ μ (.ListComp elt [⟨tg, iter, [], 0⟩] scope pos) (.v (.p (.lst (l.map fy)))) μ1 :=
  PE.imp (pe_lc (own := own) g.calm g.nd (pi_list hi) ok hg (fun _ _ _ _ _ => pts_nil) (fun s H C cl fp => pe_teB g) hs) fun σ H Q ⟨F, A, R, k⟩ => lcm_read g hds hix hm hl R (lc_frz (W := W) R k)
end
end Dl
set_option Elab.async false
set_option linter.all false
set_option maxRecDepth 100000
set_option maxHeartbeats 4000000
set_option autoImplicit false
namespace K20
open PySem PySem.Spec PyProof.Rows L2 Dl Cq
/-! ### the law's own reading: forms -/
abbrev foN : List Str := ["pieces", "found", "many", "knob", "number", "one"]
theorem scFormIn : FnScope foN ["pieces"] (defScope sFormIn) := ⟨rfl, rfl, rfl, by decide +kernel, rfl, by decide +kernel, by decide +kernel⟩
abbrev Pp := List Nat × List Nat
abbrev Fo := List (List Nat × Int)
def prs (ts : List (List Nat)) : List Pp := (evens ts).zip (evens (ts.drop 1))
def foBad (t : Fo) (p : Pp) : Bool := !(mnV p.1).isSome || (!nmB p.2 || decide (p.2 ∈ t.map (·.1)))
def foNx (p : Pp) (t : Fo) : Fo := t ++ [(p.2, (mnV p.1).getD 1)]
def fmV (ts : List (List Nat)) : Option Fo := if (ts.length = 2 ∨ ts.length = 4 ∨ ts.length = 6) ∧ okAllG foBad foNx [] (prs ts) = true then some ((prs ts).foldl (fun t a => foNx a t) []) else none
theorem fo_fold : ∀ (l : List Pp) (t : Fo), l.foldl (fun t a => foNx a t) t = t ++ l.map fun p => (p.2, (mnV p.1).getD 1)
  | [], t => by simp
  | p :: l, t => by
    rw [List.foldl_cons, fo_fold l]
    unfold foNx
    rw [List.append_assoc]
    rfl
theorem fo_all : ∀ (l : List Pp) (t : Fo), okAllG foBad foNx t l = true ↔ (∀ p ∈ l, (mnV p.1).isSome = true ∧ nmB p.2 = true ∧ p.2 ∉ t.map (·.1)) ∧ (l.map (·.2)).Nodup
  | [], t => by simp [okAllG]
  | p :: l, t => by
    unfold okAllG
    rw [Bool.and_eq_true, fo_all l (foNx p t)]
    have hb : (!foBad t p) = true ↔ ((mnV p.1).isSome = true ∧ nmB p.2 = true ∧ p.2 ∉ t.map (·.1)) := by
      unfold foBad
      cases (mnV p.1).isSome <;> cases nmB p.2 <;> simp
    rw [hb]
    have hm : ∀ x : List Nat, x ∈ (foNx p t).map (·.1) ↔ x ∈ t.map (·.1) ∨ x = p.2 := fun x => by
      unfold foNx
      rw [List.map_append, List.mem_append]
      simp
    rw [List.map_cons, List.nodup_cons]
    constructor
    · rintro ⟨h1, h2, h3⟩
      refine ⟨fun q hq => ?_, fun z => ?_, h3⟩
      · rcases List.mem_cons.mp hq with rfl | hq
        · exact h1
        · obtain ⟨a, b, c⟩ := h2 q hq
          exact ⟨a, b, fun z => c ((hm _).mpr (.inl z))⟩
      · obtain ⟨q, hq, e⟩ := List.mem_map.mp z
        exact (h2 q hq).2.2 ((hm _).mpr (.inr e))
    · rintro ⟨h1, h2, h3⟩
      refine ⟨h1 p List.mem_cons_self, fun q hq => ?_, h3⟩
      obtain ⟨a, b, c⟩ := h1 q (List.mem_cons_of_mem _ hq)
      refine ⟨a, b, fun z => ?_⟩
      rcases (hm _).mp z with z | z
      · exact c z
      · exact h2 (by rw [← z]; exact List.mem_map_of_mem hq)
theorem ds_toX {X : Cx} {N : En} {W : WX} {δ δ' : List (Option S)} {μ μ1 μ2 : List M} {stm : Stmt} (h : DS X N W δ μ stm (.nx δ' μ1)) (q : μ1 = μ2) : DS X N W δ μ stm (.nx δ' μ2) := q ▸ h
def foD (t : Fo) : D := .tup (t.map prD)
def optF : Option Fo → D
  | none => .non
  | some t => foD t
def rLForm : Rel := fun ss μ r μ' => ∃ ts : List (List Nat), (∀ t ∈ ts, Lt t) ∧ ts.length ≤ 5001 ∧ ss = [.p (.lst (txD ts))] ∧ r = .v (.p (optF (fmV ts))) ∧ μ' = μ
theorem zip_prs (ts : List (List Nat)) : (evens (txD ts)).zipWith (fun a b => D.tup [a, b]) (evens ((txD ts).drop 1)) = (prs ts).map fun p => D.tup [.str (st p.1), .str (st p.2)] := by
  have ev : evens (txD ts) = (evens ts).map fun t => .str (st t) := evens_map _ ts
  have od : evens ((txD ts).drop 1) = (evens (ts.drop 1)).map fun t => .str (st t) := by
    rw [show (txD ts).drop 1 = (ts.drop 1).map fun t => .str (st t) from by unfold txD; rw [List.map_drop]]
    exact evens_map _ _
  rw [ev, od]
  unfold prs
  rw [List.zipWith_map, List.zip, List.map_zipWith]
theorem prs_in {ts : List (List Nat)} {p : Pp} (h : p ∈ prs ts) : p.1 ∈ ts ∧ p.2 ∈ ts := by
  obtain ⟨a, b⟩ := p
  have h1 := List.of_mem_zip h
  exact ⟨(evens_sub ts).subset h1.1, List.mem_of_mem_drop ((evens_sub _).subset h1.2)⟩
theorem prs_len (ts : List (List Nat)) : (prs ts).length ≤ ts.length := by
  unfold prs
  rw [List.length_zip]
  exact Nat.le_trans (Nat.min_le_left _ _) (evens_sub ts).length_le
section
variable {P : Program} {w : World} {K : PySem.W.Frag} {mg : Str → Option Value} {base : Heap} {f : Addr} {fd : FuncData}
theorem ok_formin (F : Fun K "_law_form_in" "_law_form_in" sFormIn f fd) (T : TM mg) (cw : Cf P w K mg base 1 "_law_whole_in" [] rLWhole) (cn_ : Cf P w K mg base 1 "_law_is_name" [] rLName) : FnOk P w K mg base (L2.CX P w) 2 f fd ["pieces"] (spD K rLForm) := by
  refine fn_D (k := 1) F scFormIn (fun ss μ r μ' h => by obtain ⟨_, _, _, rfl, _⟩ := h; rfl) ?_
  intro cdv A0 outer s0 H E N W ss μ r μ' g hA hR
  obtain ⟨ts, hts, hl, rfl, rfl, rfl⟩ := hR
  have lt : (txD ts).length = ts.length := List.length_map ..
  have hat : ∀ m : M, (μ' ++ [m])[μ'.length]? = some m := fun m => by rw [List.getElem?_append_right (Nat.le_refl _), Nat.sub_self]; rfl
  have hst : ∀ m m' : M, (μ' ++ [m]).set μ'.length m' = μ' ++ [m'] := fun m m' => by rw [List.set_append_right _ _ (Nat.le_refl _), Nat.sub_self]; rfl
  have d0 : DS (cxOf (L2.CX P w) P w K mg base foN "_law_form_in" (defScope sFormIn) f cdv A0 outer s0 H E) N W (starts foN [.p (.lst (txD ts))]) μ' ((defBody sFormIn).getD 0 (.Pass ⟨0, 0, 0, 0⟩)) (.nx [some (.p (.lst (txD ts))), some (.l μ'.length), none, none, none, none] (μ' ++ [.lst (([] : Fo).map prD)])) := ds_set 1 (de_lstM dp_nil) g.nd
  have t1 : DT (cxOf (L2.CX P w) P w K mg base foN "_law_form_in" (defScope sFormIn) f cdv A0 outer s0 H E) N W [some (.p (.lst (txD ts))), some (.l μ'.length), none, none, none, none] (μ' ++ [.lst (([] : Fo).map prD)]) (ifC ((defBody sFormIn).getD 1 (.Pass ⟨0, 0, 0, 0⟩))) (!decide (ts.length = 2 ∨ ts.length = 4 ∨ ts.length = 6)) (μ' ++ [.lst (([] : Fo).map prD)]) := by
    refine dt_of (dt_cmp (de_callB (id := "len") (da_cons (de_var 0) da_nil) (c_lenL g) T.len (by decide +kernel)) (de_tup (ds := ([2, 4, 6] : List Int).map D.int) (dp_cons de_int (dp_cons de_int (dp_cons de_int dp_nil))) (sz (by show 3 ≤ _; decide))) (o_notInI g)) ?_
    congr 1
    rw [lt]
    refine decide_eq_decide.mpr ?_
    simp only [List.mem_cons, List.not_mem_nil, or_false]
    omega
  have eg : ∀ m : M, (μ' ++ [m]).take μ'.length = μ' := fun m => List.take_left ..
  by_cases h1 : ts.length = 2 ∨ ts.length = 4 ∨ ts.length = 6
  · have step := loop_noG (X := (cxOf (L2.CX P w) P w K mg base foN "_law_form_in" (defScope sFormIn) f cdv A0 outer s0 H E)) (N := N) (W := W) (f := asTup [asName 2, asName 3]) (body := match (defBody sFormIn).getD 2 (.Pass ⟨0, 0, 0, 0⟩) with | .For _ _ b _ _ => b | _ => []) (T := Fo) (mu := fun t => μ' ++ [.lst (t.map prD)]) (bad := foBad) (nx := foNx) (gd := fun p : Pp => D.tup [.str (st p.1), .str (st p.2)]) (s := fun _ _ => .p .non)
      (fun k t => k + t.length ≤ 6) (fun t δ => ∃ x2 x3 x4 x5, δ = [some (.p (.lst (txD ts))), some (.l μ'.length), x2, x3, x4, x5]) (prs ts) [some (.p (.lst (txD ts))), some (.l μ'.length), none, none, none, none] []
      (fun p hp k t δ hδ hk => by
        obtain ⟨x2, x3, x4, x5, rfl⟩ := hδ
        obtain ⟨i1, i2⟩ := prs_in hp
        have l1 := hts _ i1
        have l2 := hts _ i2
        have dn : DS (cxOf (L2.CX P w) P w K mg base foN "_law_form_in" (defScope sFormIn) f cdv A0 outer s0 H E) N W [some (.p (.lst (txD ts))), some (.l μ'.length), some (.p (.str (st p.1))), some (.p (.str (st p.2))), x4, x5] (μ' ++ [.lst (t.map prD)]) ((match (defBody sFormIn).getD 2 (.Pass ⟨0, 0, 0, 0⟩) with | .For _ _ b _ _ => b | _ => []).getD 0 (.Pass ⟨0, 0, 0, 0⟩)) (.nx [some (.p (.lst (txD ts))), some (.l μ'.length), some (.p (.str (st p.1))), some (.p (.str (st p.2))), some (.p (optI (whV p.1))), x5] (μ' ++ [.lst (t.map prD)])) :=
          ds_set 4 (de_call g cw (da_cons (de_var 2) da_nil) ⟨p.1, l1, rfl, rfl, rfl⟩) g.nd
        have tt : DT (cxOf (L2.CX P w) P w K mg base foN "_law_form_in" (defScope sFormIn) f cdv A0 outer s0 H E) N W [some (.p (.lst (txD ts))), some (.l μ'.length), some (.p (.str (st p.1))), some (.p (.str (st p.2))), some (.p (optI (whV p.1))), x5] (μ' ++ [.lst (t.map prD)]) (ifC ((match (defBody sFormIn).getD 2 (.Pass ⟨0, 0, 0, 0⟩) with | .For _ _ b _ _ => b | _ => []).getD 1 (.Pass ⟨0, 0, 0, 0⟩))) (foBad t p) (μ' ++ [.lst (t.map prD)]) := by
          have hm := whV_many p.1
          cases hv : whV p.1 with
          | none =>
            rw [hv] at hm
            have e : foBad t p = true := by unfold foBad; rw [hm]; rfl
            rw [e]
            exact dt_of (dt_w (dw_or (k := true) (k' := true) (dt_cmp (de_var 4) de_non o_isN) (fun h => by cases h))) rfl
          | some v =>
            rw [hv] at hm
            have hm : mnV p.1 = if 1 ≤ v.natAbs ∧ v.natAbs ≤ 4 then some v else none := hm
            have e : foBad t p = (false || (!(decide (1 ≤ v.natAbs) && decide (v.natAbs ≤ 4)) || (!nmB p.2 || decide (p.2 ∈ t.map (·.1))))) := by
              unfold foBad
              rw [hm]
              by_cases q : 1 ≤ v.natAbs ∧ v.natAbs ≤ 4
              · rw [if_pos q, decide_eq_true q.1, decide_eq_true q.2]; rfl
              · rw [if_neg q]
                have : (decide (1 ≤ v.natAbs) && decide (v.natAbs ≤ 4)) = false := by
                  rw [Bool.and_eq_false_iff]
                  by_cases z : 1 ≤ v.natAbs
                  · exact .inr (decide_eq_false fun y => q ⟨z, y⟩)
                  · exact .inl (decide_eq_false z)
                rw [this]; rfl
            rw [e]
            refine dt_w (dw_or (k := false) (k' := !(decide (1 ≤ v.natAbs) && decide (v.natAbs ≤ 4)) || (!nmB p.2 || decide (p.2 ∈ t.map (·.1)))) (dt_cmp (de_var 4) de_non o_isN) (fun _ => dw_or (k := !(decide (1 ≤ v.natAbs) && decide (v.natAbs ≤ 4))) (k' := !nmB p.2 || decide (p.2 ∈ t.map (·.1))) (dt_of (dt_not (dt_chn de_int (de_callB (id := "abs") (da_cons (de_var 4) da_nil) c_abs T.abs (by decide +kernel)) o_le (fun _ => de_int) (fun _ => o_le))) ?a1) (fun _ => dw_or (k := !nmB p.2) (k' := decide (p.2 ∈ t.map (·.1))) (dt_not (dt_val (de_call g cn_ (da_cons (de_var 3) da_nil) ⟨p.2, l2, rfl, rfl, rfl⟩))) (fun _ => dw_or1 (dt_of (dt_cmp (de_var 3) (de_of (d' := .lst ((t.map fun q => st q.1).map D.str)) (de_lcL (l := t) (gd := prD) (fy := fun q => .str (st q.1)) g [("one", 5)] (de_var 1) (hat _) (fun s H C cl fp => dg_name 5 g.nd) (fun q hq => ⟨_, rfl, fun s H C cl fp N' hK g' => de_ix (de_var 5) de_int (i_tup (i := 0) g' rfl)⟩) (ok := blkOk_by (by rfl)) (hds := by rw [List.length_map]; exact sz' (by omega))) (by rw [List.map_map]; rfl)) (o_inStrF g)) ?a2)))))
            case a1 =>
              congr 1
              have e3 : (if v < 0 then -v else v) = (v.natAbs : Int) := by split <;> omega
              rw [e3]
              congr 1
              · exact decide_eq_decide.mpr (by omega)
              · exact decide_eq_decide.mpr (by omega)
            case a2 =>
              refine decide_eq_decide.mpr ?_
              rw [show (t.map fun q => st q.1) = (t.map (·.1)).map st from by rw [List.map_map]; rfl]
              constructor
              · intro z
                obtain ⟨q, hq, e⟩ := List.mem_map.mp z
                rw [← st_inj.mp e]
                exact hq
              · exact fun z => List.mem_map_of_mem z
        refine ⟨_, rfl, ?_⟩
        cases hb : foBad t p with
        | true => exact .inr ⟨rfl, dss_cons dn (cn (dss_ifT (dt_of tt hb) (dss_ret de_non) cr))⟩
        | false =>
          have hs : (mnV p.1).isSome = true := by
            unfold foBad at hb
            cases hq : (mnV p.1).isSome with
            | true => rfl
            | false => rw [hq] at hb; cases hb
          have hv : optI (whV p.1) = .int ((mnV p.1).getD 1) := by
            have hm := whV_many p.1
            cases hv : whV p.1 with
            | none => rw [hv] at hm; rw [hm] at hs; cases hs
            | some v =>
              rw [hv] at hm
              have hm : mnV p.1 = if 1 ≤ v.natAbs ∧ v.natAbs ≤ 4 then some v else none := hm
              by_cases q : 1 ≤ v.natAbs ∧ v.natAbs ≤ 4
              · rw [hm, if_pos q]; rfl
              · rw [hm, if_neg q] at hs; cases hs
          refine .inl ⟨rfl, ?_, _, dss_cons dn (cn (dss_skip (dt_of tt hb) (dss_cons (ds_toX (ds_expr (de_bm PySem.F.plainAttrs_list PySem.F.slot_list_append PySem.F.type_list_append (de_var 1) (da_cons (s := .p (prD (p.2, (mnV p.1).getD 1))) (de_of (d' := prD (p.2, (mnV p.1).getD 1)) (de_tup (dp_cons (de_var 3) (dp_cons (de_var 4) dp_nil)) (sz (by show 2 ≤ _; decide))) (by rw [hv]; rfl)) da_nil) (m_append (hat _) (hat _) (by rw [List.length_map]; exact sz' (by omega))))) (by rw [hst]; unfold foNx; rw [List.map_append]; rfl)) (cn dss_nil)))), _, _, _, _, rfl⟩
          unfold foNx
          rw [List.length_append]
          show k + (t.length + 1) ≤ 6
          omega) ⟨_, _, _, _, rfl⟩ (by have := prs_len ts; show (prs ts).length + 0 ≤ 6; omega)
    have hz : DI (cxOf (L2.CX P w) P w K mg base foN "_law_form_in" (defScope sFormIn) f cdv A0 outer s0 H E) N W [some (.p (.lst (txD ts))), some (.l μ'.length), none, none, none, none] (μ' ++ [.lst (([] : Fo).map prD)]) (match (defBody sFormIn).getD 2 (.Pass ⟨0, 0, 0, 0⟩) with | .For t _ _ _ _ => t | _ => .Constant .none 0 ⟨0, 0, 0, 0⟩) (match (defBody sFormIn).getD 2 (.Pass ⟨0, 0, 0, 0⟩) with | .For _ t _ _ _ => t | _ => .Constant .none 0 ⟨0, 0, 0, 0⟩) ((prs ts).map fun p => D.tup [.str (st p.1), .str (st p.2)]) (μ' ++ [.lst (([] : Fo).map prD)]) :=
      di_of (di_zip g (da_cons (s := .p (.lst (evens (txD ts)))) (de_even g (de_var 0) (by rw [lt]; omega)) (da_cons (s := .p (.lst (evens ((txD ts).drop 1)))) (de_odd g (de_var 0) (by rw [lt]; omega)) da_nil)) (.lst _) (.lst _) T.zip) (zip_prs ts)
    rcases step with ⟨q1, δ', hlo, ⟨x2, x3, x4, x5, rfl⟩⟩ | ⟨q1, l1, a, l2, e, _, _, hlo⟩
    · have ef : fmV ts = some ((prs ts).foldl (fun t a => foNx a t) []) := if_pos ⟨h1, q1⟩
      rw [ef]
      refine ⟨_, dss_cons d0 (cn (dss_skip (dt_of t1 (by rw [decide_eq_true h1]; rfl)) (dss_cons (ds_for g hz (dg_tup (dgs_cons (dg_name 2 g.nd) (dgs_cons (dg_name 3 g.nd) dgs_nil)) g.hK g.calm) hlo) (cn (dss_freeze (hat _) (by omega) 1 rfl (Eq.mp (congrArg (fun ν => DSs _ N W _ ν _ _) (hst _ _).symm) (dss_ret (de_callT (T := "tuple") (da_cons (de_var 1) da_nil) c_tupL T.tuple (by decide +kernel))))))))), ?_⟩
      rw [hst]
      conv => rhs; rw [← eg .gone]
      exact .rtT (Nat.le_refl _)
    · have ef : fmV ts = none := if_neg fun z => by rw [q1] at z; cases z.2
      rw [ef]
      refine ⟨_, dss_cons d0 (cn (dss_skip (dt_of t1 (by rw [decide_eq_true h1]; rfl)) (dss_cons (ds_for g hz (dg_tup (dgs_cons (dg_name 2 g.nd) (dgs_cons (dg_name 3 g.nd) dgs_nil)) g.hK g.calm) hlo) cr))), ?_⟩
      conv => rhs; rw [← eg (.lst ((l1.foldl (fun t a => foNx a t) []).map prD))]
      exact .rtT (Nat.le_refl _)
  · have ef : fmV ts = none := if_neg fun z => h1 z.1
    rw [ef]
    refine ⟨_, dss_cons d0 (cn (dss_ifT (dt_of t1 (by rw [decide_eq_false h1]; rfl)) (dss_ret de_non) cr)), ?_⟩
    conv => rhs; rw [← eg (.lst (([] : Fo).map prD))]
    exact .rtT (Nat.le_refl _)
end
end K20
set_option Elab.async false
set_option linter.all false
set_option maxRecDepth 100000
set_option maxHeartbeats 4000000
set_option autoImplicit false
namespace K20
open PySem PySem.Spec PyProof.Rows L2 Dl Cq
/-! ### the law's own reading: lines -/
abbrev liN : List Str := ["wires", "text", "pieces", "word", "form", "some", "wire"]
theorem scLineIn : FnScope liN ["wires", "text"] (defScope sLineIn) := ⟨rfl, rfl, rfl, by decide +kernel, rfl, by decide +kernel, by decide +kernel⟩
def optL : Option Ln → D
  | none => .non
  | some l => lnD l
def gN (name : List Nat) : Nat := if name = [104] then 1 else if name = pn 0 ∨ name = pn 1 ∨ name = pn 2 then 2 else 0
theorem rdT_form {w : Nat} {about : List Nat} {pairs : List (List Nat)} : rdT w (about :: wBy :: pairs) = if abB w about = true then (fmV pairs).map (fun t => Ln.tn (sgM about) (offM about) t) else none := by
  unfold rdT
  by_cases hl : pairs.length = 2 ∨ pairs.length = 4 ∨ pairs.length = 6
  · have h0 : ¬ ((about :: wBy :: pairs).length < 4 ∨ 8 < (about :: wBy :: pairs).length ∨ (about :: wBy :: pairs).length % 2 ≠ 0) := by
      simp only [List.length_cons]
      omega
    rw [if_neg h0]
    show (if wBy ≠ wBy ∨ abB w about = false ∨ ((evens pairs).all fun m => (mnV m).isSome) = false then none else _) = _
    have lens : (evens pairs).length = (evens (pairs.drop 1)).length := by
      match pairs, hl with
      | [a, b], _ => rfl
      | [a, b, c, d], _ => rfl
      | [a, b, c, d, e, f], _ => rfl
    have e1 : (prs pairs).map (·.1) = evens pairs := List.map_fst_zip (by omega)
    have e2 : (prs pairs).map (·.2) = evens (pairs.drop 1) := List.map_snd_zip (by omega)
    have hall := fo_all (prs pairs) []
    have key : okAllG foBad foNx [] (prs pairs) = (((evens pairs).all fun m => (mnV m).isSome) && ((evens (pairs.drop 1)).all nmB && decide (evens (pairs.drop 1)).Nodup)) := by
      rw [Bool.eq_iff_iff, hall, e2, Bool.and_eq_true, Bool.and_eq_true, decide_eq_true_eq, List.all_eq_true, List.all_eq_true]
      constructor
      · rintro ⟨a, b⟩
        refine ⟨fun m hm => ?_, fun m hm => ?_, b⟩
        · rw [← e1] at hm
          obtain ⟨p, hp, rfl⟩ := List.mem_map.mp hm
          exact (a p hp).1
        · rw [← e2] at hm
          obtain ⟨p, hp, rfl⟩ := List.mem_map.mp hm
          exact (a p hp).2.1
      · rintro ⟨a, b, c⟩
        refine ⟨fun p hp => ⟨a _ ?_, b _ ?_, by simp⟩, c⟩
        · rw [← e1]; exact List.mem_map_of_mem hp
        · rw [← e2]; exact List.mem_map_of_mem hp
    have fold : (prs pairs).foldl (fun t a => foNx a t) [] = (evens (pairs.drop 1)).zip ((evens pairs).map fun m => (mnV m).getD 1) := by
      rw [fo_fold, List.nil_append]
      unfold prs
      have : ∀ (a b : List (List Nat)), (a.zip b).map (fun p : Pp => (p.2, (mnV p.1).getD 1)) = b.zip (a.map fun m => (mnV m).getD 1) := by
        intro a
        induction a with
        | nil => intro b; cases b <;> rfl
        | cons x a ih =>
          intro b
          cases b with
          | nil => rfl
          | cons y b =>
            exact congrArg ((y, (mnV x).getD 1) :: ·) (ih b)
      exact this _ _
    by_cases ha : abB w about = true
    · rw [if_pos ha]
      unfold fmV
      by_cases h1 : ((evens pairs).all fun m => (mnV m).isSome) = true
      · rw [if_neg (by
          rintro (z | z | z)
          · exact z rfl
          · rw [ha] at z; cases z
          · rw [h1] at z; cases z)]
        by_cases h2 : (evens (pairs.drop 1)).all nmB = false ∨ ¬ (evens (pairs.drop 1)).Nodup
        · rw [if_pos h2, if_neg]
          · rfl
          · rintro ⟨_, z⟩
            rw [key, h1, Bool.true_and, Bool.and_eq_true, decide_eq_true_eq] at z
            rcases h2 with h2 | h2
            · rw [h2] at z; cases z.1
            · exact h2 z.2
        · rw [if_neg h2, if_pos]
          · rw [fold]; rfl
          · refine ⟨hl, ?_⟩
            rw [key, h1, Bool.true_and, Bool.and_eq_true, decide_eq_true_eq]
            refine ⟨?_, Classical.byContradiction fun z => h2 (.inr z)⟩
            cases hq : (evens (pairs.drop 1)).all nmB with
            | true => rfl
            | false => exact absurd (.inl hq) h2
      · have h1 : ((evens pairs).all fun m => (mnV m).isSome) = false := by simpa using h1
        rw [if_pos (.inr (.inr h1)), if_neg]
        · rfl
        · rintro ⟨_, z⟩
          rw [key, h1] at z
          cases z
    · have ha : abB w about = false := by simpa using ha
      rw [if_pos (.inr (.inl ha)), if_neg (by rw [ha]; exact Bool.false_ne_true)]
  · have h0 : (about :: wBy :: pairs).length < 4 ∨ 8 < (about :: wBy :: pairs).length ∨ (about :: wBy :: pairs).length % 2 ≠ 0 := by
      simp only [List.length_cons]
      omega
    rw [if_pos h0]
    have : fmV pairs = none := if_neg fun z => hl z.1
    rw [this]
    split <;> rfl
theorem rdT_short {w : Nat} {rest : List (List Nat)} (h : rest.length < 4) : rdT w rest = none := by
  unfold rdT
  rw [if_pos (.inl h)]
theorem rdT_by {w : Nat} {about by_ : List Nat} {pairs : List (List Nat)} (h : by_ ≠ wBy) : rdT w (about :: by_ :: pairs) = none := by
  unfold rdT
  split
  · rfl
  · show (if by_ ≠ wBy ∨ _ then none else _) = none
    rw [if_pos (.inl h)]
/-- what stands behind the first two cases -/
def thV (w : Nat) (name : List Nat) (rest : List (List Nat)) : Option Ln :=
  if name = [104] ∧ rest.length = 1 ∧ wrB w rest = true then some (.h (dgV (rest.headD [])))
  else if (name = pn 0 ∨ name = pn 1 ∨ name = pn 2) ∧ rest.length = 2 ∧ wrB w rest = true then some (.pr (if name = pn 0 then 0 else if name = pn 1 then 1 else 2) (dgV (rest.headD [])) (dgV ((rest.drop 1).headD [])))
  else none
theorem dgV_inj {w : Nat} {a b : List Nat} (ha : dgB w a = true) (hb : dgB w b = true) (h : dgV a = dgV b) : a = b := by
  rw [(dgB_ok ha).2, (dgB_ok hb).2, h]
def rLLine : Rel := fun ss μ r μ' => ∃ (w : Nat) (L : List Nat), 1 ≤ w ∧ w ≤ 4 ∧ Lt L ∧ ss = [.p (.int (w : Nat)), .p (.str (st L))] ∧ r = .v (.p (optL (rdL w L))) ∧ μ' = μ
def oPy : Option Int → PyData
  | none => .none
  | some v => .int v
theorem oPy_is : ∀ o : Option Int, PyD (optI o) (oPy o)
  | none => .non
  | some v => .int v
end K20
set_option Elab.async false
set_option linter.all false
set_option maxRecDepth 100000
set_option maxHeartbeats 4000000
set_option autoImplicit false
namespace K20
open PySem PySem.Spec PyProof.Rows L2 Dl Cq
def kvG : List (Key × D) := [(.inr (Str.ofString "h"), .int 1), (.inr (Str.ofString "cz"), .int 2), (.inr (Str.ofString "cx"), .int 2), (.inr (Str.ofString "swap"), .int 2)]
theorem val_gN (name : List Nat) : (valP kvG (.inr (st name))).getD (.int 0) = .int ((gN name : Nat) : Int) := by
  have e : ∀ z : List Nat, decide ((Sum.inr (st z) : Key) = .inr (st name)) = decide (name = z) := fun z => decide_eq_decide.mpr ⟨fun h => (st_inj.mp (Sum.inr.inj h)).symm, fun h => by rw [h]⟩
  have hk : kvG = [(.inr (st [104]), .int 1), (.inr (st (pn 0)), .int 2), (.inr (st (pn 1)), .int 2), (.inr (st (pn 2)), .int 2)] := rfl
  unfold valP gN
  rw [hk]
  by_cases h0 : name = [104]
  · rw [List.find?_cons_of_pos (by rw [e]; exact decide_eq_true h0), if_pos h0]; rfl
  rw [List.find?_cons_of_neg (by rw [e, decide_eq_false h0]; decide), if_neg h0]
  by_cases h1 : name = pn 0
  · rw [List.find?_cons_of_pos (by rw [e]; exact decide_eq_true h1), if_pos (.inl h1)]; rfl
  rw [List.find?_cons_of_neg (by rw [e, decide_eq_false h1]; decide)]
  by_cases h2 : name = pn 1
  · rw [List.find?_cons_of_pos (by rw [e]; exact decide_eq_true h2), if_pos (.inr (.inl h2))]; rfl
  rw [List.find?_cons_of_neg (by rw [e, decide_eq_false h2]; decide)]
  by_cases h3 : name = pn 2
  · rw [List.find?_cons_of_pos (by rw [e]; exact decide_eq_true h3), if_pos (.inr (.inr h3))]; rfl
  rw [List.find?_cons_of_neg (by rw [e, decide_eq_false h3]; decide), if_neg (by rintro (z | z | z) <;> contradiction)]
  rfl
theorem gN_le (name : List Nat) : gN name ≤ 2 := by
  unfold gN
  split
  · decide
  · split <;> decide
theorem wdO_non (n : Nat) (L : List Nat) : isNon (wdO n L) = !abB n L := by
  unfold wdO
  cases abB n L <;> rfl
theorem thV_len {n : Nat} {name : List Nat} {rest : List (List Nat)} (h : rest.length ≠ gN name ∨ rest = [] ∨ wrB n rest = false) : thV n name rest = none := by
  unfold thV
  have g0 : ∀ k, rest.length = k → 1 ≤ k → wrB n rest = true → gN name = k → False := fun k h1 h2 h3 h4 => by
    rcases h with h | h | h
    · exact h (h1.trans h4.symm)
    · rw [h] at h1; simp at h1; omega
    · rw [h] at h3; cases h3
  rw [if_neg, if_neg]
  · rintro ⟨a, b, c⟩
    refine g0 2 b (by decide) c ?_
    unfold gN
    rw [if_neg (by rintro z; subst z; rcases a with a | a | a <;> exact absurd a (by decide)), if_pos a]
  · rintro ⟨a, b, c⟩
    refine g0 1 b (by decide) c ?_
    unfold gN
    rw [if_pos a]
section
variable {P : Program} {w : World} {K : PySem.W.Frag} {mg : Str → Option Value} {base : Heap} {f : Addr} {fd : FuncData}
theorem line_tail {k n : Nat} {name : List Nat} {rest : List (List Nat)} {x1 : Option S} {cdv : Value} {A0 : Around} {outer : List Env} {s0 : Shared} {H : Hp} {E : XK} {N : En} {W : WX} {μ : List M} (g : Go (cxOf (L2.CX P w) P w K mg base liN "_law_line_in" (defScope sLineIn) f cdv A0 outer s0 H E) N W k) (T : TM mg) (hk : 1 ≤ k) (cw : Cf P w K mg base 1 "_law_whole_in" [] rLWhole) (h1 : 1 ≤ n) (h4 : n ≤ 4) (hr : ∀ t ∈ rest, Lt t) (hl : rest.length ≤ 700) (hA : N.A0.length ≤ μ.length) :
    ∃ o, DSs (cxOf (L2.CX P w) P w K mg base liN "_law_line_in" (defScope sLineIn) f cdv A0 outer s0 H E) N W [some (.p (.int (n : Nat))), x1, some (.p (.lst (txD (name :: rest)))), none, none, none, none] μ ((defBody sLineIn).drop 3) o ∧ Fit μ.length o (.v (.p (optL (thV n name rest)))) μ := by
  have lr : (rest.map fun t => optI (whV t)).length = rest.length := List.length_map ..
  have d3 : DS (cxOf (L2.CX P w) P w K mg base liN "_law_line_in" (defScope sLineIn) f cdv A0 outer s0 H E) N W [some (.p (.int (n : Nat))), x1, some (.p (.lst (txD (name :: rest)))), none, none, none, none] μ ((defBody sLineIn).getD 3 (.Pass ⟨0, 0, 0, 0⟩)) (.nx [some (.p (.int (n : Nat))), x1, some (.p (.lst (txD (name :: rest)))), none, none, some (.p (.lst (rest.map fun t => optI (whV t)))), none] μ) :=
    ds_setLc 5 g [("word", 3)] (di_lst g (ds := rest.map fun t => D.str (st t)) (de_of (de_cutLf g (de_var 2) de_int) (congrArg D.lst (cutX_from _ 1)))) (fun s H C cl fp => dg_name 3 g.nd) (of_maps (gd := fun t : List Nat => D.str (st t)) (fy := fun t => optI (whV t)) fun t ht => ⟨_, rfl, fun s H C' cl fp N' hK g' => de_call g' cw (da_cons (de_var 3) da_nil) ⟨t, hr t ht, rfl, rfl, rfl⟩ hk⟩) (ok := blkOk_by (by rfl)) (hds := by rw [List.length_map]; exact sz' (by omega))
  have p0 : ∀ (x5 : Option S), DE (cxOf (L2.CX P w) P w K mg base liN "_law_line_in" (defScope sLineIn) f cdv A0 outer s0 H E) N W [some (.p (.int (n : Nat))), x1, some (.p (.lst (txD (name :: rest)))), none, none, x5, none] μ (match (defBody sLineIn).getD 1 (.Pass ⟨0, 0, 0, 0⟩) with | .If (.BoolOp _ (.Compare a _ _ _ :: _) _) _ _ _ => a | _ => .Constant .none 0 ⟨0, 0, 0, 0⟩) (.v (.p (.str (st name)))) μ := fun x5 => de_ix (de_var 2) de_int (i_lst (i := ((0 : Nat) : Int)) g (atI_nat rfl))
  have t4 : DT (cxOf (L2.CX P w) P w K mg base liN "_law_line_in" (defScope sLineIn) f cdv A0 outer s0 H E) N W [some (.p (.int (n : Nat))), x1, some (.p (.lst (txD (name :: rest)))), none, none, some (.p (.lst (rest.map fun t => optI (whV t)))), none] μ (ifC ((defBody sLineIn).getD 4 (.Pass ⟨0, 0, 0, 0⟩))) (!decide (rest.length = gN name)) μ := by
    refine dt_of (dt_cmp (de_callB (id := "len") (da_cons (de_var 5) da_nil) (c_lenL g) T.len (by decide +kernel)) (de_of (d' := .int ((gN name : Nat) : Int)) (de_dget2D (kv := kvG) (k := .inr (st name)) g (de_dic4) (de_ix (de_var 2) de_int (i_lst (i := ((0 : Nat) : Int)) g (atI_nat rfl))) de_int) (val_gN name)) o_neI) ?_
    rw [lr]
    exact congrArg not (decide_eq_decide.mpr (by omega))
  by_cases hg : rest.length = gN name
  · have hg2 := gN_le name
    have t5 : DT (cxOf (L2.CX P w) P w K mg base liN "_law_line_in" (defScope sLineIn) f cdv A0 outer s0 H E) N W [some (.p (.int (n : Nat))), x1, some (.p (.lst (txD (name :: rest)))), none, none, some (.p (.lst (rest.map fun t => optI (whV t)))), none] μ (ifC ((defBody sLineIn).getD 5 (.Pass ⟨0, 0, 0, 0⟩))) (decide (rest = []) || !rest.all (dgB n)) μ := by
      refine dt_w (dw_or (k := decide (rest = [])) (k' := !rest.all (dgB n)) (dt_cmp (de_var 5) (de_lst dp_nil) ?eq) (fun _ => dw_or1 (dt_not (dt_val (de_callB (id := "all") (da_cons (de_lc g [("wire", 6)] (di_lst g (de_var 5)) (fun s H C cl fp => dg_name 6 g.nd) (of_maps (gd := fun t => optI (whV t)) (fy := fun t => .bl (dgB n t)) fun t ht => ⟨_, rfl, fun s H C' cl fp N' hK g' => ?el⟩) (ok := blkOk_by (by rfl)) (hds := by rw [lr]; exact sz' (by omega))) da_nil) (c_allm g) T.all (by decide +kernel))))))
      case eq =>
        match rest, hg with
        | [], _ => exact o_eqD g (.lst .nil) (.lst .nil) rfl rfl rfl
        | [a], _ =>
          refine o_eqD g (.lst (.cons (oPy_is (whV a)) .nil)) (.lst .nil) ?_ rfl rfl
          cases whV a <;> rfl
        | [a, b], _ =>
          refine o_eqD g (.lst (.cons (oPy_is (whV a)) (.cons (oPy_is (whV b)) .nil))) (.lst .nil) ?_ rfl rfl
          cases whV a <;> cases whV b <;> rfl
        | a :: b :: c :: r, hg => simp at hg; omega
      case el =>
        have e := whV_wire h4 t
        cases hv : whV t with
        | none =>
          rw [hv] at e
          rw [e]
          exact de_of (d' := .bl false) (de_and (k := false) (k' := true) (de_cmp (de_of (d' := .non) (de_var 6) rfl) de_non o_notN) (fun h => by cases h)) rfl
        | some v =>
          rw [hv] at e
          rw [e]
          exact de_of (d' := .bl (decide (0 ≤ v) && decide (v < (n : Int)))) (de_and (k := true) (k' := decide (0 ≤ v) && decide (v < (n : Int))) (de_cmp (de_of (d' := .int v) (de_var 6) rfl) de_non o_notN) (fun _ => de_one (de_chn de_int (de_of (d' := .int v) (de_var 6) rfl) o_le (fun _ => de_var 0) (fun _ => o_lt)))) rfl
    by_cases h5 : rest = [] ∨ rest.all (dgB n) = false
    · rw [thV_len (h5.elim (fun z => .inr (.inl z)) (fun z => .inr (.inr (by unfold wrB; rw [z]; rfl))))]
      refine ⟨_, dss_cons d3 (cn (dss_skip (dt_of t4 (by rw [decide_eq_true hg]; rfl)) (dss_ifT (dt_of t5 ?_) (dss_ret de_non) cr))), .rt⟩
      rcases h5 with h | h
      · rw [decide_eq_true h]; rfl
      · rw [h]; simp
    · have hne : rest ≠ [] := fun z => h5 (.inl z)
      have hall : rest.all (dgB n) = true := by
        cases hq : rest.all (dgB n) with
        | true => rfl
        | false => exact absurd (.inr hq) h5
      have hdg : ∀ t ∈ rest, dgB n t = true := List.all_eq_true.mp hall
      have es : (rest.map fun t => optI (whV t)) = (rest.map fun t => ((dgV t : Nat) : Int)).map D.int := by
        rw [List.map_map]
        refine List.map_congr_left fun t ht => ?_
        show optI (whV t) = D.int ((dgV t : Nat) : Int)
        rw [(whV_val h4 (hdg t ht)).1]
        rfl
      have nd : (uniqI (rest.map fun t => ((dgV t : Nat) : Int))).length = rest.length ↔ rest.Nodup := by
        have := uniqI_len (rest.map fun t => ((dgV t : Nat) : Int))
        rw [List.length_map] at this
        rw [this]
        constructor
        · exact fun z => List.Pairwise.of_map _ (fun a b hab e => hab (by rw [e])) z
        · intro z
          refine List.pairwise_map.mpr ?_
          refine List.Pairwise.imp_of_mem (fun ha hb hab e => hab (dgV_inj (hdg _ ha) (hdg _ hb) (by omega))) z
      have tv : thV n name rest = if rest.Nodup then (if rest.length = 1 then some (.h (dgV (rest.headD []))) else some (.pr (if name = pn 0 then 0 else if name = pn 1 then 1 else 2) (dgV (rest.headD [])) (dgV ((rest.drop 1).headD [])))) else none := by
        have wr : wrB n rest = decide rest.Nodup := by unfold wrB; rw [hall, Bool.true_and]
        unfold thV
        rw [wr]
        by_cases hn : rest.Nodup
        · rw [if_pos hn, decide_eq_true hn]
          by_cases l1 : rest.length = 1
          · have : name = [104] := by
              rw [l1] at hg
              unfold gN at hg
              split at hg
              · assumption
              · split at hg <;> cases hg
            rw [if_pos ⟨this, l1, rfl⟩, if_pos l1]
          · have h2 : rest.length = 2 := by
              have : rest.length ≠ 0 := fun z => hne (List.eq_nil_of_length_eq_zero z)
              omega
            have : name = pn 0 ∨ name = pn 1 ∨ name = pn 2 := by
              rw [h2] at hg
              unfold gN at hg
              split at hg
              · cases hg
              · split at hg
                · assumption
                · cases hg
            rw [if_neg (fun z => l1 z.2.1), if_pos ⟨this, h2, rfl⟩, if_neg l1]
        · rw [if_neg hn, decide_eq_false hn, if_neg (fun z => by cases z.2.2), if_neg (fun z => by cases z.2.2)]
      have t6 : DT (cxOf (L2.CX P w) P w K mg base liN "_law_line_in" (defScope sLineIn) f cdv A0 outer s0 H E) N W [some (.p (.int (n : Nat))), x1, some (.p (.lst (txD (name :: rest)))), none, none, some (.p (.lst (rest.map fun t => optI (whV t)))), none] μ (match (defBody sLineIn).getD 6 (.Pass ⟨0, 0, 0, 0⟩) with | .Return (some (.IfExp c _ _ _)) _ => c | _ => .Constant .none 0 ⟨0, 0, 0, 0⟩) (decide rest.Nodup) μ := by
        refine dt_of (dt_cmp (de_lenSetI (ns := rest.map fun t => ((dgV t : Nat) : Int)) g (de_of (d' := .lst ((rest.map fun t => ((dgV t : Nat) : Int)).map D.int)) (de_var 5) (congrArg D.lst es)) (by rw [List.length_map]; omega) T.len T.set) (de_callB (id := "len") (da_cons (de_var 5) da_nil) (c_lenL g) T.len (by decide +kernel)) o_eqI) ?_
        rw [lr]
        refine decide_eq_decide.mpr (Iff.trans ?_ nd)
        omega
      rw [tv]
      by_cases hn : rest.Nodup
      · rw [if_pos hn]
        refine ⟨_, dss_cons d3 (cn (dss_skip (dt_of t4 (by rw [decide_eq_true hg]; rfl)) (dss_skip (dt_of t5 (by rw [decide_eq_false hne, hall]; rfl)) (dss_ret (de_if (k := true) (dt_of t6 (decide_eq_true hn)) (fun _ => de_of (de_bin (de_tup (ds := [.str (st name)]) (dp_cons (de_ix (de_var 2) de_int (i_lst (i := ((0 : Nat) : Int)) g (atI_nat rfl))) dp_nil) (sz (by show 1 ≤ _; decide))) (de_callT (T := "tuple") (da_cons (de_var 5) da_nil) c_tupL T.tuple (by decide +kernel)) (o_catT g (by rw [lr]; exact sz (by show 1 + _ ≤ _; omega)))) ?_) (fun h => by cases h)))))), .rt⟩
        rw [es]
        match rest, hne, hg with
        | [a], _, hg =>
          have : name = [104] := by
            have hg : 1 = gN name := hg
            unfold gN at hg
            split at hg
            · assumption
            · split at hg <;> cases hg
          rw [this]
          rfl
        | [a, b], _, hg =>
          have hg : 2 = gN name := hg
          have : name = pn 0 ∨ name = pn 1 ∨ name = pn 2 := by
            unfold gN at hg
            split at hg
            · cases hg
            · split at hg
              · assumption
              · cases hg
          rcases this with z | z | z <;> rw [z] <;> rfl
        | a :: b :: c :: r, _, hg => simp at hg; omega
      · rw [if_neg hn]
        exact ⟨_, dss_cons d3 (cn (dss_skip (dt_of t4 (by rw [decide_eq_true hg]; rfl)) (dss_skip (dt_of t5 (by rw [decide_eq_false hne, hall]; rfl)) (dss_ret (de_if (k := false) (dt_of t6 (decide_eq_false hn)) (fun h => by cases h) (fun _ => de_non)))))), .rt⟩
  · rw [thV_len (.inl hg)]
    exact ⟨_, dss_cons d3 (cn (dss_ifT (dt_of t4 (by rw [decide_eq_false hg]; rfl)) (dss_ret de_non) cr)), .rt⟩
end
end K20
set_option Elab.async false
set_option linter.all false
set_option maxRecDepth 100000
set_option maxHeartbeats 4000000
set_option autoImplicit false
namespace K20
open PySem PySem.Spec PyProof.Rows L2 Dl Cq
theorem optF_non (o : Option Fo) : isNon (optF o) = !o.isSome := by cases o <;> rfl
theorem thV_turn {n : Nat} {rest : List (List Nat)} : thV n wTurn rest = none := by
  unfold thV
  rw [if_neg (fun z => absurd z.1 (by decide)), if_neg (fun z => absurd z.1 (by decide))]
theorem thV_ab {n : Nat} {name : List Nat} {rest : List (List Nat)} (h : name = wFlip ∨ name = wQuarter) : thV n name rest = none := by
  unfold thV
  rw [if_neg (fun z => by have := z.1; subst this; exact absurd h (by decide)), if_neg (fun z => by rcases h with rfl | rfl <;> exact absurd z.1 (by decide))]
def abO (n : Nat) (name : List Nat) (rest : List (List Nat)) : Option Ln := match rest with
  | [t] => if abB n t = true then some (.ab (decide (name = wQuarter)) (sgM t) (offM t)) else none
  | _ => none
theorem rdL_eq {n : Nat} {L name : List Nat} {rest : List (List Nat)} (hw : TL.spl [32] 0 [] L = name :: rest) : rdL n L = if name = wTurn then rdT n rest else if name = wFlip ∨ name = wQuarter then abO n name rest else thV n name rest := by
  unfold rdL
  rw [hw]
  rfl
section
variable {P : Program} {w : World} {K : PySem.W.Frag} {mg : Str → Option Value} {base : Heap} {f : Addr} {fd : FuncData}
theorem ok_linein (F : Fun K "_law_line_in" "_law_line_in" sLineIn f fd) (T : TM mg) (cw : Cf P w K mg base 1 "_law_whole_in" [] rLWhole) (cwd : Cf P w K mg base 1 "_law_word_in" [] rLWord) (cf_ : Cf P w K mg base 2 "_law_form_in" [] rLForm) : FnOk P w K mg base (L2.CX P w) 3 f fd ["wires", "text"] (spD K rLLine) := by
  refine fn_D (k := 2) F scLineIn (fun ss μ r μ' h => by obtain ⟨_, _, _, _, _, rfl, _⟩ := h; rfl) ?_
  intro cdv A0 outer s0 H E N W ss μ r μ' g hA hR
  obtain ⟨n, L, h1, h4, hL, rfl, rfl, rfl⟩ := hR
  have hb : L.length ≤ 640 := hL
  have hz : (st L).length + 2 ≤ sizeLine := by rw [st_len]; exact sz (by omega)
  have hs := split_sp L
  obtain ⟨l1, l2⟩ := spl_len 32 L []
  match hw : TL.spl [32] 0 [] L with
  | [] => exact absurd hw (spl_ne 32 L [])
  | name :: rest =>
    rw [hw] at hs l1 l2
    have hbr : ∀ t ∈ rest, Lt t := fun t ht => by
      have := l1 t (List.mem_cons_of_mem _ ht)
      show t.length ≤ 640
      simp at this
      omega
    have hlr : rest.length ≤ 640 := by rw [List.length_cons] at l2; omega
    have lp : (txD (name :: rest)).length = rest.length + 1 := by unfold txD; rw [List.length_map]; rfl
    have d0 : DS (cxOf (L2.CX P w) P w K mg base liN "_law_line_in" (defScope sLineIn) f cdv A0 outer s0 H E) N W (starts liN [.p (.int (n : Nat)), .p (.str (st L))]) μ' ((defBody sLineIn).getD 0 (.Pass ⟨0, 0, 0, 0⟩)) (.nx [some (.p (.int (n : Nat))), some (.p (.str (st L))), some (.p (.lst (txD (name :: rest)))), none, none, none, none] μ') :=
      ds_set 2 (de_of (d' := .lst (txD (name :: rest))) (de_bm PySem.F.plainAttrs_str PySem.F.slot_str_split PySem.F.type_str_split (de_var 1) (da_cons de_str da_nil) (m_split (by decide) hz)) (congrArg D.lst hs)) g.nd
    have inA : decide (st name ∈ ([st wFlip, st wQuarter] : List Str)) = decide (name = wFlip ∨ name = wQuarter) := decide_eq_decide.mpr (by simp [st_inj])
    have tA : DT (cxOf (L2.CX P w) P w K mg base liN "_law_line_in" (defScope sLineIn) f cdv A0 outer s0 H E) N W [some (.p (.int (n : Nat))), some (.p (.str (st L))), some (.p (.lst (txD (name :: rest)))), none, none, none, none] μ' (ifC ((defBody sLineIn).getD 1 (.Pass ⟨0, 0, 0, 0⟩))) (decide (name = wFlip ∨ name = wQuarter) && decide (rest.length = 1)) μ' := by
      refine dt_w (dw_and (k := decide (name = wFlip ∨ name = wQuarter)) (k' := decide (rest.length = 1)) (dt_of (dt_cmp (de_ix (de_var 2) de_int (i_lst (i := ((0 : Nat) : Int)) g (atI_nat rfl))) (de_tup (ds := ([st wFlip, st wQuarter] : List Str).map D.str) (dp_cons de_str (dp_cons de_str dp_nil)) (sz (by show 2 ≤ 100000; decide))) (o_inStrT g)) inA) (fun _ => dw_and1 (dt_of (dt_cmp (de_callB (id := "len") (da_cons (de_var 2) da_nil) (c_lenL g) T.len (by decide +kernel)) de_int o_eqI) ?_)))
      rw [lp]
      exact decide_eq_decide.mpr (by omega)
    have er := rdL_eq (n := n) hw
    by_cases hA1 : (name = wFlip ∨ name = wQuarter) ∧ rest.length = 1
    · obtain ⟨t, rfl⟩ := List.length_eq_one_iff.mp hA1.2
      have nT : name ≠ wTurn := fun z => by subst z; exact absurd hA1.1 (by decide)
      rw [if_neg nT, if_pos hA1.1] at er
      have er : rdL n L = if abB n t = true then some (.ab (decide (name = wQuarter)) (sgM t) (offM t)) else none := er
      rw [er]
      have dw : DS (cxOf (L2.CX P w) P w K mg base liN "_law_line_in" (defScope sLineIn) f cdv A0 outer s0 H E) N W [some (.p (.int (n : Nat))), some (.p (.str (st L))), some (.p (.lst (txD [name, t]))), none, none, none, none] μ' ((bodyIf sLineIn 1).getD 0 (.Pass ⟨0, 0, 0, 0⟩)) (.nx [some (.p (.int (n : Nat))), some (.p (.str (st L))), some (.p (.lst (txD [name, t]))), some (.p (wdO n t)), none, none, none] μ') :=
        ds_set 3 (de_call g cwd (da_cons (de_var 0) (da_cons (de_ix (de_var 2) de_int (i_lst (i := ((1 : Nat) : Int)) g (atI_nat rfl))) da_nil)) ⟨n, t, h1, h4, hbr t (by simp), rfl, rfl, rfl⟩) g.nd
      by_cases ha : abB n t = true
      · rw [if_pos ha]
        refine ⟨_, dss_cons d0 (cn (dss_ifT (dt_of tA (by rw [decide_eq_true hA1.1, decide_eq_true hA1.2]; rfl)) (dss_cons dw (cn (dss_ret (de_if (k := false) (dt_of (dt_cmp (de_var 3) de_non o_isN) (by rw [wdO_non, ha]; rfl)) (fun h => by cases h) (fun _ => de_of (de_tup (dp_cons (de_ix (de_var 2) de_int (i_lst (i := ((0 : Nat) : Int)) g (atI_nat rfl))) (dp_cons (de_var 3) dp_nil)) (sz (by show 2 ≤ _; decide))) ?_))))) cr)), .rt⟩
        show D.tup [.str (st name), wdO n t] = D.tup [.str (st (if decide (name = wQuarter) = true then wQuarter else wFlip)), tupW (offM t) (sgM t)]
        have e1 : wdO n t = tupW (offM t) (sgM t) := if_pos ha
        rw [e1]
        rcases hA1.1 with rfl | rfl <;> rfl
      · rw [if_neg ha]
        have ha : abB n t = false := by simpa using ha
        exact ⟨_, dss_cons d0 (cn (dss_ifT (dt_of tA (by rw [decide_eq_true hA1.1, decide_eq_true hA1.2]; rfl)) (dss_cons dw (cn (dss_ret (de_if (k := true) (dt_of (dt_cmp (de_var 3) de_non o_isN) (by rw [wdO_non, ha]; rfl)) (fun _ => de_non) (fun h => by cases h))))) cr)), .rt⟩
    have tA0 : DT (cxOf (L2.CX P w) P w K mg base liN "_law_line_in" (defScope sLineIn) f cdv A0 outer s0 H E) N W [some (.p (.int (n : Nat))), some (.p (.str (st L))), some (.p (.lst (txD (name :: rest)))), none, none, none, none] μ' (ifC ((defBody sLineIn).getD 1 (.Pass ⟨0, 0, 0, 0⟩))) false μ' := by
      refine dt_of tA ?_
      rw [Bool.and_eq_false_iff]
      by_cases z : name = wFlip ∨ name = wQuarter
      · exact .inr (decide_eq_false fun y => hA1 ⟨z, y⟩)
      · exact .inl (decide_eq_false z)
    obtain ⟨oT, hT1, hT2⟩ := line_tail (x1 := some (.p (.str (st L)))) (name := name) (rest := rest) (μ := μ') g T (by decide) cw h1 h4 hbr (by omega) (by omega)
    have turnE : decide (st name = Str.ofString "turn") = decide (name = wTurn) := decs name wTurn
    by_cases hB : name = wTurn ∧ 4 ≤ rest.length
    · obtain ⟨rfl, h4r⟩ := hB
      match rest, h4r, hbr, hlr, er, hT1, hT2, tA0, d0, lp with
      | about :: by_ :: pairs, h4r, hbr, hlr, er, hT1, hT2, tA0, d0, lp =>
        rw [if_pos rfl] at er
        have tB : DT (cxOf (L2.CX P w) P w K mg base liN "_law_line_in" (defScope sLineIn) f cdv A0 outer s0 H E) N W [some (.p (.int (n : Nat))), some (.p (.str (st L))), some (.p (.lst (txD (wTurn :: about :: by_ :: pairs)))), none, none, none, none] μ' (ifC ((defBody sLineIn).getD 2 (.Pass ⟨0, 0, 0, 0⟩))) (decide (by_ = wBy)) μ' := by
          refine dt_of (dt_w (dw_and (k := true) (k' := true && decide (by_ = wBy)) (dt_of (dt_cmp (de_ix (de_var 2) de_int (i_lst (i := ((0 : Nat) : Int)) g (atI_nat rfl))) de_str o_eqS) (by decide +kernel)) (fun _ => dw_and (k := true) (k' := decide (by_ = wBy)) (dt_of (dt_cmp (de_callB (id := "len") (da_cons (de_var 2) da_nil) (c_lenL g) T.len (by decide +kernel)) de_int o_gt) (by rw [lp]; exact decide_eq_true (by omega))) (fun _ => dw_and1 (dt_of (dt_cmp (de_ix (de_var 2) de_int (i_lst (i := ((2 : Nat) : Int)) g (atI_nat rfl))) de_str o_eqS) (decs by_ wBy)))))) ?_
          rw [Bool.true_and, Bool.true_and]
        by_cases hby : by_ = wBy
        · subst hby
          rw [rdT_form] at er
          rw [er]
          have dp : DS (cxOf (L2.CX P w) P w K mg base liN "_law_line_in" (defScope sLineIn) f cdv A0 outer s0 H E) N W [some (.p (.int (n : Nat))), some (.p (.str (st L))), some (.p (.lst (txD (wTurn :: about :: wBy :: pairs)))), none, none, none, none] μ' ((bodyIf sLineIn 2).getD 0 (.Pass ⟨0, 0, 0, 0⟩)) (.nx [some (.p (.int (n : Nat))), some (.p (.str (st L))), some (.p (.lst (txD (wTurn :: about :: wBy :: pairs)))), some (.p (wdO n about)), some (.p (optF (fmV pairs))), none, none] μ') :=
            ds_par 3 4 g (da_cons (de_call g cwd (da_cons (de_var 0) (da_cons (de_ix (de_var 2) de_int (i_lst (i := ((1 : Nat) : Int)) g (atI_nat rfl))) da_nil)) ⟨n, about, h1, h4, hbr about (by simp), rfl, rfl, rfl⟩) (da_cons (de_call g cf_ (da_cons (s := .p (.lst (txD pairs))) (de_of (d' := .lst (txD pairs)) (de_cutLf g (de_var 2) de_int) (congrArg D.lst (cutX_from _ 3))) da_nil) ⟨pairs, fun t ht => hbr t (by simp [ht]), by simp at hlr; omega, rfl, rfl, rfl⟩) da_nil))
          have tN : DT (cxOf (L2.CX P w) P w K mg base liN "_law_line_in" (defScope sLineIn) f cdv A0 outer s0 H E) N W [some (.p (.int (n : Nat))), some (.p (.str (st L))), some (.p (.lst (txD (wTurn :: about :: wBy :: pairs)))), some (.p (wdO n about)), some (.p (optF (fmV pairs))), none, none] μ' (match (bodyIf sLineIn 2).getD 1 (.Pass ⟨0, 0, 0, 0⟩) with | .Return (some (.IfExp c _ _ _)) _ => c | _ => .Constant .none 0 ⟨0, 0, 0, 0⟩) (!abB n about || !(fmV pairs).isSome) μ' :=
            dt_w (dw_or (k := !abB n about) (k' := !(fmV pairs).isSome) (dt_of (dt_cmp (de_var 3) de_non o_isN) (wdO_non _ _)) (fun _ => dw_or1 (dt_of (dt_cmp (de_var 4) de_non o_isN) (optF_non _))))
          by_cases ha : abB n about = true
          · rw [if_pos ha]
            have e1 : wdO n about = tupW (offM about) (sgM about) := if_pos ha
            cases hf : fmV pairs with
            | none =>
              rw [hf] at dp tN
              exact ⟨_, dss_cons d0 (cn (dss_skip tA0 (dss_ifT (dt_of tB (decide_eq_true rfl)) (dss_cons dp (cn (dss_ret (de_if (k := true) (dt_of tN (by rw [ha]; rfl)) (fun _ => de_non) (fun h => by cases h))))) cr))), .rt⟩
            | some fo =>
              rw [hf] at dp tN
              refine ⟨_, dss_cons d0 (cn (dss_skip tA0 (dss_ifT (dt_of tB (decide_eq_true rfl)) (dss_cons dp (cn (dss_ret (de_if (k := false) (dt_of tN (by rw [ha]; rfl)) (fun h => by cases h) (fun _ => de_of (d' := lnD (.tn (sgM about) (offM about) fo)) (de_tup (dp_cons de_str (dp_cons (de_var 3) (dp_cons (de_var 4) dp_nil))) (sz (by show 3 ≤ _; decide))) ?_))))) cr))), .rt⟩
              rw [e1]
              rfl
          · have ha : abB n about = false := by simpa using ha
            rw [if_neg (by rw [ha]; exact Bool.false_ne_true)]
            exact ⟨_, dss_cons d0 (cn (dss_skip tA0 (dss_ifT (dt_of tB (decide_eq_true rfl)) (dss_cons dp (cn (dss_ret (de_if (k := true) (dt_of tN (by rw [ha]; rfl)) (fun _ => de_non) (fun h => by cases h))))) cr))), .rt⟩
        · rw [rdT_by hby] at er
          rw [er]
          rw [thV_turn] at hT2
          exact ⟨oT, dss_cons d0 (cn (dss_skip tA0 (dss_skip (dt_of tB (decide_eq_false hby)) hT1))), hT2⟩
    · have tB0 : DT (cxOf (L2.CX P w) P w K mg base liN "_law_line_in" (defScope sLineIn) f cdv A0 outer s0 H E) N W [some (.p (.int (n : Nat))), some (.p (.str (st L))), some (.p (.lst (txD (name :: rest)))), none, none, none, none] μ' (ifC ((defBody sLineIn).getD 2 (.Pass ⟨0, 0, 0, 0⟩))) false μ' := by
        by_cases hn : name = wTurn
        · have h3 : rest.length < 4 := by
            have : ¬ 4 ≤ rest.length := fun z => hB ⟨hn, z⟩
            omega
          exact dt_of (dt_w (dw_and (k := true) (k' := false && true) (dt_of (dt_cmp (de_ix (de_var 2) de_int (i_lst (i := ((0 : Nat) : Int)) g (atI_nat rfl))) de_str o_eqS) (turnE.trans (decide_eq_true hn))) (fun _ => dw_and (k := false) (k' := true) (dt_of (dt_cmp (de_callB (id := "len") (da_cons (de_var 2) da_nil) (c_lenL g) T.len (by decide +kernel)) de_int o_gt) (by rw [lp]; exact decide_eq_false (by omega))) (fun h => by cases h)))) rfl
        · exact dt_of (dt_w (dw_and (k := false) (k' := true) (dt_of (dt_cmp (de_ix (de_var 2) de_int (i_lst (i := ((0 : Nat) : Int)) g (atI_nat rfl))) de_str o_eqS) (turnE.trans (decide_eq_false hn))) (fun h => by cases h))) rfl
      have e : rdL n L = thV n name rest := by
        rw [er]
        by_cases hn : name = wTurn
        · rw [if_pos hn, hn, thV_turn]
          refine rdT_short ?_
          have : ¬ 4 ≤ rest.length := fun z => hB ⟨hn, z⟩
          omega
        · rw [if_neg hn]
          by_cases hq : name = wFlip ∨ name = wQuarter
          · rw [if_pos hq, thV_ab hq]
            match rest, hA1 with
            | [], _ => rfl
            | [t], hA1 => exact absurd ⟨hq, rfl⟩ hA1
            | a :: b :: r, _ => rfl
          · rw [if_neg hq]
      rw [e]
      exact ⟨oT, dss_cons d0 (cn (dss_skip tA0 (dss_skip tB0 hT1))), hT2⟩
end
end K20
set_option Elab.async false
set_option linter.all false
set_option maxRecDepth 100000
set_option maxHeartbeats 4000000
set_option autoImplicit false
namespace K20
open PySem PySem.Spec PyProof.Rows L2 Dl Cq
/-! ### the number of the first line that no circuit has -/
abbrev fbN : List Str := ["text", "rows", "turns", "at", "row", "line"]
theorem scFirstBad : FnScope fbN ["text"] (defScope sFirstBad) := ⟨rfl, rfl, rfl, by decide +kernel, rfl, by decide +kernel, by decide +kernel⟩
def idxE {α : Type} : Nat → List α → List (Nat × α)
  | _, [] => []
  | k, a :: l => (k, a) :: idxE (k + 1) l
theorem idxE_enum {α : Type} (q : α → D) : ∀ (l : List α) (k : Nat), enumD k (l.map q) = (idxE k l).map fun p => .tup [inD p.1, q p.2]
  | [], _ => rfl
  | a :: l, k => by
    show _ :: enumD (k + 1) (l.map q) = _
    rw [idxE_enum q l]
    rfl
theorem idxE_mem {α : Type} : ∀ {l : List α} {k : Nat} {p : Nat × α}, p ∈ idxE k l → p.2 ∈ l ∧ p.1 < k + l.length
  | [], _, _, h => by cases h
  | a :: l, k, p, h => by
    rcases List.mem_cons.mp h with rfl | h
    · exact ⟨List.mem_cons_self, by show k < _; rw [List.length_cons]; omega⟩
    · obtain ⟨a1, a2⟩ := idxE_mem h
      exact ⟨List.mem_cons_of_mem _ a1, by rw [List.length_cons]; omega⟩
def turnN (l : Ln) : Nat := if isT l then 1 else 0
def fbBad (w : Nat) (t : Nat) (p : Nat × List Nat) : Bool := match rdL w p.2 with
  | none => true
  | some s => decide (p.1 = 40) || decide (6 < t + turnN s)
def fbNx (w : Nat) (p : Nat × List Nat) (t : Nat) : Nat := match rdL w p.2 with
  | none => t
  | some s => t + turnN s
def fbV (L : List Nat) : Nat := match rdC L with
  | .inl k => k
  | .inr _ => 0
theorem rdS_all (w : Nat) : ∀ (lines : List (List Nat)) (k t : Nat) (done : List Ln),
    (okAllG (fbBad w) (fbNx w) t (idxE k lines) = true → ∃ ls, rdS w k t lines done = .inr ls) ∧
    (∀ l1 a l2, idxE k lines = l1 ++ a :: l2 → okAllG (fbBad w) (fbNx w) t l1 = true → fbBad w (l1.foldl (fun t a => fbNx w a t) t) a = true → rdS w k t lines done = .inl (a.1 + 2))
  | [], k, t, done => ⟨fun _ => ⟨done, rfl⟩, fun l1 a l2 e _ _ => by
      have e : ([] : List (Nat × List Nat)) = l1 ++ a :: l2 := e
      simp at e⟩
  | l :: lines, k, t, done => by
    cases hr : rdL w l with
    | none =>
      have hb : fbBad w t (k, l) = true := by unfold fbBad; rw [hr]
      have e : rdS w k t (l :: lines) done = .inl (k + 2) := by unfold rdS; rw [hr]
      refine ⟨fun h => ?_, fun l1 a l2 e1 h1 h2 => ?_⟩
      · unfold idxE okAllG at h
        rw [hb] at h
        cases h
      · cases l1 with
        | nil =>
          injection e1 with e1 _
          rw [e, ← e1]
        | cons b l1 =>
          injection e1 with e1 _
          unfold okAllG at h1
          rw [← e1, hb] at h1
          cases h1
    | some s =>
      have hb : fbBad w t (k, l) = (decide (k = 40) || decide (6 < t + turnN s)) := by unfold fbBad; rw [hr]
      have hx : fbNx w (k, l) t = t + turnN s := by unfold fbNx; rw [hr]
      have e : rdS w k t (l :: lines) done = if 6 < t + turnN s ∨ k = 40 then .inl (k + 2) else rdS w (k + 1) (t + turnN s) lines (done ++ [s]) := by
        conv => lhs; unfold rdS
        rw [hr]
        rfl
      obtain ⟨i1, i2⟩ := rdS_all w lines (k + 1) (t + turnN s) (done ++ [s])
      by_cases hc : 6 < t + turnN s ∨ k = 40
      · have hb1 : fbBad w t (k, l) = true := by
          rw [hb, Bool.or_eq_true, decide_eq_true_eq, decide_eq_true_eq]
          exact hc.symm
        rw [if_pos hc] at e
        refine ⟨fun h => ?_, fun l1 a l2 e1 h1 h2 => ?_⟩
        · unfold idxE okAllG at h
          rw [hb1] at h
          cases h
        · cases l1 with
          | nil =>
            injection e1 with e1 _
            rw [e, ← e1]
          | cons b l1 =>
            injection e1 with e1 _
            unfold okAllG at h1
            rw [← e1, hb1] at h1
            cases h1
      · have hb0 : fbBad w t (k, l) = false := by
          rw [hb, Bool.or_eq_false_iff, decide_eq_false_iff_not, decide_eq_false_iff_not]
          exact ⟨fun z => hc (.inr z), fun z => hc (.inl z)⟩
        rw [if_neg hc] at e
        refine ⟨fun h => ?_, fun l1 a l2 e1 h1 h2 => ?_⟩
        · unfold idxE okAllG at h
          rw [hb0, hx] at h
          rw [e]
          exact i1 h
        · cases l1 with
          | nil =>
            injection e1 with e1 _
            have h2 : fbBad w t a = true := h2
            rw [← e1, hb0] at h2
            cases h2
          | cons b l1 =>
            injection e1 with e1 e2
            unfold okAllG at h1
            rw [← e1, hb0, hx] at h1
            rw [List.foldl_cons, ← e1, hx] at h2
            rw [e]
            exact i2 l1 a l2 e2 h1 h2
def Gx (L : List Nat) : Prop := L.length ≤ 5000 ∧ ∀ l ∈ TL.spl [10] 0 [] L, l.length ≤ 640
def rFirstBad : Rel := fun ss μ r μ' => ∃ L, Gx L ∧ ss = [.p (.str (st L))] ∧ r = .v (.p (.int ((fbV L : Nat) : Int))) ∧ μ' = μ
theorem szV_is {first : List Nat} {w : Nat} (h : szV first = some w) : 1 ≤ w ∧ w ≤ 4 ∧ first = Cq.wT w := by
  unfold szV at h
  have h1 := List.mem_of_find?_eq_some h
  have h2 := List.find?_some (p := fun w => decide (Cq.wT w = first)) h
  simp only [List.mem_cons, List.not_mem_nil, or_false] at h1
  refine ⟨by omega, by omega, (of_decide_eq_true h2).symm⟩
theorem sz_in (first : List Nat) : decide (st first ∈ ([st (Cq.wT 1), st (Cq.wT 2), st (Cq.wT 3), st (Cq.wT 4)] : List Str)) = (szV first).isSome := by
  unfold szV
  rw [Bool.eq_iff_iff, decide_eq_true_eq]
  simp only [List.mem_cons, List.not_mem_nil, or_false, st_inj]
  constructor
  · intro h
    rw [List.find?_isSome]
    rcases h with h | h | h | h
    · exact ⟨1, by simp, decide_eq_true h.symm⟩
    · exact ⟨2, by simp, decide_eq_true h.symm⟩
    · exact ⟨3, by simp, decide_eq_true h.symm⟩
    · exact ⟨4, by simp, decide_eq_true h.symm⟩
  · intro h
    rw [List.find?_isSome] at h
    obtain ⟨w, hw, e⟩ := h
    have e := of_decide_eq_true e
    simp only [List.mem_cons, List.not_mem_nil, or_false] at hw
    rcases hw with rfl | rfl | rfl | rfl
    · exact .inl e.symm
    · exact .inr (.inl e.symm)
    · exact .inr (.inr (.inl e.symm))
    · exact .inr (.inr (.inr e.symm))
theorem wT_cut : ∀ w : Fin 4, Txt.slice (st (Cq.wT (w.val + 1))) (some 6) none = st [49 + w.val] ∧ intText? (st [49 + w.val]) = some ((w.val + 1 : Nat) : Int) := by decide +kernel
section
variable {P : Program} {w : World} {K : PySem.W.Frag} {mg : Str → Option Value} {base : Heap} {f : Addr} {fd : FuncData}
theorem ok_firstbad (F : Fun K "_law_first_bad" "_law_first_bad" sFirstBad f fd) (T : TM mg) (cl_ : Cf P w K mg base 3 "_law_line_in" [] rLLine) : FnOk P w K mg base (L2.CX P w) 4 f fd ["text"] (spD K rFirstBad) := by
  refine fn_D (k := 3) F scFirstBad (fun ss μ r μ' h => by obtain ⟨_, _, rfl, _⟩ := h; rfl) ?_
  intro cdv A0 outer s0 H E N W ss μ r μ' g hA hR
  obtain ⟨L, ⟨hb, hlines⟩, rfl, rfl, rfl⟩ := hR
  have hz : (st L).length + 2 ≤ sizeLine := by rw [st_len]; exact sz (by omega)
  have hs := split_nl L
  obtain ⟨l1, l2⟩ := spl_len 10 L []
  match hw : TL.spl [10] 0 [] L with
  | [] => exact absurd hw (spl_ne 10 L [])
  | first :: lines =>
    rw [hw] at hs l1 l2 hlines
    have hll : lines.length ≤ 5000 := by rw [List.length_cons] at l2; omega
    have d0 : DS (cxOf (L2.CX P w) P w K mg base fbN "_law_first_bad" (defScope sFirstBad) f cdv A0 outer s0 H E) N W (starts fbN [.p (.str (st L))]) μ' ((defBody sFirstBad).getD 0 (.Pass ⟨0, 0, 0, 0⟩)) (.nx [some (.p (.str (st L))), some (.p (.lst (txD (first :: lines)))), some (.p (.int 0)), none, none, none] μ') :=
      ds_par 1 2 g (da_cons (s := .p (.lst (txD (first :: lines)))) (de_of (d' := .lst (txD (first :: lines))) (de_bm PySem.F.plainAttrs_str PySem.F.slot_str_split PySem.F.type_str_split (de_var 0) (da_cons de_str da_nil) (m_split (by decide) hz)) (congrArg D.lst hs)) (da_cons de_int da_nil))
    have t1 : DT (cxOf (L2.CX P w) P w K mg base fbN "_law_first_bad" (defScope sFirstBad) f cdv A0 outer s0 H E) N W [some (.p (.str (st L))), some (.p (.lst (txD (first :: lines)))), some (.p (.int 0)), none, none, none] μ' (ifC ((defBody sFirstBad).getD 1 (.Pass ⟨0, 0, 0, 0⟩))) (!(szV first).isSome) μ' :=
      dt_of (dt_cmp (de_ix (de_var 1) de_int (i_lst (i := ((0 : Nat) : Int)) g (atI_nat rfl))) (de_tup (ds := ([st (Cq.wT 1), st (Cq.wT 2), st (Cq.wT 3), st (Cq.wT 4)] : List Str).map D.str) (dp_cons de_str (dp_cons de_str (dp_cons de_str (dp_cons de_str dp_nil)))) (sz (by show 4 ≤ 100000; decide))) (o_notInStrT g)) (congrArg not (sz_in first))
    cases hsz : szV first with
    | none =>
      have e : fbV L = 1 := by
        unfold fbV rdC
        rw [hw]
        simp only
        rw [hsz]
      rw [e]
      exact ⟨_, dss_cons d0 (cn (dss_ifT (dt_of t1 (by rw [hsz]; rfl)) (dss_ret de_int) cr)), .rt⟩
    | some n =>
      obtain ⟨h1, h4, rfl⟩ := szV_is hsz
      have hcut := wT_cut ⟨n - 1, by omega⟩
      have hcut : Txt.slice (st (Cq.wT n)) (some 6) none = st [48 + n] ∧ intText? (st [48 + n]) = some ((n : Nat) : Int) := by
        rw [show (n - 1) + 1 = n by omega, show 49 + (n - 1) = 48 + n by omega] at hcut
        exact hcut
      have eC : rdC L = match rdS n 0 0 lines [] with
        | .inl k => .inl k
        | .inr ls => .inr (n, ls) := by
        unfold rdC
        rw [hw]
        simp only
        first
          | (rw [hsz]; rfl)
          | rw [hsz]
      have hone : ∀ p ∈ idxE 0 lines, ∀ (k t : Nat) (δ : List (Option S)), (∃ x3 x4 x5, δ = [some (.p (.str (st L))), some (.p (.lst (txD (Cq.wT n :: lines)))), some (.p (.int ((t : Nat) : Int))), x3, x4, x5]) → True → ∃ δt, asTup [asName 3, asName 4] (D.tup [inD p.1, .str (st p.2)]) δ = some δt ∧ ((fbBad n t p = false ∧ True ∧ ∃ δ1, DSs (cxOf (L2.CX P w) P w K mg base fbN "_law_first_bad" (defScope sFirstBad) f cdv A0 outer s0 H E) N W δt μ' (match (defBody sFirstBad).getD 2 (.Pass ⟨0, 0, 0, 0⟩) with | .For _ _ b _ _ => b | _ => []) (.nx δ1 μ') ∧ (∃ x3 x4 x5, δ1 = [some (.p (.str (st L))), some (.p (.lst (txD (Cq.wT n :: lines)))), some (.p (.int ((fbNx n p t : Nat) : Int))), x3, x4, x5])) ∨ (fbBad n t p = true ∧ DSs (cxOf (L2.CX P w) P w K mg base fbN "_law_first_bad" (defScope sFirstBad) f cdv A0 outer s0 H E) N W δt μ' (match (defBody sFirstBad).getD 2 (.Pass ⟨0, 0, 0, 0⟩) with | .For _ _ b _ _ => b | _ => []) (.rt (.p (.int ((p.1 + 2 : Nat) : Int))) μ'))) := by
        rintro ⟨i, row⟩ hp k t _ ⟨x3, x4, x5, rfl⟩ _
        obtain ⟨hm, hi⟩ := idxE_mem hp
        have hrow : Lt row := hlines row (List.mem_cons_of_mem _ hm)
        have dl : DS (cxOf (L2.CX P w) P w K mg base fbN "_law_first_bad" (defScope sFirstBad) f cdv A0 outer s0 H E) N W [some (.p (.str (st L))), some (.p (.lst (txD (Cq.wT n :: lines)))), some (.p (.int ((t : Nat) : Int))), some (.p (inD i)), some (.p (.str (st row))), x5] μ' ((match (defBody sFirstBad).getD 2 (.Pass ⟨0, 0, 0, 0⟩) with | .For _ _ b _ _ => b | _ => []).getD 0 (.Pass ⟨0, 0, 0, 0⟩)) (.nx [some (.p (.str (st L))), some (.p (.lst (txD (Cq.wT n :: lines)))), some (.p (.int ((t : Nat) : Int))), some (.p (inD i)), some (.p (.str (st row))), some (.p (optL (rdL n row)))] μ') :=
          ds_set 5 (de_call g cl_ (da_cons (s := .p (.int ((n : Nat) : Int))) (de_callT (T := "int") (da_cons (s := .p (.str (st [48 + n]))) (de_of (d' := .str (st [48 + n])) (de_cutFrom (de_ix (de_var 1) de_int (i_lst (i := ((0 : Nat) : Int)) g (atI_nat rfl))) de_int (by rw [st_len]; have := hlines (Cq.wT n) List.mem_cons_self; exact sz (by omega))) (congrArg D.str hcut.1)) da_nil) (c_intT hcut.2 (by rw [st_len]; show 1 ≤ 640; decide)) T.int (by decide +kernel)) (da_cons (de_var 4) da_nil)) ⟨n, row, h1, h4, hrow, rfl, rfl, rfl⟩) g.nd
        have nt : ∀ (D5 : D), True := fun _ => trivial
        refine ⟨_, rfl, ?_⟩
        cases hr : rdL n row with
        | none =>
          have hb : fbBad n t (i, row) = true := by unfold fbBad; rw [hr]
          rw [hr] at dl
          refine .inr ⟨hb, dss_cons dl (cn (dss_cons (ds_set 2 (de_bin (de_var 2) (de_callT (T := "int") (da_cons (s := .p (.bl false)) (de_and (k := false) (k' := true) (de_cmp (de_var 5) de_non o_notN) (fun h => by cases h)) da_nil) c_intB T.int (by decide +kernel)) o_add) g.nd) (cn (dss_ifT (dt_of (dt_w (dw_or (k := true) (k' := true) (dt_cmp (de_var 5) de_non o_isN) (fun h => by cases h))) rfl) (dss_ret (de_of (d' := .int ((i + 2 : Nat) : Int)) (de_bin (de_var 3) de_int o_add) (congrArg D.int (by show ((i : Nat) : Int) + 2 = _; omega)))) cr))))⟩
        | some l =>
          have hbd : fbBad n t (i, row) = (decide (i = 40) || decide (6 < t + turnN l)) := by unfold fbBad; rw [hr]
          have hnx : fbNx n (i, row) t = t + turnN l := by unfold fbNx; rw [hr]
          rw [hr] at dl
          have dt_ : DS (cxOf (L2.CX P w) P w K mg base fbN "_law_first_bad" (defScope sFirstBad) f cdv A0 outer s0 H E) N W [some (.p (.str (st L))), some (.p (.lst (txD (Cq.wT n :: lines)))), some (.p (.int ((t : Nat) : Int))), some (.p (inD i)), some (.p (.str (st row))), some (.p (lnD l))] μ' ((match (defBody sFirstBad).getD 2 (.Pass ⟨0, 0, 0, 0⟩) with | .For _ _ b _ _ => b | _ => []).getD 1 (.Pass ⟨0, 0, 0, 0⟩)) (.nx [some (.p (.str (st L))), some (.p (.lst (txD (Cq.wT n :: lines)))), some (.p (.int ((t + turnN l : Nat) : Int))), some (.p (inD i)), some (.p (.str (st row))), some (.p (lnD l))] μ') := by
            have da : DE (cxOf (L2.CX P w) P w K mg base fbN "_law_first_bad" (defScope sFirstBad) f cdv A0 outer s0 H E) N W [some (.p (.str (st L))), some (.p (.lst (txD (Cq.wT n :: lines)))), some (.p (.int ((t : Nat) : Int))), some (.p (inD i)), some (.p (.str (st row))), some (.p (lnD l))] μ' (match (match (defBody sFirstBad).getD 2 (.Pass ⟨0, 0, 0, 0⟩) with | .For _ _ b _ _ => b | _ => []).getD 1 (.Pass ⟨0, 0, 0, 0⟩) with | .Assign _ (.BinOp _ _ (.Call _ [a] _ _) _) _ => a | _ => .Constant .none 0 ⟨0, 0, 0, 0⟩) (.v (.p (.bl (isT l)))) μ' := by
              cases l with
              | ab q s A => exact de_of (d' := .bl false) (de_and (k := true) (k' := false) (de_cmp (de_var 5) de_non o_notN) (fun _ => de_one (de_of (d' := .bl false) (de_cmp (de_ix (de_var 5) de_int (i_tup (i := 0) g rfl)) de_str o_eqS) (by cases q <;> exact congrArg D.bl (by decide +kernel))))) rfl
              | h a => exact de_of (d' := .bl false) (de_and (k := true) (k' := false) (de_cmp (de_var 5) de_non o_notN) (fun _ => de_one (de_of (d' := .bl false) (de_cmp (de_ix (de_var 5) de_int (i_tup (i := 0) g rfl)) de_str o_eqS) (congrArg D.bl (by decide +kernel))))) rfl
              | pr kk a b => exact de_of (d' := .bl false) (de_and (k := true) (k' := false) (de_cmp (de_var 5) de_non o_notN) (fun _ => de_one (de_of (d' := .bl false) (de_cmp (de_ix (de_var 5) de_int (i_tup (i := 0) g rfl)) de_str o_eqS) (congrArg D.bl ((decs (pn kk) wTurn).trans (decide_eq_false (by unfold pn; split; decide; split <;> decide))))))) rfl
              | tn s A ps => exact de_of (d' := .bl true) (de_and (k := true) (k' := true) (de_cmp (de_var 5) de_non o_notN) (fun _ => de_one (de_of (d' := .bl true) (de_cmp (de_ix (de_var 5) de_int (i_tup (i := 0) g rfl)) de_str o_eqS) (congrArg D.bl (by decide +kernel))))) rfl
            refine ds_set 2 (de_of (d' := .int ((t + turnN l : Nat) : Int)) (de_bin (de_var 2) (de_callT (T := "int") (da_cons da da_nil) c_intB T.int (by decide +kernel)) o_add) (congrArg D.int ?_)) g.nd
            unfold turnN
            cases isT l <;> rfl
          have tt : DT (cxOf (L2.CX P w) P w K mg base fbN "_law_first_bad" (defScope sFirstBad) f cdv A0 outer s0 H E) N W [some (.p (.str (st L))), some (.p (.lst (txD (Cq.wT n :: lines)))), some (.p (.int ((t + turnN l : Nat) : Int))), some (.p (inD i)), some (.p (.str (st row))), some (.p (lnD l))] μ' (ifC ((match (defBody sFirstBad).getD 2 (.Pass ⟨0, 0, 0, 0⟩) with | .For _ _ b _ _ => b | _ => []).getD 2 (.Pass ⟨0, 0, 0, 0⟩))) (decide (i = 40) || decide (6 < t + turnN l)) μ' :=
            dt_of (dt_w (dw_or (k := false) (k' := decide (i = 40) || decide (6 < t + turnN l)) (dt_of (dt_cmp (de_var 5) de_non o_isN) (by cases l <;> rfl)) (fun _ => dw_or (k := decide (i = 40)) (k' := decide (6 < t + turnN l)) (dt_of (dt_cmp (de_var 3) de_int o_eqI) (decide_eq_decide.mpr (by omega))) (fun _ => dw_or1 (dt_of (dt_cmp (de_var 2) de_int o_gt) (decide_eq_decide.mpr (by omega))))))) rfl
          cases hq : decide (i = 40) || decide (6 < t + turnN l) with
          | true => exact .inr ⟨hbd.trans hq, dss_cons dl (cn (dss_cons dt_ (cn (dss_ifT (dt_of tt hq) (dss_ret (de_of (d' := .int ((i + 2 : Nat) : Int)) (de_bin (de_var 3) de_int o_add) (congrArg D.int (by show ((i : Nat) : Int) + 2 = _; omega)))) cr))))⟩
          | false =>
            refine .inl ⟨hbd.trans hq, trivial, _, dss_cons dl (cn (dss_cons dt_ (cn (dss_skip (dt_of tt hq) dss_nil)))), some (.p (inD i)), some (.p (.str (st row))), some (.p (lnD l)), by rw [hnx]⟩
      have hdi : DI (cxOf (L2.CX P w) P w K mg base fbN "_law_first_bad" (defScope sFirstBad) f cdv A0 outer s0 H E) N W [some (.p (.str (st L))), some (.p (.lst (txD (Cq.wT n :: lines)))), some (.p (.int 0)), none, none, none] μ' (match (defBody sFirstBad).getD 2 (.Pass ⟨0, 0, 0, 0⟩) with | .For t _ _ _ _ => t | _ => .Constant .none 0 ⟨0, 0, 0, 0⟩) (match (defBody sFirstBad).getD 2 (.Pass ⟨0, 0, 0, 0⟩) with | .For _ t _ _ _ => t | _ => .Constant .none 0 ⟨0, 0, 0, 0⟩) ((idxE 0 lines).map fun p => D.tup [inD p.1, .str (st p.2)]) μ' :=
        di_of (di_enum g (da_cons (s := .p (.lst (lines.map fun t => D.str (st t)))) (de_of (d' := .lst (lines.map fun t => D.str (st t))) (de_cutLf g (de_var 1) de_int) (congrArg D.lst (cutX_from _ 1))) da_nil) T.enum) (idxE_enum _ _ _)
      obtain ⟨i1, i2⟩ := rdS_all n lines 0 0 []
      rcases loop_noG (X := (cxOf (L2.CX P w) P w K mg base fbN "_law_first_bad" (defScope sFirstBad) f cdv A0 outer s0 H E)) (N := N) (W := W) (f := asTup [asName 3, asName 4]) (body := match (defBody sFirstBad).getD 2 (.Pass ⟨0, 0, 0, 0⟩) with | .For _ _ b _ _ => b | _ => []) (T := Nat) (mu := fun _ => μ') (bad := fbBad n) (nx := fbNx n) (gd := fun p : Nat × List Nat => D.tup [inD p.1, .str (st p.2)]) (s := fun _ p => .p (.int ((p.1 + 2 : Nat) : Int)))
        (fun _ _ => True) (fun t δ => ∃ x3 x4 x5, δ = [some (.p (.str (st L))), some (.p (.lst (txD (Cq.wT n :: lines)))), some (.p (.int ((t : Nat) : Int))), x3, x4, x5]) (idxE 0 lines) [some (.p (.str (st L))), some (.p (.lst (txD (Cq.wT n :: lines)))), some (.p (.int 0)), none, none, none] 0 hone ⟨none, none, none, rfl⟩ trivial with ⟨q1, δ', hlo, ⟨x3, x4, x5, rfl⟩⟩ | ⟨q1, k1, a, k2, e, q0, qb, hlo⟩
      · obtain ⟨ls, el⟩ := i1 q1
        have ef : fbV L = 0 := by
          unfold fbV
          rw [eC, el]
        rw [ef]
        exact ⟨_, dss_cons d0 (cn (dss_skip (dt_of t1 (by rw [hsz]; rfl)) (dss_cons (ds_for g hdi (dg_tup (dgs_cons (dg_name 3 g.nd) (dgs_cons (dg_name 4 g.nd) dgs_nil)) g.hK g.calm) hlo) (cn (dss_ret de_int))))), .rt⟩
      · have el := i2 k1 a k2 e q0 qb
        have ef : fbV L = a.1 + 2 := by
          unfold fbV
          rw [eC, el]
        rw [ef]
        exact ⟨_, dss_cons d0 (cn (dss_skip (dt_of t1 (by rw [hsz]; rfl)) (dss_cons (ds_for g hdi (dg_tup (dgs_cons (dg_name 3 g.nd) (dgs_cons (dg_name 4 g.nd) dgs_nil)) g.hK g.calm) hlo) cr))), .rt⟩
end
end K20
set_option Elab.async false
set_option linter.all false
set_option maxRecDepth 100000
set_option maxHeartbeats 4000000
set_option autoImplicit false
namespace Dl
open PySem PySem.Spec PyProof.Rows L2
/-! ## data whose repr is short, from its parts -/
structure RS (k n : Nat) (d : D) : Prop where
  ip : isPy d = true
  sh : (py d).showable = true
  dp : (py d).depth ≤ k
  lv : (py d).leavesShort 20 = true
  wt : (py d).weight ≤ n
structure RSs (k n : Nat) (ds : List D) : Prop where
  ip : arePy ds = true
  sh : PyData.showableAll (pyAll ds) = true
  dp : PyData.depthAll (pyAll ds) ≤ k
  lv : PyData.leavesShortAll 20 (pyAll ds) = true
  wt : PyData.weightAll (pyAll ds) ≤ n
theorem RSs.nil {k n : Nat} : RSs k n [] := ⟨rfl, rfl, Nat.zero_le _, rfl, Nat.zero_le _⟩
theorem RSs.cons {k a b n : Nat} {d : D} {ds : List D} (h : RS k a d) (hs : RSs k b ds) (hn : a + 1 + b ≤ n := by omega) : RSs k n (d :: ds) := by
  refine ⟨?_, ?_, ?_, ?_, ?_⟩
  · simp only [arePy, h.ip, hs.ip]; rfl
  · simp only [pyAll, PyData.showableAll, h.sh, hs.sh]; rfl
  · simp only [pyAll, PyData.depthAll]
    exact Nat.max_le.mpr ⟨h.dp, hs.dp⟩
  · simp only [pyAll, PyData.leavesShortAll, h.lv, hs.lv]; rfl
  · simp only [pyAll, PyData.weightAll]
    have := h.wt
    have := hs.wt
    omega
theorem RSs.map {α : Type} {f : α → D} {k b : Nat} : ∀ {l : List α}, (∀ a ∈ l, RS k b (f a)) → RSs k ((b + 1) * l.length) (l.map f)
  | [], _ => .nil
  | a :: l, h => .cons (h a (by simp)) (RSs.map (l := l) fun x hx => h x (by simp [hx])) (by rw [List.length_cons, Nat.mul_add]; omega)
theorem RSs.mono {k n m : Nat} {ds : List D} (h : RSs k n ds) (q : n ≤ m) : RSs k m ds := ⟨h.ip, h.sh, h.dp, h.lv, Nat.le_trans h.wt q⟩
theorem RS.mono {k j n m : Nat} {d : D} (h : RS k n d) (q : n ≤ m) (p : k ≤ j) : RS j m d := ⟨h.ip, h.sh, Nat.le_trans h.dp p, h.lv, Nat.le_trans h.wt q⟩
theorem RS.tup {k n : Nat} {ds : List D} (h : RSs k n ds) : RS (k + 1) n (.tup ds) := by
  refine ⟨?_, ?_, ?_, ?_, ?_⟩
  · simp only [isPy, h.ip]
  · simp only [py, PyData.showable, h.sh]
  · simp only [py, PyData.depth]
    have := h.dp
    omega
  · simp only [py, PyData.leavesShort, h.lv]
  · simp only [py, PyData.weight]
    exact h.wt
theorem RS.lst {k n : Nat} {ds : List D} (h : RSs k n ds) : RS (k + 1) n (.lst ds) := by
  refine ⟨?_, ?_, ?_, ?_, ?_⟩
  · simp only [isPy, h.ip]
  · simp only [py, PyData.showable, h.sh]
  · simp only [py, PyData.depth]
    have := h.dp
    omega
  · simp only [py, PyData.leavesShort, h.lv]
  · simp only [py, PyData.weight]
    exact h.wt
theorem RS.str {k : Nat} {L : List Nat} (h : ∀ c ∈ L, c < 1000) : RS k L.length (.str (st L)) := by
  refine ⟨rfl, by simp only [py, PyData.showable], by simp only [py, PyData.depth]; omega, ?_, ?_⟩
  · simp only [py, PyData.leavesShort, Dl.st, List.all_eq_true, decide_eq_true_eq]
    intro c hc
    have := h c (by simpa using hc)
    have e : (16 : Nat) ^ 8 = 4294967296 := by decide
    omega
  · simp [py, PyData.weight, Dl.st]
end Dl
set_option Elab.async false
set_option linter.all false
set_option maxRecDepth 100000
set_option maxHeartbeats 4000000
set_option autoImplicit false
namespace Dl
open PySem PySem.Spec PyProof.Rows L2
/-! ## an own error made as a value: X(e) -/
end Dl
set_option Elab.async false
set_option linter.all false
set_option maxRecDepth 100000
set_option maxHeartbeats 4000000
set_option autoImplicit false
namespace K20
open PySem PySem.Spec PyProof.Rows L2 Dl Cq
/-! ### texts are judged as the law reads them -/
theorem scHeard : FnScope ["call", "caught", "back", "error"] ["call"] (defScope sHeard) := ⟨rfl, rfl, rfl, by decide +kernel, rfl, by decide +kernel, by decide +kernel⟩
abbrev jdN : List Str := ["text", "number", "caught", "made"]
theorem scJudged : FnScope jdN ["text"] (defScope sJudged) := ⟨rfl, rfl, rfl, by decide +kernel, rfl, by decide +kernel, by decide +kernel⟩
def qJ : Str := "_law_is_judged" ++ ".<locals>." ++ "<lambda>"
abbrev lX (C' : Rx) : Lr := fun μ r μ' => r = C' ∧ μ' = μ
def rReadCN (K : PySem.W.Frag) (CB : Addr) : Rel := fun ss μ r μ' => ∃ (d : D) (t : Value), TyI K d t ∧ PySem.W.kitOne K t (.type "str") = some false ∧ ss = [.p d] ∧ r = .x CB (.int 0) ∧ μ' = μ
def rCInitN (K : PySem.W.Frag) (CC CB : Addr) : Rel := fun ss μ r μ' => ∃ (j : Nat) (d : D) (t : Value), TyI K d t ∧ PySem.W.kitOne K t (.type "str") = some false ∧ ss = [.l j, .p d] ∧ μ[j]? = some (.obj CC [] []) ∧ r = .x CB (.int 0) ∧ μ' = μ
abbrev rCI (K : PySem.W.Frag) (CC CB : Addr) : Rel := relOr (rCInit CC) (relOr (rCInitB CC CB) (rCInitN K CC CB))
theorem c_reprI {X : Cx} {N : En} {W : WX} {μ : List M} {i : Int} (hi : i.natAbs.log2 < 1920) : CallOk X N W (.builtin "repr") μ [.p (.int i)] (.v (.p (.str (toString i)))) μ :=
  ⟨_, SkE.call_repr_int, fun σ δ F A H vs Q R rv k => by
    cases rv with
    | cons r1 rv =>
      cases rv
      cases rs_int r1
      exact ⟨i, rfl, hi, k.here R (.str _)⟩⟩
theorem rdS_bound (w : Nat) : ∀ (lines : List (List Nat)) (k t : Nat) (done : List Ln) (m : Nat), k ≤ 40 → rdS w k t lines done = .inl m → 2 ≤ m ∧ m ≤ 42
  | [], _, _, _, _, _, h => by cases h
  | l :: lines, k, t, done, m, hk, h => by
    cases hr : rdL w l with
    | none =>
      have e : rdS w k t (l :: lines) done = .inl (k + 2) := by unfold rdS; rw [hr]
      rw [e] at h
      cases h
      omega
    | some s =>
      have e : rdS w k t (l :: lines) done = if 6 < t + (if isT s then 1 else 0) ∨ k = 40 then .inl (k + 2) else rdS w (k + 1) (t + (if isT s then 1 else 0)) lines (done ++ [s]) := by
        conv => lhs; unfold rdS
        rw [hr]
      rw [e] at h
      by_cases hc : 6 < t + (if isT s then 1 else 0) ∨ k = 40
      · rw [if_pos hc] at h
        cases h
        omega
      · rw [if_neg hc] at h
        exact rdS_bound w lines (k + 1) _ _ m (by omega) h
theorem rdC_bound {L : List Nat} {m : Nat} (h : rdC L = .inl m) : 1 ≤ m ∧ m ≤ 42 := by
  unfold rdC at h
  match hw : TL.spl [10] 0 [] L with
  | [] => exact absurd hw (spl_ne 10 L [])
  | first :: lines =>
    rw [hw] at h
    simp only at h
    cases hs : szV first with
    | none =>
      rw [hs] at h
      simp only at h
      cases h
      omega
    | some n =>
      rw [hs] at h
      simp only at h
      cases hr : rdS n 0 0 lines [] with
      | inl k =>
        rw [hr] at h
        simp only at h
        cases h
        have := rdS_bound n lines 0 0 [] _ (by decide) hr
        omega
      | inr ls =>
        rw [hr] at h
        cases h
theorem log_small {m : Nat} (h : m ≤ 42) : (((m : Nat) : Int)).natAbs.log2 < 1920 := by
  show m.log2 < 1920
  have : ∀ k : Fin 43, k.val.log2 < 1920 := by decide +kernel
  exact this ⟨m, by omega⟩
structure VB (P : Program) (w : World) (K : PySem.W.Frag) (mg : Str → Option Value) (base : Heap) (CC CB CK : Addr) : Prop where
  T : TM mg
  ci : Ci P w K mg base 7 CC "Circuit" [] (rCI K CC CB)
  ctext : Cp P w K mg base 1 CC "text" (rCText CC)
  fb : Cf P w K mg base 4 "_law_first_bad" [] rFirstBad
  heard : Cl P w K mg base false 13 12 "_law_heard" (rHear K CK)
  xB : XC K CB
  gB : mg "BadCircuit" = some (.ref CB)
  eB : PySem.W.exmOne K (.ref CB) (.ref CK) = some true
def rJudged (i : Nat) (PT : Addr) : Rel := fun ss μ r μ' => ∃ L : List Nat, Gx L ∧ ss = [.p (.str (st L))] ∧ μ[i]? = some (.tab PT qJ) ∧ r = .v (.p (.bl true)) ∧ μ' = μ
section
variable {P : Program} {w : World} {K : PySem.W.Frag} {mg : Str → Option Value} {base : Heap} {f C CK CC CB : Addr} {fd : FuncData}
theorem ok_heard {j : Nat} (F : Fun K "_law_heard" "_law_heard" sHeard f fd) (hme : mg "KnobError" = some (.ref CK)) : FnL P w K mg base false (j + 1) j f fd ["call"] (rHear K CK) := by
  obtain ⟨oc, od, kV, doc, pm, an, cdv, ct, osl, rfl, lk, hcd⟩ := F.ex
  refine ⟨fun L ss μ r μ' h => by obtain ⟨rfl, _⟩ := h; rfl, fun L A outer s H args us vs Q E fl F0 A0 ss μ r μ' _ hr e0 hb hv hR rc rv c0 hq => ?_⟩
  obtain ⟨rfl, r0, res, hL, hh, rfl⟩ := hR
  cases rv
  cases hv
  have nd := scHeard.nd
  have run : codeAny (model P w) A (.call (.ref f) args) (CR C8.CX0 outer P w H s Q C8.E0) s := by
    refine LamX.run_ofS (us := [.ref fl]) (vs := [.ref fl]) (N := ["call", "caught", "back", "error"]) (ps := ["call"]) lk hcd scHeard hr e0 hb (.cons rfl .nil) rfl fun hr1 => ?_
    have c1 := c0 μ r0 μ' hL
    let Z : Cx := cxOf C8.CX0 P w K mg base ["call", "caught", "back", "error"] "_law_heard" (defScope sHeard) f cdv A outer s H C8.E0
    have act : ∀ (W : WX) (pn : List (Addr × Obj)) (xe : Value → Shared → Prop) (p1 p2 : Pos), Takes (Z.tr pn xe) W → PE (Z.tr pn xe) (.Call (.Name "call" p1) [] [] p2) (fun σZ HZ Q => σZ[0]? = some (some (.ref fl)) ∧ tlD K F0 A0 μ r0 μ' (WE W σZ) HZ Q) :=
      fun W pn xe p1 p2 tk => pe_callV (Z := Z.tr pn xe) (i := 0) (j := j) tk c1 rfl hr1 rfl (.inl rfl)
    refine ⟨_, PSs.nox (pss_cons (ps_asg (pe_tup (pa_cons pe_non (pa_cons pe_non pa_nil))) (pg_tup rfl (pgs_cons (pg_name (i := 1) nd rfl (.inl rfl)) (pgs_cons (pg_name (i := 2) nd rfl (.inl rfl)) pgs_nil))))
      (pss_cons (ps_keep (X := Z.nox) (i := 3) (c := .ref CK)
        (tb := fun W D σ H => σ[0]? = some (some (.ref fl)) ∧ tlD K F0 A0 μ r0 μ' (WE W σ) H fun v H' => D.nx (σ.set 2 (some v)) H') rfl rfl nd rfl rfl ⟨rfl, by decide, .inl hme⟩
        (fun W pn xe tk po => ?_) (fun a cls d pn => pss_one (ps_set (i := 1) nd rfl (.inl rfl) (pv 3))))
      (pss_one (ps_ret (pe_tup (pa_cons (pv 1) (pa_cons (pv 2) pa_nil))))))), ?_⟩
    · refine ⟨fun pins s' σ H' D I ⟨h1, h2⟩ => ?_⟩
      exact (pss_one (ps_set (i := 2) nd rfl (.inl rfl) (act W pn xe _ _ tk))).run pins s' σ H' D I ⟨h1, h2⟩
    · refine ⟨by show 2 ≤ sizeLine; exact size4 (by omega), fun t nt => ⟨t, [.non, .non], rfl, .inl (.inl upd_same), rfl, .non, [.non], rfl, .non, [], rfl, rfl, rfl, ?_⟩⟩
      refine tlD_mono _ _ _ _ _ ?_ ?_ (hear_end rc nt hh hq)
      · intro cls d H' h0
        obtain ⟨h1, h2⟩ := h0
        refine ⟨h1, fun a na => ⟨.ref a, rfl, .ref a, rfl, .non, rfl, ?_, fun p np => h2 a na p np⟩⟩
        show 2 ≤ sizeLine
        exact size4 (by omega)
      · intro v H' h1
        refine ⟨.non, rfl, v, rfl, ?_, fun p np => h1 p np⟩
        show 2 ≤ sizeLine
        exact size4 (by omega)
  refine codeAny_mono run fun r s2 hq2 => ?_
  cases r with
  | error e => exact (show False from hq2).elim
  | ok fl2 =>
    cases fl2 with
    | ret u => exact hq2
    | next => exact hq2.elim
    | brk => exact hq2.elim
    | cont => exact hq2.elim
theorem ok_readcN (F : Fun K "read_circuit" "read_circuit" sReadC f fd) (T : TM mg) (cB : Ce P w K mg base 1 CB "BadCircuit") : FnOk P w K mg base (L2.CX P w) 3 f fd ["text"] (spD K (rReadCN K CB)) := by
  refine fn_D (k := 2) F scReadC (fun ss μ r μ' h => by obtain ⟨_, _, _, _, rfl, _⟩ := h; rfl) ?_
  intro cdv A outer s0 H E N W ss μ r μ' g hA hR
  obtain ⟨d, t, ht, hk, rfl, rfl, rfl⟩ := hR
  exact ⟨_, dss_ifT (dt_of (dt_not (dt_val (de_callB (id := "isinstance") (da_cons (de_var 0) (da_cons (de_ty T.str (by decide +kernel)) da_nil)) (c_isi g ht (.ty _) hk) T.isinstance (by decide +kernel)))) rfl) (dss_cons (ds_raise g cB de_int) cx) cx, .xx⟩
theorem ok_cinitN (F : Fun K "__init__" "Circuit.__init__" sCInit f fd) (cr_ : Cf P w K mg base 3 "read_circuit" [] (rReadCN K CB)) : FnOk P w K mg base (L2.CX P w) 7 f fd ["self", "text"] (spD K (rCInitN K CC CB)) := by
  refine fn_D (k := 6) F scCInit (fun ss μ r μ' h => by obtain ⟨_, _, _, _, _, rfl, _⟩ := h; rfl) ?_
  intro cdv A outer s0 H E N W ss μ r μ' g hA hR
  obtain ⟨j, d, t, ht, hk, rfl, hj, rfl, rfl⟩ := hR
  exact ⟨_, dss_cons (ds_asgX (de_call g cr_ (da_cons (de_var 1) da_nil) ⟨d, t, ht, hk, rfl, rfl, rfl⟩) (dg_tup (dgs_cons (dg_name 2 g.nd) (dgs_cons (dg_name 3 g.nd) (dgs_cons (dg_name 4 g.nd) dgs_nil))) g.hK g.calm)) cx, .xx⟩
theorem de_circO {X : Cx} {N : En} {W : WX} {nn : Nat} {δ : List (Option S)} {μ μ1 : List M} {e : Expr} {p pos : Pos} {n : Nat} {ls : List Ln} (g : Go X N W nn) (ci : Ci X.prog X.w X.K X.mg X.base 7 CC "Circuit" [] (rCI X.K CC CB)) (hok : okC n ls) (h : DE X N W δ μ e (.v (.p (.str (st (ct n ls))))) μ1) (hk : 7 + 1 ≤ nn := by decide) (hg : Gl X "Circuit" := by rfl)
    (he : starEach [e] X.env = (false, eval e X.env) :: starEach [] X.env := by rfl) (hpl : (backTo pos (starEach [] X.env)).any (·.1) = false := by rfl) : DE X N W δ μ (.Call (.Name "Circuit" p) [e] [] pos) (.v (.p (circD CC n ls))) μ1 := by
  refine de_make g ci (da_cons h da_nil he) (μ0 := (μ1 ++ [M.obj CC [] []]).set μ1.length (M.obj CC cF (cV n ls))) (.inl ⟨μ1.length, n, ls, hok, rfl, by simp, rfl, rfl⟩) (List.getElem?_set_self (by simp)) ?_ hk hg (by decide) he hpl
  rw [List.set_append_right _ _ (Nat.le_refl _)]
  simp
theorem de_circX {X : Cx} {N : En} {W : WX} {nn : Nat} {δ : List (Option S)} {μ μ1 : List M} {e : Expr} {p pos : Pos} {L : List Nat} {k : Nat} (g : Go X N W nn) (ci : Ci X.prog X.w X.K X.mg X.base 7 CC "Circuit" [] (rCI X.K CC CB)) (hb : Bt L) (hr : rdC L = .inl k) (h : DE X N W δ μ e (.v (.p (.str (st L)))) μ1) (hk : 7 + 1 ≤ nn := by decide) (hg : Gl X "Circuit" := by rfl)
    (he : starEach [e] X.env = (false, eval e X.env) :: starEach [] X.env := by rfl) (hpl : (backTo pos (starEach [] X.env)).any (·.1) = false := by rfl) : DE X N W δ μ (.Call (.Name "Circuit" p) [e] [] pos) (.x CB (.int (k : Nat))) μ1 :=
  de_makeX g ci (da_cons h da_nil he) (μ0 := μ1 ++ [M.obj CC [] []]) (.inr (.inl ⟨μ1.length, L, k, hb, hr, rfl, by simp, rfl, rfl⟩)) (by simp) hk hg (by decide) he hpl
theorem de_circN {X : Cx} {N : En} {W : WX} {nn : Nat} {δ : List (Option S)} {μ μ1 : List M} {e : Expr} {p pos : Pos} {d : D} {t : Value} (g : Go X N W nn) (ci : Ci X.prog X.w X.K X.mg X.base 7 CC "Circuit" [] (rCI X.K CC CB)) (ht : TyI X.K d t) (hkt : PySem.W.kitOne X.K t (.type "str") = some false) (h : DE X N W δ μ e (.v (.p d)) μ1) (hk : 7 + 1 ≤ nn := by decide) (hg : Gl X "Circuit" := by rfl)
    (he : starEach [e] X.env = (false, eval e X.env) :: starEach [] X.env := by rfl) (hpl : (backTo pos (starEach [] X.env)).any (·.1) = false := by rfl) : DE X N W δ μ (.Call (.Name "Circuit" p) [e] [] pos) (.x CB (.int 0)) μ1 :=
  de_makeX g ci (da_cons h da_nil he) (μ0 := μ1 ++ [M.obj CC [] []]) (.inr (.inr ⟨μ1.length, d, t, ht, hkt, rfl, by simp, rfl, rfl⟩)) (by simp) hk hg (by decide) he hpl
theorem ok_judged {i : Nat} {cA PT : Addr} {oc kV doc pmv ct_ : Value} {od an : Option Addr} {osl : Array (Option Value)} (lk : K.lookup f = some ⟨oc, od, .func (PySem.W.fnOf "_law_is_judged" "_law_is_judged" (defArgs sJudged) (defBody sJudged) (defScope sJudged) .none kV doc pmv an (.ref cA) ct_), osl⟩) (hcd : PySem.W.codeIn K (.ref cA) "_law_is_judged" = true)
    (TB : LamX.TabB base mg cA PT) (R : VB P w K mg base CC CB CK) : FnOk P w K mg base (L2.CX P w) 14 f (PySem.W.fnOf "_law_is_judged" "_law_is_judged" (defArgs sJudged) (defBody sJudged) (defScope sJudged) .none kV doc pmv an (.ref cA) ct_) ["text"] (spD K (rJudged i PT)) := by
  refine fn_Dc (k := 13) lk hcd scJudged (fun ss μ r μ' h => by obtain ⟨_, _, rfl, _⟩ := h; rfl) ?_
  intro A0 outer s0 H E N W ss μ r μ' g hA hR
  obtain ⟨L, hL, rfl, hT, rfl, rfl⟩ := hR
  have hTs : μ'[i]? = some (.tab PT (lamQ (cxOf (L2.CX P w) P w K mg base jdN "_law_is_judged" (defScope sJudged) f (.ref cA) A0 outer s0 H E))) := hT
  have hb : Bt L := hL.1
  cases hr : rdC L with
  | inr p =>
    obtain ⟨n, ls⟩ := p
    obtain ⟨hok, hct⟩ := rdC_ok hr
    have ef : fbV L = 0 := by unfold fbV; rw [hr]
    exact ⟨_, dss_cons (ds_set 1 (de_of (d' := .int 0) (de_call g R.fb (da_cons (de_var 0) da_nil) ⟨L, hL, rfl, rfl, rfl⟩) (by rw [ef]; rfl)) g.nd) (cn
      (dss_cons (ds_asg (de_handL (j := 11) (jt := i) (L := lX (.v (.p (circD CC n ls)))) g (fun h => by cases h) hTs TB rfl R.heard (fun E A outer s H f c' N' hK g' μ3 r3 μ4 hL => by obtain ⟨rfl, rfl⟩ := hL; exact de_circO g' R.ci hok (de_of (d' := .str (st (ct n ls))) (de_var 0) (by rw [hct]))) da_nil ⟨rfl, _, _, ⟨rfl, rfl⟩, .v _, rfl⟩) (dg_tup (dgs_cons (dg_name 2 g.nd) (dgs_cons (dg_name 3 g.nd) dgs_nil)) g.hK g.calm) rfl) (cn
      (dss_ifT (dt_of (dt_cmp (de_var 1) de_int o_eqI) rfl)
        (dss_ret (de_of (d' := .bl true) (de_and (k := true) (k' := true) (de_of (d' := .bl true) (de_cmp (de_var 2) de_non o_isN) rfl) (fun _ => de_one (de_of (d' := .bl true) (de_cmp (de_prop g R.ctext (de_var 3) ⟨n, _, rfl, rfl, rfl⟩) (de_var 0) o_eqS) (congrArg D.bl (by rw [hct]; simp))))) rfl)) cr)))), .rt⟩
  | inl k =>
    have ef : fbV L = k := by unfold fbV; rw [hr]
    obtain ⟨k1, k2⟩ := rdC_bound hr
    have lg := log_small k2
    exact ⟨_, dss_cons (ds_set 1 (de_of (d' := .int ((k : Nat) : Int)) (de_call g R.fb (da_cons (de_var 0) da_nil) ⟨L, hL, rfl, rfl, rfl⟩) (by rw [ef])) g.nd) (cn
      (dss_cons (ds_asg (de_handL (j := 11) (jt := i) (L := lX (.x CB (.int (k : Nat)))) g (fun h => by cases h) hTs TB rfl R.heard (fun E A outer s H f c' N' hK g' μ3 r3 μ4 hL => by obtain ⟨rfl, rfl⟩ := hL; exact de_circX g' R.ci hb hr (de_var 0)) da_nil ⟨rfl, _, _, ⟨rfl, rfl⟩, .x R.eB, rfl⟩) (dg_tup (dgs_cons (dg_name 2 g.nd) (dgs_cons (dg_name 3 g.nd) dgs_nil)) g.hK g.calm) rfl) (cn
      (dss_skip (dt_of (dt_cmp (de_var 1) de_int o_eqI) (decide_eq_false (by omega)))
        (dss_ret (de_of (d' := .bl true) (de_and (k := true) (k' := true) (de_callB (id := "isinstance") (da_cons (de_var 2) (da_cons (de_glob (v := .ref CB) R.gB rfl (fun _ _ => .adr _)) da_nil)) (c_isiX g R.xB kit_same) R.T.isinstance (by decide +kernel)) (fun _ => de_one (de_of (d' := .bl true) (de_cmp (de_callB (id := "repr") (da_cons (de_excVal g R.xB (de_var 2)) da_nil) (c_reprI lg) R.T.repr (by decide +kernel)) (de_callB (id := "repr") (da_cons (de_var 1) da_nil) (c_reprI lg) R.T.repr (by decide +kernel)) o_eqS) (congrArg D.bl (by simp))))) rfl)))))), .rt⟩
end
end K20
set_option Elab.async false
set_option linter.all false
set_option maxRecDepth 100000
set_option maxHeartbeats 4000000
set_option autoImplicit false
namespace K20
open PySem PySem.Spec PyProof.Rows L2 Dl Cq
/-! ### rows cut and spoilt -/
theorem spl_app (s : Nat) : ∀ (t acc r : List Nat), TL.spl [s] 0 acc (t ++ s :: r) = TL.spl [s] 0 acc t ++ TL.spl [s] 0 [] r
  | [], acc, r => by
    have h : TL.pre [s] (s :: r) = true := TL.pre_self [s] r
    rw [List.nil_append, TL.spl_hit h, TL.spl_nil]
    rfl
  | c :: t, acc, r => by
    by_cases hc : c = s
    · subst hc
      have h1 : TL.pre [c] (c :: (t ++ c :: r)) = true := TL.pre_self [c] _
      have h2 : TL.pre [c] (c :: t) = true := TL.pre_self [c] t
      rw [List.cons_append, TL.spl_hit h1, TL.spl_hit h2]
      show acc :: TL.spl [c] 0 [] (t ++ c :: r) = acc :: TL.spl [c] 0 [] t ++ _
      rw [spl_app c t [] r]
      rfl
    · have h1 : TL.pre [s] (c :: (t ++ s :: r)) = false := TL.pre_of_head [] _ hc
      have h2 : TL.pre [s] (c :: t) = false := TL.pre_of_head [] _ hc
      rw [List.cons_append, TL.spl_miss h1, TL.spl_miss h2, spl_app s t]
def LB (b : Nat) (L : List Nat) : Prop := ∀ l ∈ TL.spl [10] 0 [] L, l.length ≤ b
theorem LB.self {b : Nat} {L : List Nat} (h : L.length ≤ b) : LB b L := fun l hl => by
  have := (spl_len 10 L []).1 l hl
  simp at this
  omega
theorem LB.mono {b c : Nat} {L : List Nat} (h : LB b L) (hb : b ≤ c) : LB c L := fun l hl => Nat.le_trans (h l hl) hb
theorem LB.app {b : Nat} {L M : List Nat} (h : LB b L) (k : LB b M) : LB b (L ++ 10 :: M) := fun l hl => by
  rw [spl_app] at hl
  rcases List.mem_append.mp hl with hl | hl
  · exact h l hl
  · exact k l hl
theorem LB.join {b : Nat} : ∀ {rows : List (List Nat)}, (∀ v ∈ rows, v.length ≤ b) → LB b (TL.joinL [10] rows)
  | [], _ => LB.self (Nat.zero_le _)
  | [v], h => LB.self (h v List.mem_cons_self)
  | v :: w :: r, h => by
    show LB b (v ++ ([10] ++ TL.joinL [10] (w :: r)))
    exact (LB.self (h v List.mem_cons_self)).app (LB.join fun x hx => h x (List.mem_cons_of_mem _ hx))
/-! texts joined by blanks -/
def wsum (ws : List (List Nat)) : Nat := (ws.map fun v => v.length + 1).sum
theorem joinL_sum (s : Nat) : ∀ (ws : List (List Nat)), (TL.joinL [s] ws).length ≤ wsum ws ∧ (ws ≠ [] → (TL.joinL [s] ws).length + 1 = wsum ws)
  | [] => ⟨Nat.zero_le _, fun h => absurd rfl h⟩
  | [v] => by
    have e : TL.joinL [s] [v] = v := rfl
    rw [e]
    unfold wsum
    simp
  | v :: w :: r => by
    have ih := (joinL_sum s (w :: r)).2 (by simp)
    have e : (TL.joinL [s] (v :: w :: r)).length = v.length + (1 + (TL.joinL [s] (w :: r)).length) := by
      show (v ++ ([s] ++ TL.joinL [s] (w :: r))).length = _
      rw [List.length_append, List.length_append]
      rfl
    have e2 : wsum (v :: w :: r) = v.length + 1 + wsum (w :: r) := by unfold wsum; rw [List.map_cons, List.sum_cons]
    rw [e, e2]
    exact ⟨by omega, fun _ => by omega⟩
theorem wsum_app (a b : List (List Nat)) : wsum (a ++ b) = wsum a + wsum b := by
  unfold wsum
  rw [List.map_append, List.sum_append]
theorem wsum_spl (row : List Nat) : wsum (TL.spl [32] 0 [] row) = row.length + 1 := by
  have := (joinL_sum 32 (TL.spl [32] 0 [] row)).2 (spl_ne 32 row [])
  rw [joinL_spl] at this
  exact this.symm
theorem wsum_split (ws : List (List Nat)) (i j : Nat) (h : i ≤ j) : wsum (ws.take i) + wsum (ws.drop j) ≤ wsum ws := by
  have e : wsum ws = wsum (ws.take i) + wsum (ws.drop i) := by rw [← wsum_app, List.take_append_drop]
  have e2 : wsum (ws.drop i) = wsum ((ws.drop i).take (j - i)) + wsum (ws.drop j) := by
    rw [← wsum_app]
    have : ws.drop j = (ws.drop i).drop (j - i) := by rw [List.drop_drop]; congr 1; omega
    rw [this, List.take_append_drop]
  omega
structure Rs (b c m : Nat) (rows : List (List Nat)) : Prop where
  len : rows.length ≤ c
  one : ∀ v ∈ rows, v.length ≤ b
  tot : wsum rows ≤ m
theorem Rs.gx {b c m : Nat} {rows : List (List Nat)} (h : Rs b c m rows) (hm : m ≤ 5000) (hb : b ≤ 640) : Gx (TL.joinL [10] rows) := by
  refine ⟨?_, fun l hl => Nat.le_trans (LB.join h.one l hl) hb⟩
  have := (joinL_sum 10 rows).1
  have := h.tot
  omega
theorem wsum_rev (ws : List (List Nat)) : wsum ws.reverse = wsum ws := by
  unfold wsum
  rw [List.map_reverse, List.sum_reverse]
theorem wsum_take {b : Nat} {ws : List (List Nat)} (h : ∀ v ∈ ws, v.length ≤ b) (i : Nat) : wsum (ws.take (i + 1)) ≤ wsum (ws.take i) + (b + 1) := by
  rw [List.take_add_one, wsum_app]
  cases hq : ws[i]? with
  | none => show _ + 0 ≤ _; omega
  | some v =>
    have := h v (List.mem_of_getElem? hq)
    show _ + ((v.length + 1) + 0) ≤ _
    omega
def tx (s : String) : List Nat := (Str.ofString s).cps.toList
def moreL : List (List Nat) := [tx "", tx "h 0", tx "cx 0 1", tx "swap 1 1", tx "turn XX by 1 k", tx "turn X by 1 k 2 m", tx "flip Z", tx "quarter -IZ", tx "wires 2"]
def someA : List (List Nat) := [tx "", tx "0", tx "1", tx "-1", tx "4", tx "5", tx "-4", tx "-0", tx "01", tx "+1", tx "X", tx "-X", tx "--X", tx "II", tx "XYZ", tx "by", tx "k", tx "K", tx "turn"]
def someB (ps : List (List Nat)) (i : Nat) : List (List Nat) := [tx "toolonger", tx "h", tx "cz", tx "wires", ps.getD 0 [], ps.getLastD [], ps.getD i [] ++ [48], 45 :: ps.getD i []]
def someP (ps : List (List Nat)) (i : Nat) : List (List Nat) := someA ++ someB ps i
/-- how rows are spoilt -/
structure Sp where
  way : Nat
  at_ : Nat
  ps : List (List Nat)
  spot : Nat
  q : Pot
def spS (p : Pot) (rows : List (List Nat)) : Sp :=
  let p1 := tkP p 8
  let a := tk p1 rows.length
  let p2 := tkP p1 rows.length
  let ps := TL.spl [32] 0 [] (rows.getD a [])
  ⟨tk p 8, a, ps, tk p2 ps.length, tkP p2 ps.length⟩
def spFresh (s : Sp) : List (List Nat) := if s.way = 4 then [] else [(someP s.ps s.spot).getD (tk s.q 27) []]
def spPs (s : Sp) : List (List Nat) := s.ps.take s.spot ++ spFresh s ++ s.ps.drop (s.spot + (if s.way = 5 then 0 else 1))
def spR (p : Pot) (rows : List (List Nat)) : List (List Nat) :=
  let s := spS p rows
  if s.way = 0 then rows.take s.at_ ++ rows.drop (s.at_ + 1)
  else if s.way = 1 then rows.take (s.at_ + 1) ++ rows.drop s.at_
  else if s.way = 2 then rows.take s.at_ ++ ((rows.drop s.at_).take 2).reverse ++ rows.drop (s.at_ + 2)
  else if s.way = 3 then rows.take s.at_ ++ [moreL.getD (tk s.q 9) []] ++ rows.drop s.at_
  else rows.take s.at_ ++ [TL.joinL [32] (spPs s)] ++ rows.drop (s.at_ + 1)
def spP (p : Pot) (rows : List (List Nat)) : Pot :=
  let s := spS p rows
  if s.way ≤ 2 then s.q else if s.way = 3 then tkP s.q 9 else if s.way = 4 then s.q else tkP s.q 27
theorem more_len : ∀ v ∈ moreL, v.length ≤ 17 := by decide +kernel
theorem someA_len : ∀ v ∈ someA, v.length ≤ 9 := by decide +kernel
theorem getD_le {b : Nat} {ps : List (List Nat)} (h : ∀ v ∈ ps, v.length ≤ b) (i : Nat) : (ps.getD i []).length ≤ b := by
  rw [List.getD_eq_getElem?_getD]
  cases hq : ps[i]? with
  | none => exact Nat.zero_le _
  | some v => exact h v (List.mem_of_getElem? hq)
theorem lastD_le {b : Nat} {ps : List (List Nat)} (h : ∀ v ∈ ps, v.length ≤ b) : (ps.getLastD []).length ≤ b := by
  cases ps with
  | nil => exact Nat.zero_le _
  | cons a r =>
    rw [List.getLastD_cons]
    cases hr : r.getLast? with
    | none => rw [List.getLastD_eq_getLast?, hr]; exact h a List.mem_cons_self
    | some x => rw [List.getLastD_eq_getLast?, hr]; exact h x (List.mem_cons_of_mem _ (List.mem_of_getLast? hr))
theorem someP_len {b : Nat} {ps : List (List Nat)} (h : ∀ v ∈ ps, v.length ≤ b) (i : Nat) : ∀ v ∈ someP ps i, v.length ≤ b + 9 := fun v hv => by
  rcases List.mem_append.mp hv with hv | hv
  · have := someA_len v hv; omega
  · unfold someB at hv
    simp only [List.mem_cons, List.not_mem_nil, or_false] at hv
    rcases hv with rfl | rfl | rfl | rfl | rfl | rfl | rfl | rfl
    · have : (tx "toolonger").length = 9 := by decide +kernel
      omega
    · have : (tx "h").length = 1 := by decide +kernel
      omega
    · have : (tx "cz").length = 2 := by decide +kernel
      omega
    · have : (tx "wires").length = 5 := by decide +kernel
      omega
    · have := getD_le h 0; omega
    · have := lastD_le h; omega
    · have := getD_le h i; rw [List.length_append]; show _ + 1 ≤ _; omega
    · have := getD_le h i; rw [List.length_cons]; omega
theorem Rs.in_take {b c m : Nat} {rows : List (List Nat)} (h : Rs b c m rows) : ∀ k : Nat, ∀ v ∈ rows.take k, v.length ≤ b := fun k v hv => h.one v (List.mem_of_mem_take hv)
theorem Rs.in_drop {b c m : Nat} {rows : List (List Nat)} (h : Rs b c m rows) : ∀ k : Nat, ∀ v ∈ rows.drop k, v.length ≤ b := fun k v hv => h.one v (List.mem_of_mem_drop hv)
/-- spoilt rows are not much longer -/
theorem spR_ok {b c m : Nat} {p : Pot} {rows : List (List Nat)} (h : Rs b c m rows) (h17 : 17 ≤ b) : Rs (2 * b + 10) (c + 1) (m + (2 * b + 11)) (spR p rows) := by
  have ht := h.in_take
  have hd := h.in_drop
  have hl := h.len
  have hm := h.tot
  have mem3 : ∀ {a m z : List (List Nat)}, (∀ v ∈ a, v.length ≤ b) → (∀ v ∈ m, v.length ≤ 2 * b + 10) → (∀ v ∈ z, v.length ≤ b) → ∀ v ∈ a ++ m ++ z, v.length ≤ 2 * b + 10 := fun ha hm hz v hv => by
    rcases List.mem_append.mp hv with hv | hv
    · rcases List.mem_append.mp hv with hv | hv
      · have := ha v hv; omega
      · exact hm v hv
    · have := hz v hv; omega
  unfold spR
  simp only
  generalize ea : (spS p rows).at_ = a
  split
  · refine ⟨?_, fun v hv => ?_, ?_⟩
    · rw [List.length_append, List.length_take, List.length_drop]; omega
    · rcases List.mem_append.mp hv with hv | hv
      · have := ht _ v hv; omega
      · have := hd _ v hv; omega
    · rw [wsum_app]
      have := wsum_split rows a (a + 1) (by omega)
      omega
  split
  · refine ⟨?_, fun v hv => ?_, ?_⟩
    · rw [List.length_append, List.length_take, List.length_drop]; omega
    · rcases List.mem_append.mp hv with hv | hv
      · have := ht _ v hv; omega
      · have := hd _ v hv; omega
    · rw [wsum_app]
      have := wsum_split rows a a (Nat.le_refl _)
      have := wsum_take h.one a
      omega
  split
  · refine ⟨?_, mem3 (ht _) (fun v hv => ?_) (hd _), ?_⟩
    · rw [List.length_append, List.length_append, List.length_take, List.length_reverse, List.length_take, List.length_drop, List.length_drop]; omega
    · have := h.one v (List.mem_of_mem_drop (List.mem_of_mem_take (List.mem_reverse.mp hv))); omega
    · rw [wsum_app, wsum_app, wsum_rev]
      have e1 := wsum_split rows a a (Nat.le_refl _)
      have e2 : wsum (rows.drop a) = wsum ((rows.drop a).take 2) + wsum (rows.drop (a + 2)) := by
        rw [← wsum_app]
        have : rows.drop (a + 2) = (rows.drop a).drop 2 := by rw [List.drop_drop]
        rw [this, List.take_append_drop]
      omega
  split
  · have k := getD_le more_len (tk (spS p rows).q 9)
    refine ⟨?_, mem3 (ht _) (fun v hv => ?_) (hd _), ?_⟩
    · rw [List.length_append, List.length_append, List.length_take, List.length_drop]
      show _ + 1 + _ ≤ _
      omega
    · rw [List.mem_singleton.mp hv]
      omega
    · rw [wsum_app, wsum_app]
      have e1 := wsum_split rows a a (Nat.le_refl _)
      have e2 : wsum [moreL.getD (tk (spS p rows).q 9) []] = (moreL.getD (tk (spS p rows).q 9) []).length + 1 := by unfold wsum; simp
      omega
  · have hrow : (rows.getD (spS p rows).at_ []).length ≤ b := getD_le h.one _
    have hps : ∀ x ∈ (spS p rows).ps, x.length ≤ b := fun x hx => by
      have := (spl_len 32 (rows.getD (spS p rows).at_ []) []).1 x hx
      simp only [List.length_nil, Nat.zero_add] at this
      omega
    have w1 := (joinL_sum 32 (spPs (spS p rows))).1
    have w2 : wsum (spPs (spS p rows)) ≤ (b + 1) + (b + 9 + 1) := by
      unfold spPs
      rw [wsum_app, wsum_app]
      have k1 := wsum_split (spS p rows).ps (spS p rows).spot ((spS p rows).spot + (if (spS p rows).way = 5 then 0 else 1)) (Nat.le_add_right _ _)
      have k2 : wsum (spS p rows).ps = (rows.getD (spS p rows).at_ []).length + 1 := wsum_spl _
      have k3 : wsum (spFresh (spS p rows)) ≤ b + 9 + 1 := by
        unfold spFresh
        split
        · exact Nat.zero_le _
        · have := getD_le (someP_len hps (spS p rows).spot) (tk (spS p rows).q 27)
          unfold wsum
          simp
          simpa using this
      omega
    have ne : (TL.joinL [32] (spPs (spS p rows))).length + 1 ≤ 2 * b + 11 := by
      by_cases hz : spPs (spS p rows) = []
      · rw [hz]; show 0 + 1 ≤ _; omega
      · have := (joinL_sum 32 (spPs (spS p rows))).2 hz
        omega
    refine ⟨?_, mem3 (ht _) (fun v hv => ?_) (hd _), ?_⟩
    · rw [List.length_append, List.length_append, List.length_take, List.length_drop]
      show _ + 1 + _ ≤ _
      omega
    · rw [List.mem_singleton.mp hv]
      omega
    · rw [wsum_app, wsum_app]
      have e1 := wsum_split rows a (a + 1) (by omega)
      have e2 : wsum [TL.joinL [32] (spPs (spS p rows))] = (TL.joinL [32] (spPs (spS p rows))).length + 1 := by unfold wsum; simp
      omega
end K20
set_option Elab.async false
set_option linter.all false
set_option maxRecDepth 100000
set_option maxHeartbeats 4000000
set_option autoImplicit false
namespace K20
open PySem PySem.Spec PyProof.Rows L2 Dl Cq
abbrev spN : List Str := ["pot", "rows", "way", "at", "pieces", "spot", "more", "some", "fresh"]
theorem scSpoilt : FnScope spN ["pot", "rows"] (defScope sSpoilt) := ⟨rfl, rfl, rfl, by decide +kernel, rfl, by decide +kernel, by decide +kernel⟩
abbrev rwD (L : List Nat) : D := .str (st L)
def rSpoilt : Rel := fun ss μ r μ' => ∃ (j : Nat) (p : Pot) (rows : List (List Nat)) (b c m : Nat), p.ok 8000 ∧ rows ≠ [] ∧ Rs b c m rows ∧ b ≤ 300 ∧ c ≤ 60 ∧ ss = [.l j, .p (.lst (txD rows))] ∧ μ[j]? = some p.m ∧ r = .v (.p (.lst (txD (spR p rows)))) ∧ μ' = μ.set j (spP p rows).m
theorem tx_app (a b : List (List Nat)) : txD (a ++ b) = txD a ++ txD b := List.map_append ..
section
variable {X : Cx} {N : En} {W : WX} {n : Nat} {δ : List (Option S)} {μ μ1 μ2 : List M} {e a : Expr} {p2 pos : Pos} {rows : List (List Nat)} {i : Nat}
theorem cutT (g : Go X N W n) (he : DE X N W δ μ e (.v (.p (.lst (txD rows)))) μ1) (ha : DE X N W δ μ1 a (.v (.p (.int ((i : Nat) : Int)))) μ2) : DE X N W δ μ (.Subscript e (.Slice none (some a) none p2) pos) (.v (.p (.lst (txD (rows.take i))))) μ2 :=
  de_of (de_cutLt g he ha) (by rw [cutX_to]; exact congrArg D.lst (List.map_take ..).symm)
theorem cutF (g : Go X N W n) (he : DE X N W δ μ e (.v (.p (.lst (txD rows)))) μ1) (ha : DE X N W δ μ1 a (.v (.p (.int ((i : Nat) : Int)))) μ2) : DE X N W δ μ (.Subscript e (.Slice (some a) none none p2) pos) (.v (.p (.lst (txD (rows.drop i))))) μ2 :=
  de_of (de_cutLf g he ha) (by rw [cutX_from]; exact congrArg D.lst (List.map_drop ..).symm)
theorem catT {b : Expr} {s t : List (List Nat)} (h1 : DE X N W δ μ e (.v (.p (.lst (txD s)))) μ1) (h2 : DE X N W δ μ1 b (.v (.p (.lst (txD t)))) μ2) (hl : s.length + t.length ≤ 10000) : DE X N W δ μ (.BinOp e .Add b pos) (.v (.p (.lst (txD (s ++ t))))) μ2 :=
  de_of (de_bin h1 h2 (o_catL (by unfold txD; rw [List.length_map, List.length_map]; exact sz (by omega)))) (by rw [tx_app])
theorem addN {k m : Nat} {b : Expr} (h : DE X N W δ μ e (.v (.p (.int ((k : Nat) : Int)))) μ1) (h2 : DE X N W δ μ1 b (.v (.p (.int ((m : Nat) : Int)))) μ2) : DE X N W δ μ (.BinOp e .Add b pos) (.v (.p (.int ((k + m : Nat) : Int)))) μ2 :=
  de_of (de_bin h h2 o_add) (congrArg D.int (by omega))
end
theorem tk8 (p : Pot) (rows : List (List Nat)) : (spS p rows).way < 8 := tk_lt (p := p) (u := 8) (by decide)
section
variable {P : Program} {w : World} {K : PySem.W.Frag} {mg : Str → Option Value} {base : Heap} {f : Addr} {fd : FuncData}
theorem ok_spoilt (F : Fun K "_law_spoilt" "_law_spoilt" sSpoilt f fd) (T : TM mg) (ct_ : Cf P w K mg base 1 "_law_take" [] rTk) (co : Cf P w K mg base 2 "_law_of" [] rOf) : FnOk P w K mg base (L2.CX P w) 3 f fd ["pot", "rows"] (spD K rSpoilt) := by
  refine fn_D (k := 2) F scSpoilt (fun ss μ r μ' h => by obtain ⟨_, _, _, _, _, _, _, _, _, _, _, rfl, _⟩ := h; rfl) ?_
  intro cdv A0 outer s0 H E N W ss μ r μ' g hA hR
  obtain ⟨j, p, rows, b, c, m, hp, hne, hrs, hb3, hc6, rfl, hj, rfl, rfl⟩ := hR
  have hpos : 0 < rows.length := List.length_pos_iff.mpr hne
  have hl := hrs.len
  have lr : (txD rows).length = rows.length := List.length_map ..
  have hat : ∀ q : M, (μ.set j q)[j]? = some q := fun q => set_at hj
  have ha : (spS p rows).at_ < rows.length := tk_lt hpos
  have hway := tk8 p rows
  have hrow : (rows.getD (spS p rows).at_ []).length ≤ b := getD_le hrs.one _
  have hpl := (spl_len 32 (rows.getD (spS p rows).at_ []) [])
  have lps : (spS p rows).ps.length ≤ b + 1 := by
    have := hpl.2
    show (TL.spl [32] 0 [] (rows.getD (spS p rows).at_ [])).length ≤ _
    omega
  have hps : ∀ x ∈ (spS p rows).ps, x.length ≤ b := fun x hx => by
    have := hpl.1 x hx
    simp only [List.length_nil, Nat.zero_add] at this
    omega
  have pne : (spS p rows).ps ≠ [] := spl_ne 32 _ []
  have ppos : 0 < (spS p rows).ps.length := List.length_pos_iff.mpr pne
  have hspot : (spS p rows).spot < (spS p rows).ps.length := tk_lt ppos
  have p1 : (tkP p 8).ok 8001 := tkP_ok hp
  have p2 : (tkP (tkP p 8) rows.length).ok 8002 := tkP_ok p1
  have p3 : (spS p rows).q.ok 8003 := tkP_ok p2
  have ht := fun k => List.length_take_le k rows
  have hd := fun k => (List.length_drop (i := k) (l := rows))
  have d0 : DS (cxOf (L2.CX P w) P w K mg base spN "_law_spoilt" (defScope sSpoilt) f cdv A0 outer s0 H E) N W (starts spN [.l j, .p (.lst (txD rows))]) μ ((defBody sSpoilt).getD 0 (.Pass ⟨0, 0, 0, 0⟩)) (.nx [some (.l j), some (.p (.lst (txD rows))), some (.p (.int (((spS p rows).way : Nat) : Int))), some (.p (.int (((spS p rows).at_ : Nat) : Int))), none, none, none, none, none] (μ.set j (tkP (tkP p 8) rows.length).m)) :=
    ds_par 2 3 g (da_cons (s := .p (.int (((spS p rows).way : Nat) : Int))) (de_call (μ2 := μ.set j (tkP p 8).m) g ct_ (da_cons (de_var 0) (da_cons de_int da_nil)) ⟨j, p, 8, hp.mono (by omega), by decide, by decide, rfl, hj, rfl, rfl⟩) (da_cons (s := .p (.int (((spS p rows).at_ : Nat) : Int))) (de_call (μ2 := μ.set j (tkP (tkP p 8) rows.length).m) g ct_ (da_cons (de_var 0) (da_cons (s := .p (.int ((rows.length : Nat) : Int))) (de_of (d' := .int ((rows.length : Nat) : Int)) (de_callB (id := "len") (da_cons (de_var 1) da_nil) (c_lenL g) T.len (by decide +kernel)) (by rw [lr])) da_nil)) ⟨j, tkP p 8, rows.length, p1.mono (by omega), hpos, by omega, rfl, hat _, rfl, by rw [List.set_set]⟩) da_nil))
  have d1 : DS (cxOf (L2.CX P w) P w K mg base spN "_law_spoilt" (defScope sSpoilt) f cdv A0 outer s0 H E) N W [some (.l j), some (.p (.lst (txD rows))), some (.p (.int (((spS p rows).way : Nat) : Int))), some (.p (.int (((spS p rows).at_ : Nat) : Int))), none, none, none, none, none] (μ.set j (tkP (tkP p 8) rows.length).m) ((defBody sSpoilt).getD 1 (.Pass ⟨0, 0, 0, 0⟩)) (.nx [some (.l j), some (.p (.lst (txD rows))), some (.p (.int (((spS p rows).way : Nat) : Int))), some (.p (.int (((spS p rows).at_ : Nat) : Int))), some (.p (.lst (txD (spS p rows).ps))), none, none, none, none] (μ.set j (tkP (tkP p 8) rows.length).m)) :=
    ds_set 4 (de_of (d' := .lst (txD (spS p rows).ps)) (de_bm PySem.F.plainAttrs_str PySem.F.slot_str_split PySem.F.type_str_split (de_ix (de_var 1) (de_var 3) (i_lst g (at_getD (q := rwD) (d := []) ha))) (da_cons de_str da_nil) (m_split (by decide) (by rw [st_len]; exact sz (by omega)))) (congrArg D.lst (split_sp _))) g.nd
  have d2 : DS (cxOf (L2.CX P w) P w K mg base spN "_law_spoilt" (defScope sSpoilt) f cdv A0 outer s0 H E) N W [some (.l j), some (.p (.lst (txD rows))), some (.p (.int (((spS p rows).way : Nat) : Int))), some (.p (.int (((spS p rows).at_ : Nat) : Int))), some (.p (.lst (txD (spS p rows).ps))), none, none, none, none] (μ.set j (tkP (tkP p 8) rows.length).m) ((defBody sSpoilt).getD 2 (.Pass ⟨0, 0, 0, 0⟩)) (.nx [some (.l j), some (.p (.lst (txD rows))), some (.p (.int (((spS p rows).way : Nat) : Int))), some (.p (.int (((spS p rows).at_ : Nat) : Int))), some (.p (.lst (txD (spS p rows).ps))), some (.p (.int (((spS p rows).spot : Nat) : Int))), none, none, none] (μ.set j (spS p rows).q.m)) :=
    ds_set 5 (de_call (r := .v (.p (.int (((spS p rows).spot : Nat) : Int)))) (μ2 := (μ.set j (spS p rows).q.m)) g ct_ (da_cons (de_var 0) (da_cons (s := .p (.int (((spS p rows).ps.length : Nat) : Int))) (de_of (d' := .int (((spS p rows).ps.length : Nat) : Int)) (de_callB (id := "len") (da_cons (de_var 4) da_nil) (c_lenL g) T.len (by decide +kernel)) (by unfold txD; rw [List.length_map])) da_nil)) ⟨j, tkP (tkP p 8) rows.length, (spS p rows).ps.length, p2.mono (by omega), ppos, by omega, rfl, hat _, rfl, by rw [List.set_set]; rfl⟩) g.nd
  have t3 : DT (cxOf (L2.CX P w) P w K mg base spN "_law_spoilt" (defScope sSpoilt) f cdv A0 outer s0 H E) N W [some (.l j), some (.p (.lst (txD rows))), some (.p (.int (((spS p rows).way : Nat) : Int))), some (.p (.int (((spS p rows).at_ : Nat) : Int))), some (.p (.lst (txD (spS p rows).ps))), some (.p (.int (((spS p rows).spot : Nat) : Int))), none, none, none] (μ.set j (spS p rows).q.m) (ifC ((defBody sSpoilt).getD 3 (.Pass ⟨0, 0, 0, 0⟩))) (decide ((spS p rows).way < 2)) (μ.set j (spS p rows).q.m) := dt_of (dt_cmp (de_var 2) de_int o_lt) (decide_eq_decide.mpr (by omega))
  have t4 : DT (cxOf (L2.CX P w) P w K mg base spN "_law_spoilt" (defScope sSpoilt) f cdv A0 outer s0 H E) N W [some (.l j), some (.p (.lst (txD rows))), some (.p (.int (((spS p rows).way : Nat) : Int))), some (.p (.int (((spS p rows).at_ : Nat) : Int))), some (.p (.lst (txD (spS p rows).ps))), some (.p (.int (((spS p rows).spot : Nat) : Int))), none, none, none] (μ.set j (spS p rows).q.m) (ifC ((defBody sSpoilt).getD 4 (.Pass ⟨0, 0, 0, 0⟩))) (decide ((spS p rows).way = 2)) (μ.set j (spS p rows).q.m) := dt_of (dt_cmp (de_var 2) de_int o_eqI) (decide_eq_decide.mpr (by omega))
  have t5 : DT (cxOf (L2.CX P w) P w K mg base spN "_law_spoilt" (defScope sSpoilt) f cdv A0 outer s0 H E) N W [some (.l j), some (.p (.lst (txD rows))), some (.p (.int (((spS p rows).way : Nat) : Int))), some (.p (.int (((spS p rows).at_ : Nat) : Int))), some (.p (.lst (txD (spS p rows).ps))), some (.p (.int (((spS p rows).spot : Nat) : Int))), none, none, none] (μ.set j (spS p rows).q.m) (ifC ((defBody sSpoilt).getD 5 (.Pass ⟨0, 0, 0, 0⟩))) (decide ((spS p rows).way = 3)) (μ.set j (spS p rows).q.m) := dt_of (dt_cmp (de_var 2) de_int o_eqI) (decide_eq_decide.mpr (by omega))
  have pre : ∀ o, DSs (cxOf (L2.CX P w) P w K mg base spN "_law_spoilt" (defScope sSpoilt) f cdv A0 outer s0 H E) N W [some (.l j), some (.p (.lst (txD rows))), some (.p (.int (((spS p rows).way : Nat) : Int))), some (.p (.int (((spS p rows).at_ : Nat) : Int))), some (.p (.lst (txD (spS p rows).ps))), some (.p (.int (((spS p rows).spot : Nat) : Int))), none, none, none] (μ.set j (spS p rows).q.m) ((defBody sSpoilt).drop 3) o → DSs (cxOf (L2.CX P w) P w K mg base spN "_law_spoilt" (defScope sSpoilt) f cdv A0 outer s0 H E) N W (starts spN [.l j, .p (.lst (txD rows))]) μ (defBody sSpoilt) o := fun o h => dss_cons d0 (cn (dss_cons d1 (cn (dss_cons d2 (cn h)))))
  by_cases h2 : (spS p rows).way < 2
  · have eP : spP p rows = (spS p rows).q := by unfold spP; simp only; rw [if_pos (by omega)]
    have eR : spR p rows = if (spS p rows).way = 0 then rows.take (spS p rows).at_ ++ rows.drop ((spS p rows).at_ + 1) else rows.take ((spS p rows).at_ + 1) ++ rows.drop (spS p rows).at_ := by
      unfold spR
      simp only
      by_cases h0 : (spS p rows).way = 0
      · rw [if_pos h0, if_pos h0]
      · rw [if_neg h0, if_neg h0, if_pos (by omega)]
    rw [eP, eR]
    refine ⟨_, pre _ (dss_ifT (dt_of t3 (decide_eq_true h2)) (dss_ret (de_ix (de_lst (ds := [.lst (txD (rows.take (spS p rows).at_ ++ rows.drop ((spS p rows).at_ + 1))), .lst (txD (rows.take ((spS p rows).at_ + 1) ++ rows.drop (spS p rows).at_))]) (dp_cons (catT (cutT g (de_var 1) (de_var 3)) (cutF g (de_var 1) (addN (m := 1) (de_var 3) de_int)) (by have := ht (spS p rows).at_; have := hd ((spS p rows).at_ + 1); omega)) (dp_cons (catT (cutT g (de_var 1) (addN (m := 1) (de_var 3) de_int)) (cutF g (de_var 1) (de_var 3)) (by have := ht ((spS p rows).at_ + 1); have := hd (spS p rows).at_; omega)) dp_nil)) (sz (by show 2 ≤ _; decide))) (de_var 2) (i_lst g ?_))) cr), .rt⟩
    by_cases h0 : (spS p rows).way = 0
    · rw [if_pos h0, h0]; exact atI_nat rfl
    · rw [if_neg h0, show (spS p rows).way = 1 by omega]; exact atI_nat rfl
  by_cases h22 : (spS p rows).way = 2
  · have eP : spP p rows = (spS p rows).q := by unfold spP; simp only; rw [if_pos (by omega)]
    have eR : spR p rows = rows.take (spS p rows).at_ ++ ((rows.drop (spS p rows).at_).take 2).reverse ++ rows.drop ((spS p rows).at_ + 2) := by
      unfold spR
      simp only
      rw [if_neg (by omega), if_neg (by omega), if_pos h22]
    rw [eP, eR]
    have l2 : (((rows.drop (spS p rows).at_).take 2).reverse).length ≤ rows.length := by rw [List.length_reverse, List.length_take, List.length_drop]; omega
    exact ⟨_, pre _ (dss_skip (dt_of t3 (decide_eq_false h2)) (dss_ifT (dt_of t4 (decide_eq_true h22)) (dss_ret (catT (catT (cutT g (de_var 1) (de_var 3)) (de_of (d' := .lst (txD ((rows.drop (spS p rows).at_).take 2).reverse)) (de_revL g (de_of (d' := .lst (txD ((rows.drop (spS p rows).at_).take 2))) (de_cutLm g (de_var 1) (de_var 3) (addN (m := 2) (de_var 3) de_int)) (by rw [cutX_mid, Nat.add_sub_cancel_left]; unfold txD; rw [List.map_take, List.map_drop])) (by unfold txD; rw [List.length_map, List.length_take]; omega)) (by unfold txD; rw [List.map_reverse])) (by have := ht (spS p rows).at_; omega)) (cutF g (de_var 1) (addN (m := 2) (de_var 3) de_int)) (by rw [List.length_append]; have := ht (spS p rows).at_; have := hd ((spS p rows).at_ + 2); omega))) cr)), .rt⟩
  by_cases h33 : (spS p rows).way = 3
  · have eP : spP p rows = tkP (spS p rows).q 9 := by unfold spP; simp only; rw [if_neg (by omega), if_pos h33]
    have eR : spR p rows = rows.take (spS p rows).at_ ++ [moreL.getD (tk (spS p rows).q 9) []] ++ rows.drop (spS p rows).at_ := by
      unfold spR
      simp only
      rw [if_neg (by omega), if_neg (by omega), if_neg h22, if_pos h33]
    rw [eP, eR]
    have lm : ((μ.set j (spS p rows).q.m)).length = μ.length := List.length_set ..
    have hj1 := (List.getElem?_eq_some_iff.mp hj).1
    have m8 : txD moreL = txD (moreL.take 8) ++ [.str (Str.ofString "wires 2")] := rfl
    have dm : DS (cxOf (L2.CX P w) P w K mg base spN "_law_spoilt" (defScope sSpoilt) f cdv A0 outer s0 H E) N W [some (.l j), some (.p (.lst (txD rows))), some (.p (.int (((spS p rows).way : Nat) : Int))), some (.p (.int (((spS p rows).at_ : Nat) : Int))), some (.p (.lst (txD (spS p rows).ps))), some (.p (.int (((spS p rows).spot : Nat) : Int))), none, none, none] (μ.set j (spS p rows).q.m) ((bodyIf sSpoilt 5).getD 0 (.Pass ⟨0, 0, 0, 0⟩)) (.nx [some (.l j), some (.p (.lst (txD rows))), some (.p (.int (((spS p rows).way : Nat) : Int))), some (.p (.int (((spS p rows).at_ : Nat) : Int))), some (.p (.lst (txD (spS p rows).ps))), some (.p (.int (((spS p rows).spot : Nat) : Int))), some (.l μ.length), none, none] ((μ.set j (spS p rows).q.m) ++ [.lst (txD (moreL.take 8))])) := by
      rw [← lm]
      exact ds_set 6 (de_lstM (ds := txD (moreL.take 8)) (dp_cons de_str (dp_cons de_str (dp_cons de_str (dp_cons de_str (dp_cons de_str (dp_cons de_str (dp_cons de_str (dp_cons de_str dp_nil)))))))) (sz (by show 8 ≤ _; decide))) g.nd
    have da : DS (cxOf (L2.CX P w) P w K mg base spN "_law_spoilt" (defScope sSpoilt) f cdv A0 outer s0 H E) N W [some (.l j), some (.p (.lst (txD rows))), some (.p (.int (((spS p rows).way : Nat) : Int))), some (.p (.int (((spS p rows).at_ : Nat) : Int))), some (.p (.lst (txD (spS p rows).ps))), some (.p (.int (((spS p rows).spot : Nat) : Int))), some (.l μ.length), none, none] ((μ.set j (spS p rows).q.m) ++ [.lst (txD (moreL.take 8))]) ((bodyIf sSpoilt 5).getD 1 (.Pass ⟨0, 0, 0, 0⟩)) (.nx [some (.l j), some (.p (.lst (txD rows))), some (.p (.int (((spS p rows).way : Nat) : Int))), some (.p (.int (((spS p rows).at_ : Nat) : Int))), some (.p (.lst (txD (spS p rows).ps))), some (.p (.int (((spS p rows).spot : Nat) : Int))), some (.l μ.length), none, none] ((μ.set j (spS p rows).q.m) ++ [.lst (txD moreL)])) :=
      ds_toX (ds_expr (de_bm PySem.F.plainAttrs_list PySem.F.slot_list_append PySem.F.type_list_append (de_var 6) (da_cons de_str da_nil) (m_append (end_at lm) (end_at lm) (sz' (by show 8 ≤ _; decide))))) (by rw [end_set lm, m8])
    have eg : ∀ q : M, (μ.set j q ++ [M.gone]).take μ.length = μ.set j q := fun q => by
      rw [List.take_append_of_le_length (by simp), List.take_of_length_le (by simp)]
    have st1 : ((μ.set j (spS p rows).q.m) ++ [M.gone]).set j (tkP (spS p rows).q 9).m = μ.set j (tkP (spS p rows).q 9).m ++ [.gone] := by
      rw [List.set_append_left _ _ (by simpa using hj1), List.set_set]
    have at1 : ((μ.set j (spS p rows).q.m) ++ [M.gone])[j]? = some (spS p rows).q.m := by
      rw [List.getElem?_append_left (by simpa using hj1)]
      exact hat _
    refine ⟨_, pre _ (dss_skip (dt_of t3 (decide_eq_false h2)) (dss_skip (dt_of t4 (decide_eq_false h22)) (dss_ifT (dt_of t5 (decide_eq_true h33)) (dss_cons dm (cn (dss_cons da (cn (dss_freeze (end_at lm) (by omega) 6 rfl (Eq.mp (congrArg (fun ν => DSs _ N W _ ν _ _) (end_set lm).symm) (dss_ret (catT (catT (cutT g (de_var 1) (de_var 3)) (de_lst (ds := txD [moreL.getD (tk (spS p rows).q 9) []]) (dp_cons (de_call (r := .v (.p (rwD (moreL.getD (tk (spS p rows).q 9) [])))) (μ2 := μ.set j (tkP (spS p rows).q 9).m ++ [.gone]) g co (da_cons (de_var 0) (da_cons (s := .p (.lst (moreL.map rwD))) (de_var 6) da_nil)) ⟨j, (spS p rows).q, p3.mono (by omega), at1, .inl ⟨List Nat, rwD, [], moreL, by decide, by decide, rfl, rfl, st1.symm⟩⟩) dp_nil) (sz (by show 1 ≤ _; decide))) (by have := ht (spS p rows).at_; show _ + 1 ≤ _; omega)) (cutF g (de_var 1) (de_var 3)) (by rw [List.length_append]; have := ht (spS p rows).at_; have := hd (spS p rows).at_; show _ + 1 + _ ≤ _; omega))))))))) cr))), ?_⟩
    conv => rhs; rw [← eg]
    exact .rtT (Nat.le_refl _)
  · have eR : spR p rows = rows.take (spS p rows).at_ ++ [TL.joinL [32] (spPs (spS p rows))] ++ rows.drop ((spS p rows).at_ + 1) := by
      unfold spR
      simp only
      rw [if_neg (by omega), if_neg (by omega), if_neg h22, if_neg h33]
    have eP : spP p rows = if (spS p rows).way = 4 then (spS p rows).q else tkP (spS p rows).q 27 := by
      unfold spP
      simp only
      rw [if_neg (by omega), if_neg h33]
    have da : DS (cxOf (L2.CX P w) P w K mg base spN "_law_spoilt" (defScope sSpoilt) f cdv A0 outer s0 H E) N W [some (.l j), some (.p (.lst (txD rows))), some (.p (.int (((spS p rows).way : Nat) : Int))), some (.p (.int (((spS p rows).at_ : Nat) : Int))), some (.p (.lst (txD (spS p rows).ps))), some (.p (.int (((spS p rows).spot : Nat) : Int))), none, none, none] (μ.set j (spS p rows).q.m) ((defBody sSpoilt).getD 6 (.Pass ⟨0, 0, 0, 0⟩)) (.nx [some (.l j), some (.p (.lst (txD rows))), some (.p (.int (((spS p rows).way : Nat) : Int))), some (.p (.int (((spS p rows).at_ : Nat) : Int))), some (.p (.lst (txD (spS p rows).ps))), some (.p (.int (((spS p rows).spot : Nat) : Int))), none, some (.p (.lst (txD someA))), none] (μ.set j (spS p rows).q.m)) := ds_set 7 (de_of (d' := .lst (txD someA)) (de_lst (dp_cons de_str (dp_cons de_str (dp_cons de_str (dp_cons de_str (dp_cons de_str (dp_cons de_str (dp_cons de_str (dp_cons de_str (dp_cons de_str (dp_cons de_str (dp_cons de_str (dp_cons de_str (dp_cons de_str (dp_cons de_str (dp_cons de_str (dp_cons de_str (dp_cons de_str (dp_cons de_str (dp_cons de_str dp_nil))))))))))))))))))) (sz (by show 19 ≤ _; decide))) rfl) g.nd
    have last : atI (txD (spS p rows).ps) (-1) = some (rwD ((spS p rows).ps.getLastD [])) := by
      have e := List.dropLast_concat_getLast pne
      have e2 : (spS p rows).ps.getLastD [] = (spS p rows).ps.getLast pne := by rw [List.getLastD_eq_getLast?, List.getLast?_eq_some_getLast pne]; rfl
      rw [e2]
      conv => lhs; rw [← e]
      rw [tx_app]
      exact atI_last _ _
    have first : atI (txD (spS p rows).ps) ((0 : Nat) : Int) = some (rwD ((spS p rows).ps.getD 0 [])) := at_getD (q := rwD) ppos
    have spt : atI (txD (spS p rows).ps) (((spS p rows).spot : Nat) : Int) = some (rwD ((spS p rows).ps.getD (spS p rows).spot [])) := at_getD (q := rwD) hspot
    have lspt : ((spS p rows).ps.getD (spS p rows).spot []).length ≤ b := getD_le hps _
    have db : DS (cxOf (L2.CX P w) P w K mg base spN "_law_spoilt" (defScope sSpoilt) f cdv A0 outer s0 H E) N W [some (.l j), some (.p (.lst (txD rows))), some (.p (.int (((spS p rows).way : Nat) : Int))), some (.p (.int (((spS p rows).at_ : Nat) : Int))), some (.p (.lst (txD (spS p rows).ps))), some (.p (.int (((spS p rows).spot : Nat) : Int))), none, some (.p (.lst (txD someA))), none] (μ.set j (spS p rows).q.m) ((defBody sSpoilt).getD 7 (.Pass ⟨0, 0, 0, 0⟩)) (.nx [some (.l j), some (.p (.lst (txD rows))), some (.p (.int (((spS p rows).way : Nat) : Int))), some (.p (.int (((spS p rows).at_ : Nat) : Int))), some (.p (.lst (txD (spS p rows).ps))), some (.p (.int (((spS p rows).spot : Nat) : Int))), none, some (.p (.lst (txD (someP (spS p rows).ps (spS p rows).spot)))), none] (μ.set j (spS p rows).q.m)) :=
      ds_set 7 (catT (de_var 7) (de_of (d' := .lst (txD (someB (spS p rows).ps (spS p rows).spot))) (de_lst (dp_cons de_str (dp_cons de_str (dp_cons de_str (dp_cons de_str (dp_cons (de_ix (de_var 4) de_int (i_lst (i := ((0 : Nat) : Int)) g first)) (dp_cons (de_ix (de_var 4) (de_un de_int u_neg) (i_lst (i := -1) g last)) (dp_cons (de_of (d' := rwD ((spS p rows).ps.getD (spS p rows).spot [] ++ [48])) (de_bin (de_ix (de_var 4) (de_var 5) (i_lst g spt)) (de_of (d' := rwD [48]) de_str rfl) (o_addS (by rw [st_len, st_len]; exact sz (by show _ + 1 ≤ _; omega)))) (congrArg D.str (st_app _ _))) (dp_cons (de_of (d' := rwD (45 :: (spS p rows).ps.getD (spS p rows).spot [])) (de_bin (de_of (d' := rwD [45]) de_str rfl) (de_ix (de_var 4) (de_var 5) (i_lst g spt)) (o_addS (by rw [st_len, st_len]; exact sz (by show 1 + _ ≤ _; omega)))) (congrArg D.str (st_app _ _))) dp_nil)))))))) (sz (by show 8 ≤ _; decide))) rfl) (by show 19 + 8 ≤ _; decide)) g.nd
    have lf : (spFresh (spS p rows)).length ≤ 1 := by unfold spFresh; split; exact Nat.zero_le _; exact Nat.le_refl _
    have dc : DS (cxOf (L2.CX P w) P w K mg base spN "_law_spoilt" (defScope sSpoilt) f cdv A0 outer s0 H E) N W [some (.l j), some (.p (.lst (txD rows))), some (.p (.int (((spS p rows).way : Nat) : Int))), some (.p (.int (((spS p rows).at_ : Nat) : Int))), some (.p (.lst (txD (spS p rows).ps))), some (.p (.int (((spS p rows).spot : Nat) : Int))), none, some (.p (.lst (txD (someP (spS p rows).ps (spS p rows).spot)))), none] (μ.set j (spS p rows).q.m) ((defBody sSpoilt).getD 8 (.Pass ⟨0, 0, 0, 0⟩)) (.nx [some (.l j), some (.p (.lst (txD rows))), some (.p (.int (((spS p rows).way : Nat) : Int))), some (.p (.int (((spS p rows).at_ : Nat) : Int))), some (.p (.lst (txD (spS p rows).ps))), some (.p (.int (((spS p rows).spot : Nat) : Int))), none, some (.p (.lst (txD (someP (spS p rows).ps (spS p rows).spot)))), some (.p (.lst (txD (spFresh (spS p rows)))))] (μ.set j (spP p rows).m)) := by
      rw [eP]
      by_cases h4 : (spS p rows).way = 4
      · have ef : spFresh (spS p rows) = [] := if_pos h4
        rw [if_pos h4, ef]
        exact ds_set 8 (de_if (k := true) (dt_of (dt_cmp (de_var 2) de_int o_eqI) (decide_eq_true (by omega))) (fun _ => de_lst dp_nil) (fun h => by cases h)) g.nd
      · have ef : spFresh (spS p rows) = [(someP (spS p rows).ps (spS p rows).spot).getD (tk (spS p rows).q 27) []] := if_neg h4
        rw [if_neg h4, ef]
        exact ds_set 8 (de_if (k := false) (dt_of (dt_cmp (de_var 2) de_int o_eqI) (decide_eq_false (by omega))) (fun h => by cases h) (fun _ => de_lst (ds := txD [(someP (spS p rows).ps (spS p rows).spot).getD (tk (spS p rows).q 27) []]) (dp_cons (de_call (r := .v (.p (rwD ((someP (spS p rows).ps (spS p rows).spot).getD (tk (spS p rows).q 27) [])))) (μ2 := μ.set j (tkP (spS p rows).q 27).m) g co (da_cons (de_var 0) (da_cons (s := .p (.lst ((someP (spS p rows).ps (spS p rows).spot).map rwD))) (de_var 7) da_nil)) ⟨j, (spS p rows).q, p3.mono (by omega), hat _, .inl ⟨List Nat, rwD, [], someP (spS p rows).ps (spS p rows).spot, by unfold someP someA; simp, by show 27 < 100; decide, rfl, rfl, by rw [List.set_set]; rfl⟩⟩) dp_nil) (sz (by show 1 ≤ _; decide)))) g.nd
    have dd : DS (cxOf (L2.CX P w) P w K mg base spN "_law_spoilt" (defScope sSpoilt) f cdv A0 outer s0 H E) N W [some (.l j), some (.p (.lst (txD rows))), some (.p (.int (((spS p rows).way : Nat) : Int))), some (.p (.int (((spS p rows).at_ : Nat) : Int))), some (.p (.lst (txD (spS p rows).ps))), some (.p (.int (((spS p rows).spot : Nat) : Int))), none, some (.p (.lst (txD (someP (spS p rows).ps (spS p rows).spot)))), some (.p (.lst (txD (spFresh (spS p rows)))))] (μ.set j (spP p rows).m) ((defBody sSpoilt).getD 9 (.Pass ⟨0, 0, 0, 0⟩)) (.nx [some (.l j), some (.p (.lst (txD rows))), some (.p (.int (((spS p rows).way : Nat) : Int))), some (.p (.int (((spS p rows).at_ : Nat) : Int))), some (.p (.lst (txD (spPs (spS p rows))))), some (.p (.int (((spS p rows).spot : Nat) : Int))), none, some (.p (.lst (txD (someP (spS p rows).ps (spS p rows).spot)))), some (.p (.lst (txD (spFresh (spS p rows)))))] (μ.set j (spP p rows).m)) := by
      refine ds_set 4 (catT (catT (cutT g (de_var 4) (de_var 5)) (de_var 8) (by have := List.length_take_le (spS p rows).spot (spS p rows).ps; omega)) (cutF g (de_var 4) (addN (m := if (spS p rows).way = 5 then 0 else 1) (de_var 5) (de_of (de_callT (T := "int") (da_cons (s := .p (.bl (!decide ((spS p rows).way = 5)))) (de_of (d' := .bl (!decide ((spS p rows).way = 5))) (de_cmp (de_var 2) de_int o_neI) (congrArg (fun q => D.bl (!q)) (decide_eq_decide.mpr (by omega)))) da_nil) c_intB T.int (by decide +kernel)) ?_))) ?_) g.nd
      · by_cases h5 : (spS p rows).way = 5
        · rw [decide_eq_true h5, if_pos h5]; rfl
        · rw [decide_eq_false h5, if_neg h5]; rfl
      · rw [List.length_append]
        have := List.length_take_le (spS p rows).spot (spS p rows).ps
        have := List.length_drop (i := (spS p rows).spot + (if (spS p rows).way = 5 then 0 else 1)) (l := (spS p rows).ps)
        omega
    have lP : (spPs (spS p rows)).length ≤ 1000 := by
      unfold spPs
      rw [List.length_append, List.length_append]
      have := List.length_take_le (spS p rows).spot (spS p rows).ps
      have := List.length_drop (i := (spS p rows).spot + (if (spS p rows).way = 5 then 0 else 1)) (l := (spS p rows).ps)
      omega
    have oP : ∀ v ∈ spPs (spS p rows), v.length ≤ 400 := fun v hv => by
      unfold spPs at hv
      rcases List.mem_append.mp hv with hv | hv
      · rcases List.mem_append.mp hv with hv | hv
        · have := hps v (List.mem_of_mem_take hv); omega
        · unfold spFresh at hv
          split at hv
          · cases hv
          · rw [List.mem_singleton.mp hv]
            have := getD_le (someP_len hps (spS p rows).spot) (tk (spS p rows).q 27)
            omega
      · have := hps v (List.mem_of_mem_drop hv); omega
    rw [eR]
    refine ⟨_, pre _ (dss_skip (dt_of t3 (decide_eq_false h2)) (dss_skip (dt_of t4 (decide_eq_false h22)) (dss_skip (dt_of t5 (decide_eq_false h33)) (dss_cons da (cn (dss_cons db (cn (dss_cons dc (cn (dss_cons dd (cn (dss_ret (catT (catT (cutT g (de_var 1) (de_var 3)) (de_lst (ds := txD [TL.joinL [32] (spPs (spS p rows))]) (dp_cons (de_of (d' := rwD (TL.joinL [32] (spPs (spS p rows)))) (de_bm PySem.F.plainAttrs_str PySem.F.slot_str_join PySem.F.type_str_join de_str (da_cons (s := .p (.lst (((spPs (spS p rows)).map st).map D.str))) (de_of (de_var 4) (by unfold txD; rw [List.map_map]; rfl)) da_nil) (m_join (join_lim (m := 400) (k := 1000) oP lP (by decide)))) (congrArg D.str (join32 _))) dp_nil) (sz (by show 1 ≤ _; decide))) (by have := ht (spS p rows).at_; show _ + 1 ≤ _; omega)) (cutF g (de_var 1) (addN (m := 1) (de_var 3) de_int)) (by rw [List.length_append]; have := ht (spS p rows).at_; have := hd ((spS p rows).at_ + 1); show _ + 1 + _ ≤ _; omega)))))))))))))), .rt⟩
end
end K20
set_option Elab.async false
set_option linter.all false
set_option maxRecDepth 100000
set_option maxHeartbeats 4000000
set_option autoImplicit false
namespace K20
open PySem PySem.Spec PyProof.Rows L2 Dl Cq
/-! ### the drawn rows -/
abbrev roN : List Str := ["pot", "wires", "lines", "way", "lap"]
theorem scRowsOf : FnScope roN ["pot"] (defScope sRowsOf) := ⟨rfl, rfl, rfl, by decide +kernel, rfl, by decide +kernel, by decide +kernel⟩
def roK (p : Pot) : List (List Nat) × Pot := knobsD 3 (tkP (drT p).p 4)
def roA (p : Pot) : LnT := linesT (drN p) (roK p).1 6 4 (roK p).2
def roH (p : Pot) : List Ln := scanO (fun (_ : Nat) q => Ln.h (tk q (drN p))) (fun _ q => tkP q (drN p)) (List.range 40) (tkP (drT p).p 4)
def roHP (p : Pot) : Pot := scanT (fun (_ : Nat) q => tkP q (drN p)) (List.range 40) (tkP (drT p).p 4)
def roL (p : Pot) : List Ln := if tk (drT p).p 4 = 0 then (roA p).ls else if tk (drT p).p 4 = 1 then ((drT p).ls ++ roH p).take (39 + tk (roHP p) 2) else (drT p).ls
def roP (p : Pot) : Pot := if tk (drT p).p 4 = 0 then (roA p).p else if tk (drT p).p 4 = 1 then tkP (roHP p) 2 else tkP (drT p).p 4
def roR (p : Pot) : List (List Nat) := Cq.wT (drN p) :: (roL p).map lt
theorem roK_is (p : Pot) : okKs (roK p).1 := knobsD_is (by decide) (by decide)
theorem roH_ok {n : Nat} (hn : 1 ≤ n) : ∀ (l : List Nat) (q : Pot), ∀ x ∈ scanO (fun (_ : Nat) q => Ln.h (tk q n)) (fun _ q => tkP q n) l q, okLn n x ∧ isT x = false
  | [], _, x, h => by cases h
  | a :: l, q, x, h => by
    rcases List.mem_cons.mp h with rfl | h
    · exact ⟨tk_lt hn, rfl⟩
    · exact roH_ok hn l _ x h
theorem roL_ok (p : Pot) : okC (drN p) (roL p) := by
  obtain ⟨n1, n4⟩ := drN_is p
  have hd := (drT_is p).1
  unfold roL
  split
  · exact linesC n1 n4 (roK_is p) (by decide) (by decide)
  split
  · have ht := tk_lt (p := roHP p) (u := 2) (by decide)
    have hh := roH_ok n1 (List.range 40) (tkP (drT p).p 4)
    refine ⟨n1, n4, fun l hl => ?_, by rw [List.length_take]; omega, ?_⟩
    · rcases List.mem_append.mp (List.mem_of_mem_take hl) with hl | hl
      · exact hd.ok l hl
      · exact (hh l hl).1
    · have h1 : ((((drT p).ls ++ roH p).take (39 + tk (roHP p) 2)).filter isT).length ≤ (((drT p).ls ++ roH p).filter isT).length := ((List.take_sublist _ _).filter _).length_le
      have h2 : (roH p).filter isT = [] := List.filter_eq_nil_iff.mpr fun l hl => by rw [(hh l hl).2]; decide
      rw [List.filter_append, h2, List.append_nil] at h1
      exact Nat.le_trans h1 hd.six
  · exact hd
theorem ten_no {w : Nat} {ls : List Ln} (h : okC w ls) : ∀ v ∈ Cq.wT w :: ls.map lt, 10 ∉ v := fun v hv hc => by
  rcases List.mem_cons.mp hv with rfl | hv
  · have := h.w4
    unfold Cq.wT at hc
    simp at hc
    omega
  · obtain ⟨l, hl, rfl⟩ := List.mem_map.mp hv
    have := (lt_signs h.w4 (h.ok l hl) 10 hc).1
    omega
theorem roR_spl (p : Pot) : TL.spl [10] 0 [] (ct (drN p) (roL p)) = roR p := TL.spl_join (by simp) (ten_no (roL_ok p))
theorem wT_len (w : Nat) : (Cq.wT w).length = 7 := rfl
theorem wsum_le {b : Nat} : ∀ {ws : List (List Nat)}, (∀ v ∈ ws, v.length ≤ b) → wsum ws ≤ ws.length * (b + 1)
  | [], _ => Nat.zero_le _
  | v :: ws, h => by
    have h1 := h v List.mem_cons_self
    have h2 := wsum_le (ws := ws) fun x hx => h x (List.mem_cons_of_mem _ hx)
    have e : wsum (v :: ws) = v.length + 1 + wsum ws := by unfold wsum; rw [List.map_cons, List.sum_cons]
    rw [e, List.length_cons, Nat.add_mul]
    omega
theorem roR_rs (p : Pot) : Rs 81 41 3362 (roR p) := by
  have hok := roL_ok p
  have hl := hok.len
  have one : ∀ v ∈ roR p, v.length ≤ 81 := fun v hv => by
    rcases List.mem_cons.mp hv with rfl | hv
    · exact Nat.le_trans (Nat.le_of_eq (wT_len _)) (by decide)
    · obtain ⟨l, hl, rfl⟩ := List.mem_map.mp hv
      exact lt_len (hok.ok l hl)
  have len : (roR p).length ≤ 41 := by
    unfold roR
    rw [List.length_cons, List.length_map]
    omega
  refine ⟨len, one, ?_⟩
  have := wsum_le one
  have : (roR p).length * (81 + 1) ≤ 41 * 82 := Nat.mul_le_mul len (Nat.le_refl _)
  omega
theorem roK_ok {m : Nat} {p : Pot} (h : p.ok m) : (roK p).2.ok (m + 210) := (someF_ok (tkP_ok (drT_ok h))).mono (by omega)
theorem roHP_ok {m : Nat} {p : Pot} (h : p.ok m) : (roHP p).ok (m + 241) := by
  have : ∀ (l : List Nat) (q : Pot) (m : Nat), q.ok m → (scanT (fun (_ : Nat) q => tkP q (drN p)) l q).ok (m + l.length) := by
    intro l
    induction l with
    | nil => intro q m h; exact h
    | cons a l ih =>
      intro q m h
      have := ih _ _ (tkP_ok (u := drN p) h)
      rw [List.length_cons, show m + (l.length + 1) = m + 1 + l.length by omega]
      exact this
  have h2 := this (List.range 40) _ _ (tkP_ok (u := 4) (drT_ok h))
  rw [List.length_range] at h2
  exact h2.mono (by omega)
theorem roP_ok {m : Nat} {p : Pot} (h : p.ok m) : (roP p).ok (m + 400) := by
  unfold roP
  split
  · exact (linesT_ok (drN_is p).2 (roK_is p) (roK_ok h)).mono (by omega)
  split
  · exact (tkP_ok (roHP_ok h)).mono (by omega)
  · exact (tkP_ok (drT_ok h)).mono (by omega)
def rRowsOf : Rel := fun ss μ r μ' => ∃ (j : Nat) (p : Pot), p.ok 7000 ∧ ss = [.l j] ∧ μ[j]? = some p.m ∧ r = .v (.p (.lst (txD (roR p)))) ∧ μ' = μ.set j (roP p).m
section
variable {P : Program} {w : World} {K : PySem.W.Frag} {mg : Str → Option Value} {base : Heap} {f : Addr} {fd : FuncData}
theorem ok_rowsof (F : Fun K "_law_rows_of" "_law_rows_of" sRowsOf f fd) (T : TM mg) (ct_ : Cf P w K mg base 1 "_law_take" [] rTk) (cd : Cf P w K mg base 6 "_law_drawn" [] rDrawn) (cl_ : Cf P w K mg base 5 "_law_lines" [] rLines) (ck : Cf P w K mg base 3 "_law_knobs" [] rKnobs) (cx_ : Cf P w K mg base 3 "_law_text" [] rText) : FnOk P w K mg base (L2.CX P w) 7 f fd ["pot"] (spD K rRowsOf) := by
  refine fn_D (k := 6) F scRowsOf (fun ss μ r μ' h => by obtain ⟨_, _, _, rfl, _⟩ := h; rfl) ?_
  intro cdv A0 outer s0 H E N W ss μ r μ' g hA hR
  obtain ⟨j, p, hp, rfl, hj, rfl, rfl⟩ := hR
  have hat : ∀ q : M, (μ.set j q)[j]? = some q := fun q => set_at hj
  obtain ⟨n1, n4⟩ := drN_is p
  have hok := roL_ok p
  have q1 : (drT p).p.ok 7200 := drT_ok hp
  have q2 : (tkP (drT p).p 4).ok 7201 := tkP_ok q1
  have q3 : (roK p).2.ok 7210 := (roK_ok hp)
  have q4 : (roHP p).ok 7241 := roHP_ok hp
  have hway := tk_lt (p := (drT p).p) (u := 4) (by decide)
  have d0 : DS (cxOf (L2.CX P w) P w K mg base roN "_law_rows_of" (defScope sRowsOf) f cdv A0 outer s0 H E) N W (starts roN [.l j]) μ ((defBody sRowsOf).getD 0 (.Pass ⟨0, 0, 0, 0⟩)) (.nx [some (.l j), some (.p (.int ((drN p : Nat) : Int))), some (.p (.lst ((drT p).ls.map lnD))), none, none] (μ.set j (drT p).p.m)) :=
    ds_asg (de_call (r := .v (.p (.tup [.int ((drN p : Nat) : Int), .lst ((drT p).ls.map lnD)]))) g cd (da_cons (de_var 0) (da_cons de_int da_nil)) ⟨j, p, hp.mono (by omega), rfl, hj, rfl, rfl⟩) (dg_tup (dgs_cons (dg_name 1 g.nd) (dgs_cons (dg_name 2 g.nd) dgs_nil)) g.hK g.calm) rfl
  have d1 : DS (cxOf (L2.CX P w) P w K mg base roN "_law_rows_of" (defScope sRowsOf) f cdv A0 outer s0 H E) N W [some (.l j), some (.p (.int ((drN p : Nat) : Int))), some (.p (.lst ((drT p).ls.map lnD))), none, none] (μ.set j (drT p).p.m) ((defBody sRowsOf).getD 1 (.Pass ⟨0, 0, 0, 0⟩)) (.nx [some (.l j), some (.p (.int ((drN p : Nat) : Int))), some (.p (.lst ((drT p).ls.map lnD))), some (.p (.int ((tk (drT p).p 4 : Nat) : Int))), none] (μ.set j (tkP (drT p).p 4).m)) :=
    ds_set 3 (de_call (μ2 := μ.set j (tkP (drT p).p 4).m) g ct_ (da_cons (de_var 0) (da_cons de_int da_nil)) ⟨j, (drT p).p, 4, q1.mono (by omega), by decide, by decide, rfl, hat _, rfl, by rw [List.set_set]⟩) g.nd
  have d2 : DS (cxOf (L2.CX P w) P w K mg base roN "_law_rows_of" (defScope sRowsOf) f cdv A0 outer s0 H E) N W [some (.l j), some (.p (.int ((drN p : Nat) : Int))), some (.p (.lst ((drT p).ls.map lnD))), some (.p (.int ((tk (drT p).p 4 : Nat) : Int))), none] (μ.set j (tkP (drT p).p 4).m) ((defBody sRowsOf).getD 2 (.Pass ⟨0, 0, 0, 0⟩)) (.nx [some (.l j), some (.p (.int ((drN p : Nat) : Int))), some (.p (.lst ((if tk (drT p).p 4 = 0 then (roA p).ls else (drT p).ls).map lnD))), some (.p (.int ((tk (drT p).p 4 : Nat) : Int))), none] (μ.set j (if tk (drT p).p 4 = 0 then (roA p).p else tkP (drT p).p 4).m)) := by
    by_cases h0 : tk (drT p).p 4 = 0
    · rw [if_pos h0, if_pos h0]
      exact ds_if (k := true) (dt_of (dt_cmp (de_var 3) de_int o_eqI) (decide_eq_true (by omega))) (fun _ => dss_cons (ds_set 2 (de_call (r := .v (.p (.lst ((roA p).ls.map lnD)))) (μ2 := μ.set j (roA p).p.m) g cl_ (da_cons (de_var 0) (da_cons (de_var 1) (da_cons (s := .p (.lst ((roK p).1.map nmD))) (de_call (μ2 := μ.set j (roK p).2.m) g ck (da_cons (de_var 0) (da_cons (de_of (d' := .int ((3 : Nat) : Int)) de_int rfl) da_nil)) ⟨j, tkP (drT p).p 4, 3, q2.mono (by omega), by decide, rfl, hat _, rfl, by rw [List.set_set]; rfl⟩) (da_cons (de_of (d' := .int ((6 : Nat) : Int)) de_int rfl) (da_cons (de_of (d' := .int ((4 : Nat) : Int)) de_int rfl) da_nil))))) ⟨j, (roK p).2, drN p, (roK p).1, 6, 4, q3.mono (by omega), n1, n4, roK_is p, by decide, by decide, rfl, hat _, rfl, by rw [List.set_set]; rfl⟩) g.nd) (cn dss_nil)) (fun h => by cases h)
    · rw [if_neg h0, if_neg h0]
      exact ds_if (k := false) (dt_of (dt_cmp (de_var 3) de_int o_eqI) (decide_eq_false (by omega))) (fun h => by cases h) (fun _ => dss_nil)
  have d3 : DS (cxOf (L2.CX P w) P w K mg base roN "_law_rows_of" (defScope sRowsOf) f cdv A0 outer s0 H E) N W [some (.l j), some (.p (.int ((drN p : Nat) : Int))), some (.p (.lst ((if tk (drT p).p 4 = 0 then (roA p).ls else (drT p).ls).map lnD))), some (.p (.int ((tk (drT p).p 4 : Nat) : Int))), none] (μ.set j (if tk (drT p).p 4 = 0 then (roA p).p else tkP (drT p).p 4).m) ((defBody sRowsOf).getD 3 (.Pass ⟨0, 0, 0, 0⟩)) (.nx [some (.l j), some (.p (.int ((drN p : Nat) : Int))), some (.p (.lst ((roL p).map lnD))), some (.p (.int ((tk (drT p).p 4 : Nat) : Int))), none] (μ.set j (roP p).m)) := by
    by_cases h1 : tk (drT p).p 4 = 1
    · have e1 : roL p = ((drT p).ls ++ roH p).take (39 + tk (roHP p) 2) := by unfold roL; rw [if_neg (by omega), if_pos h1]
      have e2 : roP p = tkP (roHP p) 2 := by unfold roP; rw [if_neg (by omega), if_pos h1]
      rw [if_neg (by omega), if_neg (by omega), e1, e2]
      have lh : (roH p).length = 40 := by unfold roH; rw [scanO_len, List.length_range]
      have ld := (drT_is p).2
      refine ds_if (k := true) (dt_of (dt_cmp (de_var 3) de_int o_eqI) (decide_eq_true (by omega))) (fun _ => dss_cons (ds_set 2 (de_of (d' := .lst ((((drT p).ls ++ roH p).take (39 + tk (roHP p) 2)).map lnD)) (de_cutLt (μ2 := μ.set j (tkP (roHP p) 2).m) g (de_bin (de_var 2) (de_lc (ys := (roH p).map lnD) (μ2 := μ.set j (roHP p).m) g [("lap", 4)] (di_range1 (da_cons de_int da_nil) T.range (by decide)) (fun s H C cl fp => dg_name 4 g.nd) ?cm (ok := blkOk_by (by rfl)) (hds := sz' (by show 40 ≤ _; decide))) (o_catL (by rw [List.length_map, List.length_map]; exact sz (by omega)))) (addN (k := 39) (m := tk (roHP p) 2) (de_of (d' := .int ((39 : Nat) : Int)) de_int rfl) (de_call (μ2 := μ.set j (tkP (roHP p) 2).m) g ct_ (da_cons (de_var 0) (da_cons (de_of (d' := .int ((2 : Nat) : Int)) de_int rfl) da_nil)) ⟨j, roHP p, 2, q4.mono (by omega), by decide, by decide, rfl, hat _, rfl, by rw [List.set_set]⟩))) (by rw [cutX_to, ← List.map_append, ← List.map_take])) g.nd) (cn dss_nil)) (fun h => by cases h)
      case cm =>
        rw [← show scanO (fun (_ : Nat) q => lnD (Ln.h (tk q (drN p)))) (fun _ q => tkP q (drN p)) (List.range 40) (tkP (drT p).p 4) = (roH p).map lnD from scanO_map lnD _ _ _ _]
        exact of_scan (T := Pot) (mu := fun t => μ.set j t.m) (fun m t => m ≤ 40 ∧ t.ok (7300 - m)) (List.range 40) (tkP (drT p).p 4) ⟨by decide, q2.mono (by decide)⟩ fun m t a _ hi => ⟨⟨by omega, (tkP_ok hi.2).mono (by omega)⟩, _, rfl, fun s H C cl fp N' hK g' => de_of (d' := lnD (Ln.h (tk t (drN p)))) (de_tup (dp_cons de_str (dp_cons (de_call g' ct_ (da_cons (de_var 0) (da_cons (de_var 1) da_nil)) ⟨j, t, drN p, hi.2.mono (by omega), by omega, by omega, rfl, hat _, rfl, by rw [List.set_set]⟩) dp_nil)) (sz (by show 2 ≤ _; decide))) rfl⟩
    · have e1 : roL p = if tk (drT p).p 4 = 0 then (roA p).ls else (drT p).ls := by unfold roL; rw [if_neg h1]
      have e2 : roP p = if tk (drT p).p 4 = 0 then (roA p).p else tkP (drT p).p 4 := by unfold roP; rw [if_neg h1]
      rw [← e1, ← e2]
      exact ds_if (k := false) (dt_of (dt_cmp (de_var 3) de_int o_eqI) (decide_eq_false (by omega))) (fun h => by cases h) (fun _ => dss_nil)
  have hl := ct_len hok
  exact ⟨_, dss_cons d0 (cn (dss_cons d1 (cn (dss_cons d2 (cn (dss_cons d3 (cn (dss_ret (de_of (d' := .lst (txD (roR p))) (de_bm PySem.F.plainAttrs_str PySem.F.slot_str_split PySem.F.type_str_split (de_call g cx_ (da_cons (de_var 1) (da_cons (de_var 2) da_nil)) ⟨drN p, roL p, hok, rfl, rfl, rfl⟩) (da_cons de_str da_nil) (m_split (by decide) (by rw [st_len]; exact sz (by omega)))) (by rw [split_nl, roR_spl])))))))))), .rt⟩
end
end K20
set_option Elab.async false
set_option linter.all false
set_option maxRecDepth 100000
set_option maxHeartbeats 4000000
set_option autoImplicit false
namespace Dl
open PySem PySem.Spec PyProof.Rows L2
/-! ## [x.upper(), x.replace('y', 'z'), 'c', 'd'] -/
section
variable {X : Cx} {o : Expr} {to : TE} {apos pos : Pos}
theorem peg_upper (ho : PE X o to) (hbase : attributeBase o "upper" X.env (eval o X.env) = eval o X.env := by rfl) (hline : (apos.endLine == pos.line) = true := by rfl) :
    PEG X (.Call (.Attribute o "upper" apos) [] [] pos) (tM0 (fun x xs H Q => ∃ a, x = .str a ∧ xs = [] ∧ a.length ≤ 5592405 ∧ Q (.str (Txt.upper a)) H) to) := by
  intro pins s σ H Q I h
  refine PySem.Call_method0 hbase hline (thn (ho.run pins s σ H _ I h) fun v s1 ⟨x, H1, I1, r1, q1⟩ => ?_)
  obtain ⟨⟨a, rfl⟩, a', e, _, hc, q1⟩ := q1
  cases e
  obtain ⟨t, rfl⟩ := _root_.id r1
  exact ⟨"str", _, PySem.F.plainAttrs_str, PySem.F.slot_str_upper, PySem.F.type_str_upper, typeIs_str _ _ _, (fun _ e => nomatch e), Calls.callWith_builtin rfl (PySem.evalArgs_none (PySem.SC.upper (PyProof.Rows.short24 (by have h1 : a.length ≤ 5592405 := hc; have := PyProof.Rows.len_upper a; omega)) ⟨by show 1 ≤ s1.toks + 1; omega, .str (Txt.upper a), H1, I1.tok _, ⟨_, rfl⟩, q1⟩))⟩
end
section
variable {X : Cx} {N : En} {W : WX} {n : Nat} {δ : List (Option S)} {μ : List M} {o o2 : Expr} {pos apos apos2 p1 p2 p3 p4 q1 q2 : Pos} {w y z c d : Str} {k k2 k3 k4}
theorem de_upRepl (ho : DE X N W δ μ o (.v (.p (.str w))) μ) (ho2 : DE X N W δ μ o2 (.v (.p (.str w))) μ) (hu : w.length ≤ 5592405) (hl : w.length + (w.length + 1) * z.length ≤ 16777216) (hyz : (y == z) = false := by decide)
    (hst : starEach [.Constant (.str y) k p1, .Constant (.str z) k2 p2] X.env = [(false, eval (.Constant (.str y) k p1) X.env), (false, eval (.Constant (.str z) k2 p2) X.env)] := by rfl)
    (hbase : attributeBase o2 "replace" X.env (eval o2 X.env) = eval o2 X.env := by rfl) (hbase2 : attributeBase o "upper" X.env (eval o X.env) = eval o X.env := by rfl) (hline : (apos.endLine == q1.line) = true := by rfl) (hline2 : (apos2.endLine == q2.line) = true := by rfl)
    (hs : starEach [.Call (.Attribute o "upper" apos) [] [] q1, .Call (.Attribute o2 "replace" apos2) [.Constant (.str y) k p1, .Constant (.str z) k2 p2] [] q2, .Constant (.str c) k3 p3, .Constant (.str d) k4 p4] X.env = (false, eval (.Call (.Attribute o "upper" apos) [] [] q1) X.env) :: starEach [.Call (.Attribute o2 "replace" apos2) [.Constant (.str y) k p1, .Constant (.str z) k2 p2] [] q2, .Constant (.str c) k3 p3, .Constant (.str d) k4 p4] X.env := by rfl)
    (hs2 : starEach [.Call (.Attribute o2 "replace" apos2) [.Constant (.str y) k p1, .Constant (.str z) k2 p2] [] q2, .Constant (.str c) k3 p3, .Constant (.str d) k4 p4] X.env = (false, eval (.Call (.Attribute o2 "replace" apos2) [.Constant (.str y) k p1, .Constant (.str z) k2 p2] [] q2) X.env) :: starEach [.Constant (.str c) k3 p3, .Constant (.str d) k4 p4] X.env := by rfl)
    (hs3 : starEach [.Constant (.str c) k3 p3, .Constant (.str d) k4 p4] X.env = (false, eval (.Constant (.str c) k3 p3) X.env) :: starEach [.Constant (.str d) k4 p4] X.env := by rfl)
    (hs4 : starEach [.Constant (.str d) k4 p4] X.env = (false, eval (.Constant (.str d) k4 p4) X.env) :: starEach [] X.env := by rfl) :
    DE X N W δ μ (.List [.Call (.Attribute o "upper" apos) [] [] q1, .Call (.Attribute o2 "replace" apos2) [.Constant (.str y) k p1, .Constant (.str z) k2 p2] [] q2, .Constant (.str c) k3 p3, .Constant (.str d) k4 p4] pos) (.v (.p (.lst [.str (Txt.upper w), .str (Txt.replace w y z), .str c, .str d]))) μ := by
  refine PE.imp (pe_lst (pa_consG (peg_upper ho hbase2 hline) (pat_cons (CwR.pet_replC (y := y) (z := z) ho2 hyz hst hbase hline2) (pat_cons (CwR.PET.of pe_str) (pat_cons (CwR.PET.of pe_str) pat_nil hs4) hs3) hs2) hs)) fun σ H Q ⟨F, A, R, kq⟩ => ?_
  refine ⟨F, A, R, fun v F1 A1 H1 e1 a1 R1 rv => ?_⟩
  cases (show Rep N.K F1 v (.str w) from rv)
  refine ⟨⟨w, rfl⟩, w, rfl, rfl, hu, ?_⟩
  refine ⟨F1, A1, R1, fun v4 F4 A4 H4 e4 a4 R4 rv4 => ?_⟩
  cases (show Rep N.K F4 v4 (.str w) from rv4)
  refine ⟨w, rfl, hl, ?_⟩
  refine ⟨by show 4 ≤ sizeLine; rw [sizeLine_eq]; decide, fun pp np => ?_⟩
  have sm := same_updN (o := .lst [V.str (Txt.upper w), .str (Txt.replace w y z), .str c, .str d]) (R4.rc.fresh np).2.1
  exact kq (.ref pp) _ A4 _ ((e1.trans e4).trans sm) (a1.trans a4) (R4.to sm (List.prefix_refl _) (R4.rc.frozen np _)) (.lst upd_same (.cons (.str _) (.cons (.str _) (.cons (.str _) (.cons (.str _) .nil)))))
end
end Dl
set_option Elab.async false
set_option linter.all false
set_option maxRecDepth 100000
set_option maxHeartbeats 4000000
set_option autoImplicit false
namespace K20
open PySem PySem.Spec PyProof.Rows L2 Dl Cq
/-! ### texts beside the drawn one -/
def rp1 (c : Nat) : List Nat := if c = 32 then [32, 32] else [c]
def rpL (L : List Nat) : List Nat := L.flatMap rp1
theorem rpL_eq : ∀ L : List Nat, StrLaws.replL [32] [32, 32] L = rpL L
  | [] => by unfold StrLaws.replL; rfl
  | c :: r => by
    by_cases h : c = 32
    · subst h
      rw [StrLaws.replL_hit (by simp) (by simp)]
      show [32, 32] ++ StrLaws.replL [32] [32, 32] ((32 :: r).drop 1) = _
      rw [show (32 :: r).drop 1 = r from rfl, rpL_eq r]
      rfl
    · rw [StrLaws.replL_miss (by simpa using h), rpL_eq r]
      show _ = rp1 c ++ rpL r
      unfold rp1
      rw [if_neg h]
      rfl
theorem repl_is (L : List Nat) : Txt.replace (st L) (Str.ofString " ") (Str.ofString "  ") = st (rpL L) := by
  have h := StrLaws.replace_list (x := st L) (y := Str.ofString " ") (z := Str.ofString "  ") (by decide)
  have e1 : (Str.ofString " ").cps.toList = [32] := rfl
  have e2 : (Str.ofString "  ").cps.toList = [32, 32] := rfl
  have e3 : (st L).cps.toList = L := by simp [Dl.st]
  rw [e1, e2, e3, rpL_eq] at h
  have : (Txt.replace (st L) (Str.ofString " ") (Str.ofString "  ")).cps = (rpL L).toArray := by rw [← h]
  cases hq : Txt.replace (st L) (Str.ofString " ") (Str.ofString "  ") with
  | mk cps =>
    rw [hq] at this
    have this : cps = (rpL L).toArray := this
    rw [this]
    rfl
theorem rpL_join : ∀ rows : List (List Nat), rpL (TL.joinL [10] rows) = TL.joinL [10] (rows.map rpL)
  | [] => rfl
  | [v] => rfl
  | v :: w :: r => by
    show rpL (v ++ ([10] ++ TL.joinL [10] (w :: r))) = rpL v ++ ([10] ++ TL.joinL [10] ((w :: r).map rpL))
    unfold rpL
    rw [List.flatMap_append, List.flatMap_append]
    have := rpL_join (w :: r)
    unfold rpL at this
    rw [this]
    rfl
theorem rpL_no {v : List Nat} (h : 32 ∉ v) : rpL v = v := by
  induction v with
  | nil => rfl
  | cons c r ih =>
    have h1 : c ≠ 32 := fun z => h (by rw [z]; exact List.mem_cons_self)
    show rp1 c ++ rpL r = _
    rw [ih fun z => h (List.mem_cons_of_mem _ z)]
    unfold rp1
    rw [if_neg h1]
    rfl
theorem rpL_words : ∀ ws : List (List Nat), (∀ v ∈ ws, 32 ∉ v) → (rpL (TL.joinL [32] ws)).length ≤ (TL.joinL [32] ws).length + ws.length
  | [], _ => Nat.zero_le _
  | [v], h => by
    show (rpL v).length ≤ v.length + 1
    rw [rpL_no (h v List.mem_cons_self)]
    omega
  | v :: w :: r, h => by
    have ih := rpL_words (w :: r) fun x hx => h x (List.mem_cons_of_mem _ hx)
    have e : rpL (TL.joinL [32] (v :: w :: r)) = rpL v ++ ([32, 32] ++ rpL (TL.joinL [32] (w :: r))) := by
      show rpL (v ++ ([32] ++ TL.joinL [32] (w :: r))) = _
      unfold rpL
      rw [List.flatMap_append, List.flatMap_append]
      rfl
    have e2 : TL.joinL [32] (v :: w :: r) = v ++ ([32] ++ TL.joinL [32] (w :: r)) := rfl
    rw [e, e2, rpL_no (h v List.mem_cons_self)]
    simp only [List.length_append, List.length_cons, List.length_nil] at ih ⊢
    omega
theorem row_rp (p : Pot) : ∀ v ∈ roR p, (rpL v).length ≤ v.length + 9 := fun v hv => by
  have hok := roL_ok p
  rcases List.mem_cons.mp hv with rfl | hv
  · have : (rpL (Cq.wT (drN p))).length = 8 := by
      have := drN_is p
      have h : drN p = 1 ∨ drN p = 2 ∨ drN p = 3 ∨ drN p = 4 := by omega
      rcases h with h | h | h | h <;> rw [h] <;> decide
    rw [wT_len]
    omega
  · obtain ⟨l, hl, rfl⟩ := List.mem_map.mp hv
    have h1 := (lw_len (hok.ok l hl)).1
    have h2 := rpL_words (lw l) fun x hx hc => by
      have := ((gd_lw hok.w4 (hok.ok l hl) x hx).2 32 hc).1
      omega
    show (rpL (TL.joinL [32] (lw l))).length ≤ (TL.joinL [32] (lw l)).length + 9
    omega
theorem wsum_rp {b : Nat} : ∀ {ws : List (List Nat)}, (∀ v ∈ ws, (rpL v).length ≤ v.length + b) → wsum (ws.map rpL) ≤ wsum ws + ws.length * b
  | [], _ => Nat.zero_le _
  | v :: ws, h => by
    have h1 := h v List.mem_cons_self
    have h2 := wsum_rp (ws := ws) fun x hx => h x (List.mem_cons_of_mem _ hx)
    have e : wsum (v :: ws) = v.length + 1 + wsum ws := by unfold wsum; rw [List.map_cons, List.sum_cons]
    have e3 : wsum ((v :: ws).map rpL) = (rpL v).length + 1 + wsum (ws.map rpL) := by unfold wsum; rw [List.map_cons, List.map_cons, List.sum_cons]
    rw [e, e3, List.length_cons, Nat.add_mul]
    omega
def roT (p : Pot) : List Nat := ct (drN p) (roL p)
theorem roT_len (p : Pot) : (roT p).length ≤ 3500 := ct_len (roL_ok p)
theorem roT_lb (p : Pot) : LB 81 (roT p) := LB.join (roR_rs p).one
theorem gx_rp (p : Pot) : Gx (rpL (roT p)) := by
  have rs := roR_rs p
  have e : rpL (roT p) = TL.joinL [10] ((roR p).map rpL) := rpL_join (roR p)
  have one : ∀ v ∈ (roR p).map rpL, v.length ≤ 90 := fun v hv => by
    obtain ⟨x, hx, rfl⟩ := List.mem_map.mp hv
    have := row_rp p x hx
    have := rs.one x hx
    omega
  refine ⟨?_, fun l hl => ?_⟩
  · rw [e]
    have h1 := (joinL_sum 10 ((roR p).map rpL)).1
    have h2 := wsum_rp (row_rp p)
    have h3 := rs.tot
    have h4 : (roR p).length * 9 ≤ 41 * 9 := Nat.mul_le_mul rs.len (Nat.le_refl _)
    omega
  · rw [e] at hl
    exact Nat.le_trans (LB.join one l hl) (by decide)
theorem gx_text (p : Pot) : Gx (roT p) := ⟨by have := roT_len p; omega, fun l hl => Nat.le_trans (roT_lb p l hl) (by decide)⟩
/-! a blank before and behind -/
theorem spl_acc (s : Nat) : ∀ (t acc : List Nat), ∃ h r, TL.spl [s] 0 [] t = h :: r ∧ TL.spl [s] 0 acc t = (acc ++ h) :: r
  | [], acc => ⟨[], [], rfl, by rw [TL.spl_nil]; simp⟩
  | c :: t, acc => by
    by_cases hc : c = s
    · subst hc
      have h2 : TL.pre [c] (c :: t) = true := TL.pre_self [c] t
      refine ⟨[], TL.spl [c] 0 [] t, ?_, ?_⟩
      · rw [TL.spl_hit h2]; rfl
      · rw [TL.spl_hit h2, List.append_nil]; rfl
    · have h2 : TL.pre [s] (c :: t) = false := TL.pre_of_head [] _ hc
      obtain ⟨h, r, e1, e2⟩ := spl_acc s t (acc ++ [c])
      obtain ⟨h', r', e1', e2'⟩ := spl_acc s t ([] ++ [c])
      rw [e1] at e1'
      injection e1' with a b
      subst a b
      refine ⟨[] ++ [c] ++ h, r, ?_, ?_⟩
      · rw [TL.spl_miss h2, e2']
      · rw [TL.spl_miss h2, e2]
        simp
theorem LB.front {b : Nat} {L : List Nat} (h : LB b L) : LB (b + 1) (32 :: L) := fun l hl => by
  have h2 : TL.pre [10] (32 :: L) = false := TL.pre_of_head [] _ (by decide)
  rw [TL.spl_miss h2] at hl
  obtain ⟨x, r, e1, e2⟩ := spl_acc 10 L ([] ++ [32])
  rw [e2] at hl
  rcases List.mem_cons.mp hl with rfl | hl
  · have := h x (by rw [e1]; exact List.mem_cons_self)
    rw [List.length_append]
    show 1 + _ ≤ _
    omega
  · have := h l (by rw [e1]; exact List.mem_cons_of_mem _ hl)
    omega
theorem spl_end (s x : Nat) (hx : x ≠ s) : ∀ (t acc : List Nat), ∃ r h, TL.spl [s] 0 acc t = r ++ [h] ∧ TL.spl [s] 0 acc (t ++ [x]) = r ++ [h ++ [x]]
  | [], acc => ⟨[], acc, by rw [TL.spl_nil]; rfl, by
      rw [List.nil_append, TL.spl_miss (TL.pre_of_head [] _ hx), TL.spl_nil]
      rfl⟩
  | c :: t, acc => by
    by_cases hc : c = s
    · subst hc
      obtain ⟨r, h, e1, e2⟩ := spl_end c x hx t []
      refine ⟨acc :: r, h, ?_, ?_⟩
      · have h2 : TL.pre [c] (c :: t) = true := TL.pre_self [c] t
        rw [TL.spl_hit h2]
        show acc :: TL.spl [c] 0 [] t = _
        rw [e1]; rfl
      · have h2 : TL.pre [c] (c :: (t ++ [x])) = true := TL.pre_self [c] (t ++ [x])
        rw [List.cons_append, TL.spl_hit h2]
        show acc :: TL.spl [c] 0 [] (t ++ [x]) = _
        rw [e2]; rfl
    · obtain ⟨r, h, e1, e2⟩ := spl_end s x hx t (acc ++ [c])
      refine ⟨r, h, ?_, ?_⟩
      · rw [TL.spl_miss (TL.pre_of_head [] _ hc), e1]
      · rw [List.cons_append, TL.spl_miss (TL.pre_of_head [] _ hc), e2]
theorem LB.back {b : Nat} {L : List Nat} (h : LB b L) : LB (b + 1) (L ++ [32]) := fun l hl => by
  obtain ⟨r, x, e1, e2⟩ := spl_end 10 32 (by decide) L []
  rw [e2] at hl
  rcases List.mem_append.mp hl with hl | hl
  · have := h l (by rw [e1]; exact List.mem_append_left _ hl)
    omega
  · rw [List.mem_singleton.mp hl]
    have := h x (by rw [e1]; exact List.mem_append_right _ (List.mem_singleton.mpr rfl))
    rw [List.length_append]
    show _ + 1 ≤ _
    omega
theorem gx_of {b : Nat} {L : List Nat} (h : LB b L) (hb : b ≤ 640) (hl : L.length ≤ 5000) : Gx L := ⟨hl, fun l hm => Nat.le_trans (h l hm) hb⟩
theorem gx_odd (p : Pot) : ∀ L ∈ [roT p, roT p ++ [10], 10 :: roT p, 32 :: roT p, roT p ++ [32], (roT p).map up1, rpL (roT p), [], [10]], Gx L := fun L hL => by
  have hl := roT_len p
  have hb := roT_lb p
  have nil : LB 81 [] := LB.self (Nat.zero_le _)
  simp only [List.mem_cons, List.not_mem_nil, or_false] at hL
  rcases hL with rfl | rfl | rfl | rfl | rfl | rfl | rfl | rfl | rfl
  · exact gx_text p
  · exact gx_of (hb.app nil) (by decide) (by rw [List.length_append]; show _ + 1 ≤ _; omega)
  · exact gx_of (LB.app (L := []) nil hb) (by decide) (by rw [List.length_cons]; omega)
  · exact gx_of hb.front (by decide) (by rw [List.length_cons]; omega)
  · exact gx_of hb.back (by decide) (by rw [List.length_append]; show _ + 1 ≤ _; omega)
  · have up_app : ∀ rows : List (List Nat), (TL.joinL [10] rows).map up1 = TL.joinL [10] (rows.map fun v => v.map up1) := by
      intro rows
      induction rows with
      | nil => rfl
      | cons v r ih =>
        cases r with
        | nil => rfl
        | cons w r =>
          show (v ++ ([10] ++ TL.joinL [10] (w :: r))).map up1 = v.map up1 ++ ([10] ++ TL.joinL [10] ((w :: r).map fun v => v.map up1))
          rw [List.map_append, List.map_append, ih]
          rfl
    refine gx_of (b := 81) ?_ (by decide) (by rw [List.length_map]; omega)
    show LB 81 ((TL.joinL [10] (roR p)).map up1)
    rw [up_app]
    refine LB.join fun v hv => ?_
    obtain ⟨x, hx, rfl⟩ := List.mem_map.mp hv
    rw [List.length_map]
    exact (roR_rs p).one x hx
  · exact gx_rp p
  · exact gx_of nil (by decide) (Nat.zero_le _)
  · exact gx_of (LB.self (b := 1) (Nat.le_refl _)) (by decide) (by decide)
theorem roT_ascii (p : Pot) : (roT p).all (· < 128) = true := by
  refine List.all_eq_true.mpr fun c hc => decide_eq_true ?_
  have hok := roL_ok p
  have all : ∀ rows : List (List Nat), (∀ v ∈ rows, ∀ c ∈ v, c < 128) → ∀ c ∈ TL.joinL [10] rows, c < 128 := by
    intro rows
    induction rows with
    | nil => intro _ c hc; cases hc
    | cons v r ih =>
      intro h c hc
      cases r with
      | nil => exact h v List.mem_cons_self c hc
      | cons w r =>
        have hc : c ∈ v ++ ([10] ++ TL.joinL [10] (w :: r)) := hc
        rcases List.mem_append.mp hc with hc | hc
        · exact h v List.mem_cons_self c hc
        rcases List.mem_append.mp hc with hc | hc
        · rw [List.mem_singleton.mp hc]; decide
        · exact ih (fun x hx => h x (List.mem_cons_of_mem _ hx)) c hc
  refine all (roR p) (fun v hv c hc => ?_) c hc
  rcases List.mem_cons.mp hv with rfl | hv
  · have := hok.w4
    unfold Cq.wT at hc
    simp at hc
    omega
  · obtain ⟨l, hl, rfl⟩ := List.mem_map.mp hv
    have := (lt_signs hok.w4 (hok.ok l hl) c hc).2
    omega
theorem up_is (p : Pot) : Txt.upper (st (roT p)) = st ((roT p).map up1) := SX.upper_S (roT_ascii p)
end K20
set_option Elab.async false
set_option linter.all false
set_option maxRecDepth 100000
set_option maxHeartbeats 4000000
set_option autoImplicit false
namespace K20
open PySem PySem.Spec PyProof.Rows L2 Dl Cq
/-! ### signs of spoilt rows -/
def As (rows : List (List Nat)) : Prop := ∀ v ∈ rows, ∀ c ∈ v, c < 1000
theorem spl_chars (s : Nat) : ∀ (t acc : List Nat), ∀ p ∈ TL.spl [s] 0 acc t, ∀ c ∈ p, c ∈ acc ∨ c ∈ t
  | [], acc, p, hp, c, hc => by
    rw [TL.spl_nil, List.mem_singleton] at hp
    subst hp
    exact .inl hc
  | x :: t, acc, p, hp, c, hc => by
    by_cases hx : x = s
    · subst hx
      have h2 : TL.pre [x] (x :: t) = true := TL.pre_self [x] t
      rw [TL.spl_hit h2] at hp
      rcases List.mem_cons.mp hp with rfl | hp
      · exact .inl hc
      · rcases spl_chars x t [] p hp c hc with z | z
        · cases z
        · exact .inr (List.mem_cons_of_mem _ z)
    · have h2 : TL.pre [s] (x :: t) = false := TL.pre_of_head [] _ hx
      rw [TL.spl_miss h2] at hp
      rcases spl_chars s t (acc ++ [x]) p hp c hc with z | z
      · rcases List.mem_append.mp z with z | z
        · exact .inl z
        · rw [List.mem_singleton.mp z]; exact .inr List.mem_cons_self
      · exact .inr (List.mem_cons_of_mem _ z)
theorem joinL_chars : ∀ ws : List (List Nat), As ws → ∀ c ∈ TL.joinL [32] ws, c < 1000
  | [], _, c, hc => by cases hc
  | [v], h, c, hc => h v List.mem_cons_self c hc
  | v :: w :: r, h, c, hc => by
    have hc : c ∈ v ++ ([32] ++ TL.joinL [32] (w :: r)) := hc
    rcases List.mem_append.mp hc with hc | hc
    · exact h v List.mem_cons_self c hc
    rcases List.mem_append.mp hc with hc | hc
    · rw [List.mem_singleton.mp hc]; decide
    · exact joinL_chars (w :: r) (fun x hx => h x (List.mem_cons_of_mem _ hx)) c hc
theorem As.app {a b : List (List Nat)} (h : As a) (k : As b) : As (a ++ b) := fun v hv => by
  rcases List.mem_append.mp hv with hv | hv
  · exact h v hv
  · exact k v hv
theorem As.take {a : List (List Nat)} (h : As a) (k : Nat) : As (a.take k) := fun v hv => h v (List.mem_of_mem_take hv)
theorem As.drop {a : List (List Nat)} (h : As a) (k : Nat) : As (a.drop k) := fun v hv => h v (List.mem_of_mem_drop hv)
theorem As.getD {a : List (List Nat)} (h : As a) (i : Nat) : ∀ c ∈ a.getD i [], c < 1000 := by
  rw [List.getD_eq_getElem?_getD]
  cases hq : a[i]? with
  | none => intro c hc; cases hc
  | some v => exact h v (List.mem_of_getElem? hq)
theorem As.one {v : List Nat} (h : ∀ c ∈ v, c < 1000) : As [v] := fun x hx => by rw [List.mem_singleton.mp hx]; exact h
theorem more_as : As moreL := by
  have : ∀ v ∈ moreL, ∀ c ∈ v, c < 1000 := by decide +kernel
  exact this
theorem someA_as : As someA := by
  have : ∀ v ∈ someA, ∀ c ∈ v, c < 1000 := by decide +kernel
  exact this
theorem someP_as {ps : List (List Nat)} (h : As ps) (i : Nat) : As (someP ps i) := by
  refine someA_as.app fun v hv => ?_
  unfold someB at hv
  have hk : As [tx "toolonger", tx "h", tx "cz", tx "wires"] := by
    have : ∀ v ∈ [tx "toolonger", tx "h", tx "cz", tx "wires"], ∀ c ∈ v, c < 1000 := by decide +kernel
    exact this
  simp only [List.mem_cons, List.not_mem_nil, or_false] at hv
  rcases hv with rfl | rfl | rfl | rfl | rfl | rfl | rfl | rfl
  · exact hk _ (by simp)
  · exact hk _ (by simp)
  · exact hk _ (by simp)
  · exact hk _ (by simp)
  · exact h.getD 0
  · intro c hc
    cases ps with
    | nil => cases hc
    | cons a r =>
      rw [List.getLastD_cons, List.getLastD_eq_getLast?] at hc
      cases hr : r.getLast? with
      | none => rw [hr] at hc; exact h a List.mem_cons_self c hc
      | some x => rw [hr] at hc; exact h x (List.mem_cons_of_mem _ (List.mem_of_getLast? hr)) c hc
  · intro c hc
    rcases List.mem_append.mp hc with hc | hc
    · exact h.getD i c hc
    · rw [List.mem_singleton.mp hc]; decide
  · intro c hc
    rcases List.mem_cons.mp hc with rfl | hc
    · decide
    · exact h.getD i c hc
theorem spR_as {p : Pot} {rows : List (List Nat)} (h : As rows) : As (spR p rows) := by
  unfold spR
  simp only
  split
  · exact (h.take _).app (h.drop _)
  split
  · exact (h.take _).app (h.drop _)
  split
  · exact ((h.take _).app fun v hv => h v (List.mem_of_mem_drop (List.mem_of_mem_take (List.mem_reverse.mp hv)))).app (h.drop _)
  split
  · exact ((h.take _).app (As.one (more_as.getD _))).app (h.drop _)
  · have hps : As (spS p rows).ps := fun v hv c hc => by
      rcases spl_chars 32 (rows.getD (spS p rows).at_ []) [] v hv c hc with z | z
      · cases z
      · exact h.getD _ c z
    refine ((h.take _).app (As.one (joinL_chars _ ?_))).app (h.drop _)
    unfold spPs
    refine ((hps.take _).app ?_).app (hps.drop _)
    unfold spFresh
    split
    · intro v hv; cases hv
    · exact As.one ((someP_as hps _).getD _)
theorem roR_as (p : Pot) : As (roR p) := fun v hv c hc => by
  have hok := roL_ok p
  rcases List.mem_cons.mp hv with rfl | hv
  · have := hok.w4
    unfold Cq.wT at hc
    simp at hc
    omega
  · obtain ⟨l, hl, rfl⟩ := List.mem_map.mp hv
    have := (lt_signs hok.w4 (hok.ok l hl) c hc).2
    omega
/-! ### one lap of spoiling -/
def lpT (p : Pot) (q : Pot) : Bool := !decide (spR q (roR p) = []) && decide (tk (spP q (roR p)) 3 = 0)
def lpQ (p : Pot) (q : Pot) : Pot := if spR q (roR p) = [] then spP q (roR p) else tkP (spP q (roR p)) 3
def lpR (p : Pot) (q : Pot) : List (List Nat) := if lpT p q = true then spR (lpQ p q) (spR q (roR p)) else spR q (roR p)
def lpP (p : Pot) (q : Pot) : Pot := if lpT p q = true then spP (lpQ p q) (spR q (roR p)) else lpQ p q
theorem spP_ok {m : Nat} {p : Pot} {rows : List (List Nat)} (h : p.ok m) : (spP p rows).ok (m + 4) := by
  have h3 : (spS p rows).q.ok (m + 3) := tkP_ok (tkP_ok (tkP_ok h))
  unfold spP
  simp only
  split
  · exact h3.mono (by omega)
  split
  · exact tkP_ok h3
  split
  · exact h3.mono (by omega)
  · exact tkP_ok h3
theorem lpQ_ok {p q : Pot} {m : Nat} (h : q.ok m) : (lpQ p q).ok (m + 5) := by
  unfold lpQ
  split
  · exact (spP_ok h).mono (by omega)
  · exact tkP_ok (spP_ok h)
theorem lpP_ok {p q : Pot} {m : Nat} (h : q.ok m) : (lpP p q).ok (m + 9) := by
  unfold lpP
  split
  · exact spP_ok (lpQ_ok h)
  · exact (lpQ_ok h).mono (by omega)
theorem one_rs (p q : Pot) : Rs 172 42 3535 (spR q (roR p)) := spR_ok (roR_rs p) (by decide)
theorem lpR_gx (p q : Pot) : Gx (TL.joinL [10] (lpR p q)) := by
  unfold lpR
  split
  · exact (spR_ok (one_rs p q) (by decide) : Rs (2 * 172 + 10) 43 (3535 + (2 * 172 + 11)) _).gx (by decide) (by decide)
  · exact (one_rs p q).gx (by decide) (by decide)
theorem lpR_len (p q : Pot) : (lpR p q).length ≤ 43 ∧ ∀ v ∈ lpR p q, v.length ≤ 354 := by
  unfold lpR
  split
  · have := (spR_ok (p := lpQ p q) (one_rs p q) (by decide) : Rs (2 * 172 + 10) 43 (3535 + (2 * 172 + 11)) _)
    exact ⟨this.len, this.one⟩
  · have := one_rs p q
    exact ⟨by have := this.len; omega, fun v hv => by have := this.one v hv; omega⟩
theorem join10 (ws : List (List Nat)) : Txt.join (Str.ofString "\n") (ws.map st) = st (TL.joinL [10] ws) := SX.join_S [10] _
theorem join_lim10 {ws : List (List Nat)} {m k : Nat} (h : ∀ v ∈ ws, v.length ≤ m) (hk : ws.length ≤ k) (hm : k * (m + 1) ≤ 16777216) : ((ws.map st).map (·.length)).sum + (ws.map st).length * (Str.ofString "\n").length ≤ 16777216 := by
  have := sum_len ws m h
  rw [List.length_map, show (Str.ofString "\n").length = 1 from rfl]
  have h2 : ws.length * m ≤ k * m := Nat.mul_le_mul_right _ hk
  rw [Nat.mul_add] at hm
  omega
end K20
set_option Elab.async false
set_option linter.all false
set_option maxRecDepth 100000
set_option maxHeartbeats 4000000
set_option autoImplicit false
namespace Dl
open PySem PySem.Spec PyProof.Rows L2
section
variable {X : Cx} {N : En} {W : WX} {n : Nat} {δ : List (Option S)} {μ μ1 μ2 : List M} {a b : Expr} {pos : Pos}
theorem dw_andT {rest : List Expr} {k' : Bool} (h : DT X N W δ μ a true μ1) (h' : DW X N W δ μ1 (.BoolOp .And (b :: rest) pos) k' μ2) : DW X N W δ μ (.BoolOp .And (a :: b :: rest) pos) k' μ2 :=
  PW.imp (pw_and h h') fun σ H Q ⟨F, A, R, q⟩ => ⟨F, A, R, fun F1 A1 H1 e1 p1 R1 => iteT ⟨F1, A1, R1, fun F2 A2 H2 e2 p2 R2 => q F2 A2 H2 (e1.trans e2) (p1.trans p2) R2⟩⟩
end
end Dl
set_option Elab.async false
set_option linter.all false
set_option maxRecDepth 100000
set_option maxHeartbeats 4000000
set_option autoImplicit false
namespace K20
open PySem PySem.Spec PyProof.Rows L2 Dl Cq
section
variable {X : Cx} {N : En} {W : WX} {f : Dl.As} {body : List Stmt}
theorem loop_fo {T α : Type} {mu : T → List M} {nx : α → T → T} {gd : α → D} (I : Nat → T → Prop) (Δ : T → List (Option S) → Prop) :
    ∀ (l : List α) (δ : List (Option S)) (t : T), (∀ a ∈ l, ∀ k t δ, Δ t δ → I (k + 1) t → I k (nx a t) ∧ ∃ δt δ1, f (gd a) δ = some δt ∧ DSs X N W δt (mu t) body (.nx δ1 (mu (nx a t))) ∧ Δ (nx a t) δ1) → Δ t δ → I l.length t →
      ∃ δ', Loop X N W f body (l.map gd) δ (mu t) (.nx δ' (mu (l.foldl (fun t a => nx a t) t))) ∧ Δ (l.foldl (fun t a => nx a t) t) δ' ∧ I 0 (l.foldl (fun t a => nx a t) t)
  | [], δ, t, _, h0, hi => ⟨δ, .nil, h0, hi⟩
  | a :: l, δ, t, h, h0, hi => by
    obtain ⟨h1, δt, δ1, h2, h3, h4⟩ := h a List.mem_cons_self l.length t δ h0 hi
    obtain ⟨δ', h5, h6, h7⟩ := loop_fo I Δ l δ1 (nx a t) (fun b hb => h b (List.mem_cons_of_mem _ hb)) h4 h1
    exact ⟨δ', .next h2 h3 h5, h6, h7⟩
end
abbrev rtN : List Str := ["pot", "rows", "text", "odd", "lap", "some", "caught", "value"]
theorem scRight : FnScope rtN ["pot"] (defScope sRight) := ⟨rfl, rfl, rfl, by decide +kernel, rfl, by decide +kernel, by decide +kernel⟩
def qR : Str := "_law_right" ++ ".<locals>." ++ "<lambda>"
def oddT (p : Pot) : List (List Nat) := [(roT p).map up1, rpL (roT p), [], [10]]
def frontT (p : Pot) : List (List Nat) := [roT p, roT p ++ [10], 10 :: roT p, 32 :: roT p, roT p ++ [32]]
def rightP (p : Pot) : Pot := (List.range 20).foldl (fun q _ => lpP p q) (roP p)
theorem laps_ok {p : Pot} : ∀ (l : List Nat) (q : Pot) (m : Nat), q.ok m → (l.foldl (fun q _ => lpP p q) q).ok (m + 9 * l.length)
  | [], q, m, h => h
  | a :: l, q, m, h => by
    have := laps_ok (p := p) l (lpP p q) (m + 9) (lpP_ok h)
    rw [List.foldl_cons, List.length_cons, show m + 9 * (l.length + 1) = m + 9 + 9 * l.length by omega]
    exact this
theorem rightP_ok {m : Nat} {p : Pot} (h : p.ok m) : (rightP p).ok (m + 600) := by
  have := laps_ok (p := p) (List.range 20) _ _ (roP_ok h)
  rw [List.length_range] at this
  exact this.mono (by omega)
structure KS (K : PySem.W.Frag) (C : Addr) : Prop where
  non : PySem.W.kitOne K (.type "NoneType") (.type "str") = some false
  int : PySem.W.kitOne K (.type "int") (.type "str") = some false
  bl : PySem.W.kitOne K (.type "bool") (.type "str") = some false
  lst : PySem.W.kitOne K (.type "list") (.type "str") = some false
  tup : PySem.W.kitOne K (.type "tuple") (.type "str") = some false
  dic : PySem.W.kitOne K (.type "dict") (.type "str") = some false
  wd : PySem.W.kitOne K (.ref C) (.type "str") = some false
structure VR (P : Program) (w : World) (K : PySem.W.Frag) (mg : Str → Option Value) (base : Heap) (C CC CB CK PT : Addr) : Prop where
  T : TM mg
  T2 : TC K mg C
  ci : Ci P w K mg base 7 CC "Circuit" [] (rCI K CC CB)
  cw : Ci P w K mg base 2 C "Word" [] (rInit C)
  take : Cf P w K mg base 1 "_law_take" [] rTk
  rows : Cf P w K mg base 7 "_law_rows_of" [] rRowsOf
  spoilt : Cf P w K mg base 3 "_law_spoilt" [] rSpoilt
  judged : Cf P w K mg base 14 "_law_is_judged" [] (rJudged 0 PT)
  heard : Cl P w K mg base false 13 12 "_law_heard" (rHear K CK)
  xB : XC K CB
  gB : mg "BadCircuit" = some (.ref CB)
  eB : PySem.W.exmOne K (.ref CB) (.ref CK) = some true
  ks : KS K C
def rRight (PT PR : Addr) : Rel := fun ss μ r μ' => ∃ (j : Nat) (p : Pot), p.ok 2000 ∧ ss = [.l j] ∧ μ[j]? = some p.m ∧ μ[0]? = some (.tab PT qJ) ∧ μ[1]? = some (.tab PR qR) ∧ r = .v (.p (.bl true)) ∧ μ' = μ.set j (rightP p).m
section
variable {P : Program} {w : World} {K : PySem.W.Frag} {mg : Str → Option Value} {base : Heap} {f C CC CB CK PT : Addr}
theorem ok_right {cA PR : Addr} {oc kV doc pmv ct_ : Value} {od an : Option Addr} {osl : Array (Option Value)} (lk : K.lookup f = some ⟨oc, od, .func (PySem.W.fnOf "_law_right" "_law_right" (defArgs sRight) (defBody sRight) (defScope sRight) .none kV doc pmv an (.ref cA) ct_), osl⟩) (hcd : PySem.W.codeIn K (.ref cA) "_law_right" = true)
    (TB : LamX.TabB base mg cA PR) (R : VR P w K mg base C CC CB CK PT) : FnOk P w K mg base (L2.CX P w) 16 f (PySem.W.fnOf "_law_right" "_law_right" (defArgs sRight) (defBody sRight) (defScope sRight) .none kV doc pmv an (.ref cA) ct_) ["pot"] (spD K (rRight PT PR)) := by
  refine fn_Dc (k := 15) lk hcd scRight (fun ss μ r μ' h => by obtain ⟨_, _, _, rfl, _⟩ := h; rfl) ?_
  intro A0 outer s0 H E N W ss μ r μ' g hA hR
  obtain ⟨j, p, hp, rfl, hj, hT0, hT1, rfl, rfl⟩ := hR
  have T := R.T
  have j0 : j ≠ 0 := by
    rintro rfl
    rw [hj] at hT0
    cases hT0
  have j1 : j ≠ 1 := by
    rintro rfl
    rw [hj] at hT1
    cases hT1
  have tb0 : ∀ m : M, (μ.set j m)[0]? = some (.tab PT qJ) := fun m => by rw [List.getElem?_set_ne j0]; exact hT0
  have tb : ∀ m : M, (μ.set j m)[1]? = some (.tab PR (lamQ (cxOf (L2.CX P w) P w K mg base rtN "_law_right" (defScope sRight) f (.ref cA) A0 outer s0 H E))) := fun m => by rw [List.getElem?_set_ne j1]; exact hT1
  have hat : ∀ m : M, (μ.set j m)[j]? = some m := fun m => set_at hj
  have rs := roR_rs p
  have q0 : (roP p).ok 2400 := roP_ok hp
  have hl := roT_len p
  have gxo := gx_odd p
  have lr : (txD (roR p)) = ((roR p).map st).map D.str := by unfold txD; rw [List.map_map]; rfl
  have d0 : DS (cxOf (L2.CX P w) P w K mg base rtN "_law_right" (defScope sRight) f (.ref cA) A0 outer s0 H E) N W (starts rtN [.l j]) μ ((defBody sRight).getD 0 (.Pass ⟨0, 0, 0, 0⟩)) (.nx [some (.l j), some (.p (.lst (txD (roR p)))), none, none, none, none, none, none] (μ.set j (roP p).m)) :=
    ds_set 1 (de_call (r := .v (.p (.lst (txD (roR p))))) (μ2 := (μ.set j (roP p).m)) g R.rows (da_cons (de_var 0) da_nil) ⟨j, p, hp.mono (by omega), rfl, hj, rfl, rfl⟩) g.nd
  have d1 : DS (cxOf (L2.CX P w) P w K mg base rtN "_law_right" (defScope sRight) f (.ref cA) A0 outer s0 H E) N W [some (.l j), some (.p (.lst (txD (roR p)))), none, none, none, none, none, none] (μ.set j (roP p).m) ((defBody sRight).getD 1 (.Pass ⟨0, 0, 0, 0⟩)) (.nx [some (.l j), some (.p (.lst (txD (roR p)))), some (.p (.str (st (roT p)))), none, none, none, none, none] (μ.set j (roP p).m)) :=
    ds_set 2 (de_of (d' := .str (st (roT p))) (de_bm PySem.F.plainAttrs_str PySem.F.slot_str_join PySem.F.type_str_join de_str (da_cons (s := .p (.lst (((roR p).map st).map D.str))) (de_of (de_var 1) (congrArg D.lst lr)) da_nil) (m_join (join_lim10 (m := 81) (k := 41) rs.one rs.len (by decide)))) (congrArg D.str (join10 _))) g.nd
  have dU : DE (cxOf (L2.CX P w) P w K mg base rtN "_law_right" (defScope sRight) f (.ref cA) A0 outer s0 H E) N W [some (.l j), some (.p (.lst (txD (roR p)))), some (.p (.str (st (roT p)))), none, none, none, none, none] (μ.set j (roP p).m) (match (defBody sRight).getD 2 (.Pass ⟨0, 0, 0, 0⟩) with | .Assign _ e _ => e | _ => .Constant .none 0 ⟨0, 0, 0, 0⟩) (.v (.p (.lst [.str (Txt.upper (st (roT p))), .str (Txt.replace (st (roT p)) (Str.ofString " ") (Str.ofString "  ")), .str (Str.ofString ""), .str (Str.ofString "\n")]))) (μ.set j (roP p).m) := by
    have l1 : (st (roT p)).length ≤ 5592405 := by rw [st_len]; omega
    have l2 : (st (roT p)).length + ((st (roT p)).length + 1) * (Str.ofString "  ").length ≤ 16777216 := by rw [st_len]; show _ + _ * 2 ≤ _; omega
    exact de_upRepl (de_var 2) (de_var 2) l1 l2
  have d2 : DS (cxOf (L2.CX P w) P w K mg base rtN "_law_right" (defScope sRight) f (.ref cA) A0 outer s0 H E) N W [some (.l j), some (.p (.lst (txD (roR p)))), some (.p (.str (st (roT p)))), none, none, none, none, none] (μ.set j (roP p).m) ((defBody sRight).getD 2 (.Pass ⟨0, 0, 0, 0⟩)) (.nx [some (.l j), some (.p (.lst (txD (roR p)))), some (.p (.str (st (roT p)))), some (.p (.lst ((oddT p).map rwD))), none, none, none, none] (μ.set j (roP p).m)) :=
    ds_set 3 (de_of (d' := .lst ((oddT p).map rwD)) dU (by rw [up_is, repl_is]; rfl)) g.nd
  obtain ⟨δ3, hlo3, ⟨y7, rfl⟩, _⟩ := loop_fo (X := (cxOf (L2.CX P w) P w K mg base rtN "_law_right" (defScope sRight) f (.ref cA) A0 outer s0 H E)) (N := N) (W := W) (f := asName 7) (body := match (defBody sRight).getD 3 (.Pass ⟨0, 0, 0, 0⟩) with | .For _ _ b _ _ => b | _ => []) (T := Unit) (mu := fun _ => (μ.set j (roP p).m)) (nx := fun (_ : List Nat) u => u) (gd := rwD)
    (fun _ _ => True) (fun _ δ => ∃ y7, δ = [some (.l j), some (.p (.lst (txD (roR p)))), some (.p (.str (st (roT p)))), some (.p (.lst ((oddT p).map rwD))), none, none, none, y7]) (frontT p ++ oddT p) [some (.l j), some (.p (.lst (txD (roR p)))), some (.p (.str (st (roT p)))), some (.p (.lst ((oddT p).map rwD))), none, none, none, none] ()
    (fun L hL k q δ hδ hQ => by
      obtain ⟨y7, rfl⟩ := hδ
      exact ⟨trivial, _, _, rfl, dss_cons (ds_if (k := false) (dt_of (dt_not (dt_val (de_call (r := .v (.p (.bl true))) g R.judged (da_cons (de_var 7) da_nil) ⟨L, gxo L hL, rfl, tb0 _, rfl, rfl⟩))) rfl) (fun h => by cases h) (fun _ => dss_nil)) (cn dss_nil), _, rfl⟩)
    ⟨_, rfl⟩ trivial
  have d3 : DS (cxOf (L2.CX P w) P w K mg base rtN "_law_right" (defScope sRight) f (.ref cA) A0 outer s0 H E) N W [some (.l j), some (.p (.lst (txD (roR p)))), some (.p (.str (st (roT p)))), some (.p (.lst ((oddT p).map rwD))), none, none, none, none] (μ.set j (roP p).m) ((defBody sRight).getD 3 (.Pass ⟨0, 0, 0, 0⟩)) (.nx [some (.l j), some (.p (.lst (txD (roR p)))), some (.p (.str (st (roT p)))), some (.p (.lst ((oddT p).map rwD))), none, none, none, y7] (μ.set j (roP p).m)) := by
    refine ds_for g (di_lst g (de_of (d' := .lst ((frontT p ++ oddT p).map rwD)) (de_bin (de_lst (ds := (frontT p).map rwD) (dp_cons (de_var 2) (dp_cons (de_of (d' := rwD (roT p ++ [10])) (de_bin (de_var 2) (de_of (d' := rwD [10]) de_str rfl) (o_addS ?a1)) (congrArg D.str (st_app _ _))) (dp_cons (de_of (d' := rwD (10 :: roT p)) (de_bin (de_of (d' := rwD [10]) de_str rfl) (de_var 2) (o_addS ?a2)) (congrArg D.str (st_app _ _))) (dp_cons (de_of (d' := rwD (32 :: roT p)) (de_bin (de_of (d' := rwD [32]) de_str rfl) (de_var 2) (o_addS ?a3)) (congrArg D.str (st_app _ _))) (dp_cons (de_of (d' := rwD (roT p ++ [32])) (de_bin (de_var 2) (de_of (d' := rwD [32]) de_str rfl) (o_addS ?a4)) (congrArg D.str (st_app _ _))) dp_nil))))) (sz (by show 5 ≤ _; decide))) (de_var 3) (o_catL (sz (by show 5 + 4 ≤ _; decide)))) (by rw [List.map_append]))) (dg_name 7 g.nd) hlo3
    · rw [st_len, st_len]; exact sz (by show (roT p).length + 1 ≤ _; omega)
    · rw [st_len, st_len]; exact sz (by show 1 + (roT p).length ≤ _; omega)
    · rw [st_len, st_len]; exact sz (by show 1 + (roT p).length ≤ _; omega)
    · rw [st_len, st_len]; exact sz (by show (roT p).length + 1 ≤ _; omega)
  obtain ⟨δ4, hlo4, ⟨x4, x5, rfl⟩, _⟩ := loop_fo (X := (cxOf (L2.CX P w) P w K mg base rtN "_law_right" (defScope sRight) f (.ref cA) A0 outer s0 H E)) (N := N) (W := W) (f := asName 4) (body := match (defBody sRight).getD 4 (.Pass ⟨0, 0, 0, 0⟩) with | .For _ _ b _ _ => b | _ => []) (T := Pot) (mu := fun q => μ.set j q.m) (nx := fun (_ : Nat) q => lpP p q) (gd := inD)
    (fun k q => k ≤ 20 ∧ q.ok (2600 - 9 * k)) (fun q δ => ∃ x4 x5, δ = [some (.l j), some (.p (.lst (txD (roR p)))), some (.p (.str (st (roT p)))), some (.p (.lst ((oddT p).map rwD))), x4, x5, none, y7]) (List.range 20) [some (.l j), some (.p (.lst (txD (roR p)))), some (.p (.str (st (roT p)))), some (.p (.lst ((oddT p).map rwD))), none, none, none, y7] (roP p)
    (fun a ha k q δ hδ hQ => by
      obtain ⟨x4, x5, rfl⟩ := hδ
      have o1 := one_rs p q
      have sq : (spP q (roR p)).ok 2700 := (spP_ok hQ.2).mono (by omega)
      have lq : (lpQ p q).ok 2700 := (lpQ_ok hQ.2).mono (by omega)
      have hlen := lpR_len p q
      have u0 : DS (cxOf (L2.CX P w) P w K mg base rtN "_law_right" (defScope sRight) f (.ref cA) A0 outer s0 H E) N W [some (.l j), some (.p (.lst (txD (roR p)))), some (.p (.str (st (roT p)))), some (.p (.lst ((oddT p).map rwD))), some (.p (inD a)), x5, none, y7] (μ.set j (q).m) ((match (defBody sRight).getD 4 (.Pass ⟨0, 0, 0, 0⟩) with | .For _ _ b _ _ => b | _ => []).getD 0 (.Pass ⟨0, 0, 0, 0⟩)) (.nx [some (.l j), some (.p (.lst (txD (roR p)))), some (.p (.str (st (roT p)))), some (.p (.lst ((oddT p).map rwD))), some (.p (inD a)), some (.p (.lst (txD (spR q (roR p))))), none, y7] (μ.set j (spP q (roR p)).m)) :=
        ds_set 5 (de_call (r := .v (.p (.lst (txD (spR q (roR p)))))) (μ2 := (μ.set j (spP q (roR p)).m)) g R.spoilt (da_cons (de_var 0) (da_cons (de_var 1) da_nil)) ⟨j, q, roR p, 81, 41, 3362, hQ.2.mono (by omega), by unfold roR; simp, rs, by decide, by decide, rfl, hat _, rfl, by rw [List.set_set]⟩) g.nd
      have tN : OpOk (cxOf (L2.CX P w) P w K mg base rtN "_law_right" (defScope sRight) f (.ref cA) A0 outer s0 H E) N W (compareOp .NotEq) (μ.set j (spP q (roR p)).m) (.p (.lst (txD (spR q (roR p))))) (.p (.lst [])) (.v (.p (.bl (!decide (spR q (roR p) = []))))) (μ.set j (spP q (roR p)).m) := by
        refine o_neD g (.lst (nm_pys _)) (.lst .nil) (nm_shaped (spR_as (roR_as p))) (by decide +kernel) ?_
        cases hq : spR q (roR p) with
        | nil => rfl
        | cons v r => rfl
      have u1 : DS (cxOf (L2.CX P w) P w K mg base rtN "_law_right" (defScope sRight) f (.ref cA) A0 outer s0 H E) N W [some (.l j), some (.p (.lst (txD (roR p)))), some (.p (.str (st (roT p)))), some (.p (.lst ((oddT p).map rwD))), some (.p (inD a)), some (.p (.lst (txD (spR q (roR p))))), none, y7] (μ.set j (spP q (roR p)).m) ((match (defBody sRight).getD 4 (.Pass ⟨0, 0, 0, 0⟩) with | .For _ _ b _ _ => b | _ => []).getD 1 (.Pass ⟨0, 0, 0, 0⟩)) (.nx [some (.l j), some (.p (.lst (txD (roR p)))), some (.p (.str (st (roT p)))), some (.p (.lst ((oddT p).map rwD))), some (.p (inD a)), some (.p (.lst (txD (lpR p q)))), none, y7] (μ.set j (lpP p q).m)) := by
        by_cases he : spR q (roR p) = []
        · have e1 : lpT p q = false := by unfold lpT; rw [decide_eq_true he]; rfl
          have e2 : lpR p q = spR q (roR p) := by unfold lpR; rw [e1]; rfl
          have e3 : lpP p q = spP q (roR p) := by unfold lpP lpQ; rw [e1, if_pos he]; rfl
          rw [e2, e3]
          exact ds_if (k := false) (dt_of (dt_w (dw_and (k := false) (k' := true) (dt_of (dt_cmp (de_var 5) (de_lst dp_nil) tN) (by rw [decide_eq_true he]; rfl)) (fun h => by cases h))) rfl) (fun h => by cases h) (fun _ => dss_nil)
        · have eq : lpQ p q = tkP (spP q (roR p)) 3 := if_neg he
          have tt : DT (cxOf (L2.CX P w) P w K mg base rtN "_law_right" (defScope sRight) f (.ref cA) A0 outer s0 H E) N W [some (.l j), some (.p (.lst (txD (roR p)))), some (.p (.str (st (roT p)))), some (.p (.lst ((oddT p).map rwD))), some (.p (inD a)), some (.p (.lst (txD (spR q (roR p))))), none, y7] (μ.set j (spP q (roR p)).m) (ifC ((match (defBody sRight).getD 4 (.Pass ⟨0, 0, 0, 0⟩) with | .For _ _ b _ _ => b | _ => []).getD 1 (.Pass ⟨0, 0, 0, 0⟩))) (lpT p q) (μ.set j (lpQ p q).m) := by
            have e1 : lpT p q = decide (tk (spP q (roR p)) 3 = 0) := by unfold lpT; rw [decide_eq_false he]; rfl
            rw [e1, eq]
            exact dt_w (dw_andT (k' := decide (tk (spP q (roR p)) 3 = 0)) (dt_of (k := !decide (spR q (roR p) = [])) (dt_cmp (de_var 5) (de_lst dp_nil) tN) (by rw [decide_eq_false he]; rfl)) (dw_and1 (dt_of (dt_cmp (de_call (μ2 := (μ.set j (tkP (spP q (roR p)) 3).m)) g R.take (da_cons (de_var 0) (da_cons (de_of (d' := .int ((3 : Nat) : Int)) de_int rfl) da_nil)) ⟨j, spP q (roR p), 3, sq.mono (by omega), by decide, by decide, rfl, hat _, rfl, by rw [List.set_set]⟩) de_int o_eqI) (decide_eq_decide.mpr (by omega)))))
          cases ht : lpT p q with
          | true =>
            have e2 : lpR p q = spR (lpQ p q) (spR q (roR p)) := by unfold lpR; rw [if_pos ht]
            have e3 : lpP p q = spP (lpQ p q) (spR q (roR p)) := by unfold lpP; rw [if_pos ht]
            rw [e2, e3]
            exact ds_if (k := true) (dt_of tt ht) (fun _ => dss_cons (ds_set 5 (de_call (r := .v (.p (.lst (txD (spR (lpQ p q) (spR q (roR p))))))) (μ2 := (μ.set j (spP (lpQ p q) (spR q (roR p))).m)) g R.spoilt (da_cons (de_var 0) (da_cons (de_var 5) da_nil)) ⟨j, lpQ p q, spR q (roR p), 172, 42, 3535, lq.mono (by omega), he, o1, by decide, by decide, rfl, hat _, rfl, by rw [List.set_set]⟩) g.nd) (cn dss_nil)) (fun h => by cases h)
          | false =>
            have e2 : lpR p q = spR q (roR p) := by unfold lpR; rw [if_neg (by rw [ht]; decide)]
            have e3 : lpP p q = lpQ p q := by unfold lpP; rw [if_neg (by rw [ht]; decide)]
            rw [e2, e3]
            exact ds_if (k := false) (dt_of tt ht) (fun h => by cases h) (fun _ => dss_nil)
      refine ⟨⟨by omega, (lpP_ok hQ.2).mono (by omega)⟩, _, _, rfl, dss_cons u0 (cn (dss_cons u1 (cn (dss_cons (ds_if (k := false) (dt_of (dt_not (dt_val (de_call (r := .v (.p (.bl true))) g R.judged (da_cons (s := .p (.str (st (TL.joinL [10] (lpR p q))))) (de_of (d' := .str (st (TL.joinL [10] (lpR p q)))) (de_bm PySem.F.plainAttrs_str PySem.F.slot_str_join PySem.F.type_str_join de_str (da_cons (s := .p (.lst (((lpR p q).map st).map D.str))) (de_of (de_var 5) (by unfold txD; rw [List.map_map]; rfl)) da_nil) (m_join (join_lim10 (m := 354) (k := 43) hlen.2 hlen.1 (by decide)))) (congrArg D.str (join10 _))) da_nil) ⟨TL.joinL [10] (lpR p q), lpR_gx p q, rfl, tb0 _, rfl, rfl⟩))) rfl) (fun h => by cases h) (fun _ => dss_nil)) (cn dss_nil))))), _, _, rfl⟩)
    ⟨_, _, rfl⟩ ⟨by decide, q0.mono (by decide)⟩
  have d4 : DS (cxOf (L2.CX P w) P w K mg base rtN "_law_right" (defScope sRight) f (.ref cA) A0 outer s0 H E) N W [some (.l j), some (.p (.lst (txD (roR p)))), some (.p (.str (st (roT p)))), some (.p (.lst ((oddT p).map rwD))), none, none, none, y7] (μ.set j (roP p).m) ((defBody sRight).getD 4 (.Pass ⟨0, 0, 0, 0⟩)) (.nx [some (.l j), some (.p (.lst (txD (roR p)))), some (.p (.str (st (roT p)))), some (.p (.lst ((oddT p).map rwD))), x4, x5, none, y7] (μ.set j (rightP p).m)) :=
    ds_for g (di_of (di_range1 (da_cons de_int da_nil) T.range (by decide)) (rng_in 20)) (dg_name 4 g.nd) hlo4
  let vs : List D := [.non, .int 0, .bl true, .lst (txD (roR p)), .tup (txD (roR p)), .dic [] [], wd C [88] 1]
  obtain ⟨δ5, hlo5, ⟨z6, z7, rfl⟩, _⟩ := loop_fo (X := (cxOf (L2.CX P w) P w K mg base rtN "_law_right" (defScope sRight) f (.ref cA) A0 outer s0 H E)) (N := N) (W := W) (f := asName 7) (body := match (defBody sRight).getD 5 (.Pass ⟨0, 0, 0, 0⟩) with | .For _ _ b _ _ => b | _ => []) (T := Unit) (mu := fun _ => (μ.set j (rightP p).m)) (nx := fun (_ : D) u => u) (gd := fun d => d)
    (fun _ _ => True) (fun _ δ => ∃ z6 z7, δ = [some (.l j), some (.p (.lst (txD (roR p)))), some (.p (.str (st (roT p)))), some (.p (.lst ((oddT p).map rwD))), x4, x5, z6, z7]) vs [some (.l j), some (.p (.lst (txD (roR p)))), some (.p (.str (st (roT p)))), some (.p (.lst ((oddT p).map rwD))), x4, x5, none, y7] ()
    (fun d hd k q δ hδ hQ => by
      obtain ⟨z6, z7, rfl⟩ := hδ
      have key : ∃ t, TyI K d t ∧ PySem.W.kitOne K t (.type "str") = some false := by
        simp only [vs, List.mem_cons, List.not_mem_nil, or_false] at hd
        rcases hd with rfl | rfl | rfl | rfl | rfl | rfl | rfl
        · exact ⟨_, .non, R.ks.non⟩
        · exact ⟨_, .int _, R.ks.int⟩
        · exact ⟨_, .bl _, R.ks.bl⟩
        · exact ⟨_, .lst _, R.ks.lst⟩
        · exact ⟨_, .tup _, R.ks.tup⟩
        · exact ⟨_, .dic _ _, R.ks.dic⟩
        · exact ⟨_, .ins _ _ _ R.T2.ci, R.ks.wd⟩
      obtain ⟨t, ht, hk⟩ := key
      refine ⟨trivial, _, _, rfl, dss_cons (ds_set 6 (de_ix (de_handL (j := 11) (jt := 1) (L := lX (.x CB (.int 0))) g (fun h => by cases h) (tb _) TB rfl R.heard (fun E A outer s H f c' N' hK g' μ3 r3 μ4 hL => by
          obtain ⟨rfl, rfl⟩ := hL
          exact de_circN g' R.ci ht hk (de_var 7)) da_nil ⟨rfl, _, _, ⟨rfl, rfl⟩, .x R.eB, rfl⟩) de_int (i_tup (i := 0) g rfl)) g.nd) (cn
        (dss_skip (dt_of (dt_w (dw_or (k := false) (k' := false) (dt_not (dt_val (de_callB (id := "isinstance") (da_cons (de_var 6) (da_cons (de_glob (v := .ref CB) R.gB rfl (fun _ _ => .adr _)) da_nil)) (c_isiX g R.xB kit_same) T.isinstance (by decide +kernel)))) (fun _ => dw_or1 (dt_of (dt_cmp (de_callB (id := "repr") (da_cons (de_excVal g R.xB (de_var 6)) da_nil) (c_reprI (i := 0) (by decide)) T.repr (by decide +kernel)) de_str o_neS) (by decide +kernel))))) rfl) dss_nil)), _, _, rfl⟩)
    ⟨_, _, rfl⟩ trivial
  have d5 : DS (cxOf (L2.CX P w) P w K mg base rtN "_law_right" (defScope sRight) f (.ref cA) A0 outer s0 H E) N W [some (.l j), some (.p (.lst (txD (roR p)))), some (.p (.str (st (roT p)))), some (.p (.lst ((oddT p).map rwD))), x4, x5, none, y7] (μ.set j (rightP p).m) ((defBody sRight).getD 5 (.Pass ⟨0, 0, 0, 0⟩)) (.nx [some (.l j), some (.p (.lst (txD (roR p)))), some (.p (.str (st (roT p)))), some (.p (.lst ((oddT p).map rwD))), x4, x5, z6, z7] (μ.set j (rightP p).m)) := by
    rw [List.map_id'] at hlo5
    exact ds_for g (di_tup g (de_tup (ds := vs) (dp_cons de_non (dp_cons de_int (dp_cons de_bl (dp_cons (de_var 1) (dp_cons (de_callT (T := "tuple") (da_cons (de_var 1) da_nil) c_tupL T.tuple (by decide +kernel)) (dp_cons de_dic0 (dp_cons (de_word g R.cw (L := [88]) (s := 1) ⟨by decide, by decide, by decide⟩ (.inl rfl) (de_of (d' := .str (sgn [88] 1)) de_str rfl)) dp_nil))))))) (sz (by show 7 ≤ _; decide)))) (dg_name 7 g.nd) hlo5
  exact ⟨_, dss_cons d0 (cn (dss_cons d1 (cn (dss_cons d2 (cn (dss_cons d3 (cn (dss_cons d4 (cn (dss_cons d5 (cn (dss_ret de_bl)))))))))))), .rt⟩
end
end K20
set_option Elab.async false
set_option linter.all false
set_option maxRecDepth 100000
set_option maxHeartbeats 4000000
set_option autoImplicit false
namespace K20
open PySem PySem.Spec PyProof.Rows L2 Dl Cq
abbrev lwN : List Str := ["script", "place", "pot", "lap"]
theorem scLaw : FnScope lwN ["script"] (defScope sLaw) := ⟨rfl, rfl, rfl, by decide +kernel, rfl, by decide +kernel, by decide +kernel⟩
section
variable {X : Cx} {N : En} {W : WX} {f : Dl.As} {body : List Stmt}
theorem loop_lq {T α : Type} {mu : T → List M} {nx : α → T → T} {gd : α → D} (Q : α → Prop) (Δ : T → List (Option S) → Prop)
    (h : ∀ t a δ, Q a → Δ t δ → ∃ δt δ1, f (gd a) δ = some δt ∧ DSs X N W δt (mu t) body (.nx δ1 (mu (nx a t))) ∧ Δ (nx a t) δ1) :
    ∀ (l : List α) (δ : List (Option S)) (t : T), (∀ a ∈ l, Q a) → Δ t δ → ∃ δ', Loop X N W f body (l.map gd) δ (mu t) (.nx δ' (mu (l.foldl (fun t a => nx a t) t))) ∧ Δ (l.foldl (fun t a => nx a t) t) δ'
  | [], δ, t, _, h0 => ⟨δ, .nil, h0⟩
  | a :: l, δ, t, hq, h0 => by
    obtain ⟨δt, δ1, h2, h3, h4⟩ := h t a δ (hq a (by simp)) h0
    obtain ⟨δ', h5, h6⟩ := loop_lq Q Δ h l δ1 (nx a t) (fun b hb => hq b (by simp [hb])) h4
    exact ⟨δ', .next h2 h3 h5, h6⟩
end
theorem fold_app {α : Type} (g : α → M) : ∀ (l : List α) (t : List M), (l.foldl (fun t a => t ++ [g a]) t).take t.length = t ∧ t.length ≤ (l.foldl (fun t a => t ++ [g a]) t).length
  | [], t => ⟨List.take_length, Nat.le_refl _⟩
  | a :: l, t => by
    obtain ⟨h1, h2⟩ := fold_app g l (t ++ [g a])
    rw [List.foldl_cons]
    refine ⟨?_, by rw [List.length_append] at h2; exact Nat.le_trans (Nat.le_add_right _ _) h2⟩
    have := congrArg (List.take t.length) h1
    rw [List.take_take, List.length_append, Nat.min_eq_left (Nat.le_add_right _ _), List.take_append_of_le_length (Nat.le_refl _), List.take_length] at this
    exact this
theorem cells_le (ns : List Int) : cellsN ns ≤ 6 := by unfold cellsN; omega
def lapsP (p : Pot) : Pot := scanT (fun _ p => rightP p) (List.range 2) p
def Tb (PT PR : Addr) (t : List M) : Prop := t[0]? = some (.tab PT qJ) ∧ t[1]? = some (.tab PR qR)
def rLaw (PT PR : Addr) : Rel := fun ss μ r μ' => ∃ (ns : List Int), ss = [.p (.sc ns)] ∧ Tb PT PR μ ∧ r = .v (.p (.bl true)) ∧ μ' = μ
section
variable {P : Program} {w : World} {K : PySem.W.Frag} {mg : Str → Option Value} {base : Heap} {f C PT PR : Addr} {fd : FuncData}
theorem ok_law (F : Fun K "law" "law" sLaw f fd) (T : TM mg) (cc : Cf P w K mg base 1 "_law_cells" [] rCells) (cp : Cf P w K mg base 1 "_law_pot" [] rPot) (cr : Cf P w K mg base 16 "_law_right" [] (rRight PT PR)) : FnOk P w K mg base (L2.CX P w) 17 f fd ["script"] (spD K (rLaw PT PR)) := by
  refine fn_D (k := 16) F scLaw (fun ss μ r μ' h => by obtain ⟨ns, rfl, _⟩ := h; rfl) ?_
  intro cdv A0 outer s0 H E N W ss μ r μ' g hA hR
  obtain ⟨ns, rfl, hT, rfl, rfl⟩ := hR
  have hc := cells_le ns
  have hone : ∀ (t : List M) (a : Nat) δ, a ≤ 6 → (Tb PT PR t ∧ ∃ x1 x2 x3, δ = [some (.p (.sc ns)), x1, x2, x3]) → ∃ δt δ1, (asName 1) (inD a) δ = some δt ∧ DSs (cxOf (L2.CX P w) P w K mg base lwN "law" (defScope sLaw) f cdv A0 outer s0 H E) N W δt t (bodyOf sLaw 0) (.nx δ1 (t ++ [(lapsP (potF ns a)).m])) ∧ (Tb PT PR (t ++ [(lapsP (potF ns a)).m]) ∧ ∃ x1 x2 x3, δ1 = [some (.p (.sc ns)), x1, x2, x3]) := by
    rintro t a _ ha ⟨h0, x1, x2, x3, rfl⟩
    have app0 : ∀ m : M, Tb PT PR (t ++ [m]) := fun m => by
      have h1 := (List.getElem?_eq_some_iff.mp h0.1).1
      have h2 := (List.getElem?_eq_some_iff.mp h0.2).1
      refine ⟨?_, ?_⟩
      · rw [List.getElem?_append_left h1]
        exact h0.1
      · rw [List.getElem?_append_left h2]
        exact h0.2
    have at1 : ∀ m : M, (t ++ [m])[t.length]? = some m := fun m => by rw [List.getElem?_append_right (Nat.le_refl _), Nat.sub_self]; rfl
    have st1 : ∀ m m' : M, (t ++ [m]).set t.length m' = t ++ [m'] := fun m m' => by rw [List.set_append_right _ _ (Nat.le_refl _), Nat.sub_self]; rfl
    refine ⟨_, _, rfl, dss_cons (ds_set 2 (de_call g cp (da_cons (de_var 0) (da_cons (de_var 1) da_nil)) ⟨ns, a, by omega, rfl, rfl, rfl⟩) g.nd) (cn
      (dss_skip (dt_not (dt_val (de_callB (id := "all") (da_cons (s := .p (.lst ([true, true].map D.bl))) (de_lc g [("lap", 3)] (di_range1 (da_cons de_int da_nil) T.range (by decide)) (fun s H C cl fp => dg_name 3 g.nd) ?a1 (ok := blkOk_by (by rfl)) (hds := sz' (by show 2 ≤ _; decide))) da_nil) (c_all g) T.all (by decide +kernel)))) dss_nil)), app0 _, _, _, _, rfl⟩
    case a1 =>
      exact of_scan (T := Pot) (mu := fun p => t ++ [p.m]) (y := fun (_ : Nat) _ => D.bl true) (nx := fun _ p => rightP p) (fun m p => m ≤ 2 ∧ p.ok (1200 - 600 * m)) (List.range 2) (potF ns a) ⟨by decide, (potF_ok ns a).mono (by decide)⟩ fun m p b _ hi => ⟨⟨by omega, (rightP_ok hi.2).mono (by omega)⟩, _, rfl, fun s H C cl fp N' hK g' => de_call g' cr (da_cons (de_var 2) da_nil) ⟨t.length, p, hi.2.mono (by omega), rfl, at1 _, (app0 _).1, (app0 _).2, rfl, (st1 _ _).symm⟩⟩
  obtain ⟨δ', hlo, ⟨h0, x1, x2, x3, rfl⟩⟩ := loop_lq (X := cxOf (L2.CX P w) P w K mg base lwN "law" (defScope sLaw) f cdv A0 outer s0 H E) (N := N) (W := W) (f := asName 1) (body := bodyOf sLaw 0) (T := List M) (mu := fun t => t) (nx := fun (a : Nat) t => t ++ [(lapsP (potF ns a)).m]) (gd := inD)
    (fun a => a ≤ 6) (fun t δ => Tb PT PR t ∧ ∃ x1 x2 x3, δ = [some (.p (.sc ns)), x1, x2, x3]) hone (List.range (cellsN ns)) [some (.p (.sc ns)), none, none, none] μ' (fun a ha => by have := List.mem_range.mp ha; omega) ⟨hT, _, _, _, rfl⟩
  refine ⟨_, dss_cons (ds_for g (di_of (di_lst g (de_call g cc (da_cons (de_var 0) (da_cons de_int da_nil)) ⟨ns, rfl, rfl, rfl⟩)) (rng_in _)) (dg_name 1 g.nd) hlo) (cn (dss_ret de_bl)), ?_⟩
  conv => rhs; rw [← (fold_app (fun a => (lapsP (potF ns a)).m) (List.range (cellsN ns)) μ').1]
  exact .rtT (Nat.le_refl _)
end
theorem spD_lawT2 {K : PySem.W.Frag} {R : Rel} {H : Hp} {a PL PF : Addr} {q q' : Str} {ns : List Int} (hP : H PL = some (.tbl #[])) (nP : K.lookup PL = none) (hP2 : H PF = some (.tbl #[])) (nP2 : K.lookup PF = none) (hne : PL ≠ PF) (hS : SqL K H a (ns.map V.int)) (hR : R [.p (.sc ns)] [.tab PL q, .tab PF q'] (.v (.p (.bl true))) [.tab PL q, .tab PF q']) : spD K R [.ref a] H (fun v _ => v = .bl true) (fun _ _ _ => False) := by
  have hs : SqL K (fun b => if b = a then H b else none) a (ns.map V.int) := by
    rcases hS with (h | ⟨o, h⟩) | h
    · exact .inl (.inl ((if_pos rfl).trans h))
    · exact .inl (.inr ⟨o, (if_pos rfl).trans h⟩)
    · exact .inr h
  have ha : ∀ Q, H Q = some (.tbl #[]) → K.lookup Q = none → Q ≠ a := fun Q hQ nQ z => by
    subst z
    rcases hS with (h | ⟨o, h⟩) | ⟨o, its, n, h, _⟩
    · rw [hQ] at h; cases h
    · rw [hQ] at h; cases h
    · rw [nQ] at h; cases h
  refine ⟨fun b => if b = a then H b else none, [PL, PF], [.p (.sc ns)], [.tab PL q, .tab PF q'], .v (.p (.bl true)), [.tab PL q, .tab PF q'], hR,
    { sub := fun b o e => ?_, base := Same.refl _, new := fun b o e => .inl ⟨o, e⟩, keep := fun _ _ e _ => e, pre := ⟨[], rfl, fun _ h => by cases h⟩, nd := by simp [hne], len := rfl, mus := fun j b m h1 h2 => ?_, fr := fun j b m h1 h2 h3 => ?_ },
    .cons (.sc hs) .nil, fun v F' A' H' _ rv => ?_⟩
  · by_cases hb : b = a
    · exact (if_pos hb).symm.trans e
    · cases (if_neg hb).symm.trans e
  · match j, h1, h2 with
    | 0, h1, h2 =>
      cases h1
      cases h2
      exact ⟨rfl, #[], hP, trivial, fun p v h => by simp [codeAmong] at h⟩
    | 1, h1, h2 =>
      cases h1
      cases h2
      exact ⟨rfl, #[], hP2, trivial, fun p v h => by simp [codeAmong] at h⟩
    | j + 2, h1, _ => simp at h1
  · match j, h1 with
    | 0, h1 =>
      cases h1
      exact if_neg (ha _ hP nP)
    | 1, h1 =>
      cases h1
      exact if_neg (ha _ hP2 nP2)
    | j + 2, h1 => simp at h1
  · have rv' : Rep K F' v (.bl true) := rv
    cases rv'
    rfl
end K20
set_option Elab.async false
set_option linter.all false
set_option maxRecDepth 100000
set_option maxHeartbeats 4000000
set_option autoImplicit false
namespace K20
open PySem PySem.Spec PyProof.Rows L2 Dl Cq
/-! ### a name that no key of a dict is -/
def KeyAre : List DictEntry → List Str → Prop
  | [], [] => True
  | e :: r, x :: l => (∃ t, e.key = .str x t) ∧ KeyAre r l
  | _, _ => False
theorem keys_no {y : Str} : ∀ {es : List DictEntry} {ks : List Str}, KeyAre es ks → y ∉ ks → es.find? (·.key.isStr y) = none ∧ es.any (·.refKey) = false
  | [], [], _, _ => ⟨rfl, rfl⟩
  | e :: r, x :: l, ⟨⟨t, h⟩, hr⟩, hn => by
    obtain ⟨a, b⟩ := keys_no hr fun z => hn (List.mem_cons_of_mem _ z)
    have hx : x ≠ y := fun z => hn (by rw [z]; exact List.mem_cons_self)
    refine ⟨?_, ?_⟩
    · rw [List.find?_cons, h]
      have : (Value.str x t).isStr y = false := by
        rw [PySem.W.isStr_of]
        simpa [Value.isStrOf] using hx
      rw [this]
      exact a
    · rw [List.any_cons, b]
      simp [DictEntry.refKey, h]
theorem ns_no {K : PySem.W.Frag} {a : Addr} {es : Array DictEntry} {n : Nat} {ks : List Str} {y : Str} (l : K.lookup a = some ⟨.type "dict", none, .dict es n, #[]⟩) (h : KeyAre es.toList ks) (hn : y ∉ ks) : PySem.W.nsIn K a y = some none := by
  obtain ⟨p, q⟩ := keys_no h hn
  unfold PySem.W.nsIn
  rw [l]
  simp only
  rw [p]
  simp only
  rw [q]
  rfl
theorem noS_of {L : List Nat} (h : szV L = none) : st L ∉ ([1, 2, 3, 4] : List Nat).map fun w => st (Cq.wT w) := by
  intro z
  obtain ⟨w, hw, e⟩ := List.mem_map.mp z
  have e := st_inj.mp e
  unfold szV at h
  have := List.find?_eq_none.mp h w hw
  simp [e] at this
theorem noT_of {L : List Nat} (h : mnV L = none) : st L ∉ manys.map fun i => st (mt i) := by
  intro z
  obtain ⟨w, hw, e⟩ := List.mem_map.mp z
  have e := st_inj.mp e
  unfold mnV at h
  have := List.find?_eq_none.mp h w hw
  simp [e] at this
end K20
set_option Elab.async false
set_option linter.all false
set_option maxRecDepth 100000
set_option maxHeartbeats 8000000
set_option autoImplicit false
namespace K20
open PySem PySem.Spec PyProof.Rows L2 Dl Cq
theorem scErr : FnScope ["self", "value"] ["self", "value"] (defScope sErr) := ⟨rfl, rfl, rfl, by decide +kernel, rfl, by decide +kernel, by decide +kernel⟩
theorem all_mk {l : PySem.W.OpenLaw} {w : World} {K : PySem.W.Frag} {h : Heap} {mg : Str → Option Value} {fa C CC CB CK  fd0 fd1 fd2 fd3 fd4 fd5 fd6 fd7 fd8 fd9 fd10 fd11 fd12 fd13 fd14 fd15 fd16 fd17 fd18 fd19 fd20 fd21 fd22 fd23 fd24 fd25 fd26 fd27 fd28 fd29 fd30 fd31 fd32 fd33 fd34 fd35 fd36 fw0 fm0 fp0 pap0 aS aT aW aA aP fI cA PL cB PF : Addr} (X : K.In h) (G : h.Ns mainGlobals mg) (hfa : mg "law" = some (.ref fa))
    {odd0 and0 odd1 and1 odd2 and2 odd3 and3 odd4 and4 odd5 and5 odd6 and6 odd7 and7 odd8 and8 odd9 and9 odd10 and10 odd11 and11 odd12 and12 odd13 and13 odd14 and14 odd15 and15 odd16 and16 odd17 and17 odd18 and18 odd19 and19 odd20 and20 odd21 and21 odd22 and22 odd23 and23 odd24 and24 odd25 and25 odd26 and26 odd27 and27 odd28 and28 odd29 and29 odd30 and30 odd31 and31 odd32 and32 odd33 and33 odd34 and34 odd35 and35 odd36 and36 odw0 anw0 odm0 anm0 odp0 anp0 odaW odaA odaP odI anI odc ode : Option Addr} {sld0 sld1 sld2 sld3 sld4 sld5 sld6 sld7 sld8 sld9 sld10 sld11 sld12 sld13 sld14 sld15 sld16 sld17 sld18 sld19 sld20 sld21 sld22 sld23 sld24 sld25 sld26 sld27 sld28 sld29 sld30 sld31 sld32 sld33 sld34 sld35 sld36 slw0 slm0 slp0 slaW slaA slaP slI slc sle : Array (Option Value)} {ocd0 kVd0 dcd0 pmd0 cdd0 ctd0 ocd1 kVd1 dcd1 pmd1 cdd1 ctd1 ocd2 kVd2 dcd2 pmd2 cdd2 ctd2 ocd3 kVd3 dcd3 pmd3 cdd3 ctd3 ocd4 kVd4 dcd4 pmd4 cdd4 ctd4 ocd5 kVd5 dcd5 pmd5 cdd5 ctd5 ocd6 kVd6 dcd6 pmd6 cdd6 ctd6 ocd7 kVd7 dcd7 pmd7 cdd7 ctd7 ocd8 kVd8 dcd8 pmd8 cdd8 ctd8 ocd9 kVd9 dcd9 pmd9 cdd9 ctd9 ocd10 kVd10 dcd10 pmd10 cdd10 ctd10 ocd11 kVd11 dcd11 pmd11 cdd11 ctd11 ocd12 kVd12 dcd12 pmd12 cdd12 ctd12 ocd13 kVd13 dcd13 pmd13 cdd13 ctd13 ocd14 kVd14 dcd14 pmd14 cdd14 ctd14 ocd15 kVd15 dcd15 pmd15 cdd15 ctd15 ocd16 kVd16 dcd16 pmd16 cdd16 ctd16 ocd17 kVd17 dcd17 pmd17 cdd17 ctd17 ocd18 kVd18 dcd18 pmd18 cdd18 ctd18 ocd19 kVd19 dcd19 pmd19 cdd19 ctd19 ocd20 kVd20 dcd20 pmd20 cdd20 ctd20 ocd21 kVd21 dcd21 pmd21 cdd21 ctd21 ocd22 kVd22 dcd22 pmd22 cdd22 ctd22 ocd23 kVd23 dcd23 pmd23 cdd23 ctd23 ocd24 kVd24 dcd24 pmd24 cdd24 ctd24 ocd25 kVd25 dcd25 pmd25 cdd25 ctd25 ocd26 kVd26 dcd26 pmd26 cdd26 ctd26 ocd27 kVd27 dcd27 pmd27 cdd27 ctd27 ocd28 kVd28 dcd28 pmd28 cdd28 ctd28 ocd29 kVd29 dcd29 pmd29 cdd29 ctd29 ocd30 kVd30 dcd30 pmd30 cdd30 ctd30 ocd31 kVd31 dcd31 pmd31 cdd31 ctd31 ocd32 kVd32 dcd32 pmd32 cdd32 ctd32 ocd33 kVd33 dcd33 pmd33 ctd33 ocd34 kVd34 dcd34 pmd34 cdd34 ctd34 ocd35 kVd35 dcd35 pmd35 ctd35 ocd36 kVd36 dcd36 pmd36 cdd36 ctd36 ocw0 kVw0 dcw0 pmw0 cdw0 ctw0 ocm0 kVm0 dcm0 pmm0 cdm0 ctm0 ocp0 kVp0 dcp0 pmp0 cdp0 ctp0 ocI kVI dcI pmI cdI ctI occ oce : Value} {ulets umost unml ulnm umln umtn umkn uS1 uS2 uS3 uS4 uT1 uT2 uT3 uT4 uTm1 uTm2 uTm3 uTm4 xaW0 xaW1 xaW2 xaW3 xaA0 xaA1 xaP0 xaP1 xaP2 : Tok} {rsp0 : List Value} {vsc vse : Array Value} {esaS esaT : Array DictEntry} {naS naT naW naA naP  : Nat} {nmCB qCB : Str} {NCB : Addr} {bsCB subCB : List Value} {snCB : List Str} {abCB : Bool} {colCB : Option Bool} {ddCB : Option Addr} {x0CB x1CB x2CB x3CB x5CB : Option Value}
    (tabsc : ∀ (c P : Addr), PySem.W.tabIn K "_law_is_judged" = some (c, P) → PySem.W.CodeHd h c P ∧ h.get? P = some (PySem.W.tabObj #[]))
    (tabse : ∀ (c P : Addr), PySem.W.tabIn K "_law_right" = some (c, P) → PySem.W.CodeHd h c P ∧ h.get? P = some (PySem.W.tabObj #[]))
    (ad0 : PySem.W.nsIn K mainGlobals "is_name" = some (some (.ref fd0)))
    (ld0 : K.lookup fd0 = some ⟨ocd0, odd0, .func (PySem.W.fnOf "is_name" "is_name" (defArgs sName) (defBody sName) (defScope sName) .none kVd0 dcd0 pmd0 and0 cdd0 ctd0), sld0⟩)
    (cd0 : PySem.W.codeIn K cdd0 "is_name" = true)
    (kd0 : PySem.W.keepIn K (.ref fd0) = true)
    (ad1 : PySem.W.nsIn K mainGlobals "ascending" = some (some (.ref fd1)))
    (ld1 : K.lookup fd1 = some ⟨ocd1, odd1, .func (PySem.W.fnOf "ascending" "ascending" (defArgs sAsc) (defBody sAsc) (defScope sAsc) .none kVd1 dcd1 pmd1 and1 cdd1 ctd1), sld1⟩)
    (cd1 : PySem.W.codeIn K cdd1 "ascending" = true)
    (kd1 : PySem.W.keepIn K (.ref fd1) = true)
    (ad2 : PySem.W.nsIn K mainGlobals "_merged" = some (some (.ref fd2)))
    (ld2 : K.lookup fd2 = some ⟨ocd2, odd2, .func (PySem.W.fnOf "_merged" "_merged" (defArgs sMerged) (defBody sMerged) (defScope sMerged) .none kVd2 dcd2 pmd2 and2 cdd2 ctd2), sld2⟩)
    (cd2 : PySem.W.codeIn K cdd2 "_merged" = true)
    (kd2 : PySem.W.keepIn K (.ref fd2) = true)
    (ad3 : PySem.W.nsIn K mainGlobals "are_letters" = some (some (.ref fd3)))
    (ld3 : K.lookup fd3 = some ⟨ocd3, odd3, .func (PySem.W.fnOf "are_letters" "are_letters" (defArgs sAre) (defBody sAre) (defScope sAre) .none kVd3 dcd3 pmd3 and3 cdd3 ctd3), sld3⟩)
    (cd3 : PySem.W.codeIn K cdd3 "are_letters" = true)
    (kd3 : PySem.W.keepIn K (.ref fd3) = true)
    (ad4 : PySem.W.nsIn K mainGlobals "read_circuit" = some (some (.ref fd4)))
    (ld4 : K.lookup fd4 = some ⟨ocd4, odd4, .func (PySem.W.fnOf "read_circuit" "read_circuit" (defArgs sReadC) (defBody sReadC) (defScope sReadC) .none kVd4 dcd4 pmd4 and4 cdd4 ctd4), sld4⟩)
    (cd4 : PySem.W.codeIn K cdd4 "read_circuit" = true)
    (kd4 : PySem.W.keepIn K (.ref fd4) = true)
    (ad5 : PySem.W.nsIn K mainGlobals "read_line" = some (some (.ref fd5)))
    (ld5 : K.lookup fd5 = some ⟨ocd5, odd5, .func (PySem.W.fnOf "read_line" "read_line" (defArgs sReadL) (defBody sReadL) (defScope sReadL) .none kVd5 dcd5 pmd5 and5 cdd5 ctd5), sld5⟩)
    (cd5 : PySem.W.codeIn K cdd5 "read_line" = true)
    (kd5 : PySem.W.keepIn K (.ref fd5) = true)
    (ad6 : PySem.W.nsIn K mainGlobals "is_turn" = some (some (.ref fd6)))
    (ld6 : K.lookup fd6 = some ⟨ocd6, odd6, .func (PySem.W.fnOf "is_turn" "is_turn" (defArgs sIsTurn) (defBody sIsTurn) (defScope sIsTurn) .none kVd6 dcd6 pmd6 and6 cdd6 ctd6), sld6⟩)
    (cd6 : PySem.W.codeIn K cdd6 "is_turn" = true)
    (kd6 : PySem.W.keepIn K (.ref fd6) = true)
    (ad7 : PySem.W.nsIn K mainGlobals "_read_about" = some (some (.ref fd7)))
    (ld7 : K.lookup fd7 = some ⟨ocd7, odd7, .func (PySem.W.fnOf "_read_about" "_read_about" (defArgs sAbout) (defBody sAbout) (defScope sAbout) .none kVd7 dcd7 pmd7 and7 cdd7 ctd7), sld7⟩)
    (cd7 : PySem.W.codeIn K cdd7 "_read_about" = true)
    (kd7 : PySem.W.keepIn K (.ref fd7) = true)
    (ad8 : PySem.W.nsIn K mainGlobals "_read_turn" = some (some (.ref fd8)))
    (ld8 : K.lookup fd8 = some ⟨ocd8, odd8, .func (PySem.W.fnOf "_read_turn" "_read_turn" (defArgs sTurn) (defBody sTurn) (defScope sTurn) .none kVd8 dcd8 pmd8 and8 cdd8 ctd8), sld8⟩)
    (cd8 : PySem.W.codeIn K cdd8 "_read_turn" = true)
    (kd8 : PySem.W.keepIn K (.ref fd8) = true)
    (ad9 : PySem.W.nsIn K mainGlobals "_is_about" = some (some (.ref fd9)))
    (ld9 : K.lookup fd9 = some ⟨ocd9, odd9, .func (PySem.W.fnOf "_is_about" "_is_about" (defArgs sIsAbout) (defBody sIsAbout) (defScope sIsAbout) .none kVd9 dcd9 pmd9 and9 cdd9 ctd9), sld9⟩)
    (cd9 : PySem.W.codeIn K cdd9 "_is_about" = true)
    (kd9 : PySem.W.keepIn K (.ref fd9) = true)
    (ad10 : PySem.W.nsIn K mainGlobals "_are_wires" = some (some (.ref fd10)))
    (ld10 : K.lookup fd10 = some ⟨ocd10, odd10, .func (PySem.W.fnOf "_are_wires" "_are_wires" (defArgs sWires) (defBody sWires) (defScope sWires) .none kVd10 dcd10 pmd10 and10 cdd10 ctd10), sld10⟩)
    (cd10 : PySem.W.codeIn K cdd10 "_are_wires" = true)
    (kd10 : PySem.W.keepIn K (.ref fd10) = true)
    (ad11 : PySem.W.nsIn K mainGlobals "_law_pot" = some (some (.ref fd11)))
    (ld11 : K.lookup fd11 = some ⟨ocd11, odd11, .func (PySem.W.fnOf "_law_pot" "_law_pot" (defArgs sPot) (defBody sPot) (defScope sPot) .none kVd11 dcd11 pmd11 and11 cdd11 ctd11), sld11⟩)
    (cd11 : PySem.W.codeIn K cdd11 "_law_pot" = true)
    (kd11 : PySem.W.keepIn K (.ref fd11) = true)
    (ad12 : PySem.W.nsIn K mainGlobals "_law_take" = some (some (.ref fd12)))
    (ld12 : K.lookup fd12 = some ⟨ocd12, odd12, .func (PySem.W.fnOf "_law_take" "_law_take" (defArgs sTake) (defBody sTake) (defScope sTake) .none kVd12 dcd12 pmd12 and12 cdd12 ctd12), sld12⟩)
    (cd12 : PySem.W.codeIn K cdd12 "_law_take" = true)
    (kd12 : PySem.W.keepIn K (.ref fd12) = true)
    (ad13 : PySem.W.nsIn K mainGlobals "_law_of" = some (some (.ref fd13)))
    (ld13 : K.lookup fd13 = some ⟨ocd13, odd13, .func (PySem.W.fnOf "_law_of" "_law_of" (defArgs sOf) (defBody sOf) (defScope sOf) .none kVd13 dcd13 pmd13 and13 cdd13 ctd13), sld13⟩)
    (cd13 : PySem.W.codeIn K cdd13 "_law_of" = true)
    (kd13 : PySem.W.keepIn K (.ref fd13) = true)
    (ad14 : PySem.W.nsIn K mainGlobals "_law_some" = some (some (.ref fd14)))
    (ld14 : K.lookup fd14 = some ⟨ocd14, odd14, .func (PySem.W.fnOf "_law_some" "_law_some" (defArgs sSome) (defBody sSome) (defScope sSome) .none kVd14 dcd14 pmd14 and14 cdd14 ctd14), sld14⟩)
    (cd14 : PySem.W.codeIn K cdd14 "_law_some" = true)
    (kd14 : PySem.W.keepIn K (.ref fd14) = true)
    (ad15 : PySem.W.nsIn K mainGlobals "_law_cells" = some (some (.ref fd15)))
    (ld15 : K.lookup fd15 = some ⟨ocd15, odd15, .func (PySem.W.fnOf "_law_cells" "_law_cells" (defArgs sCells) (defBody sCells) (defScope sCells) .none kVd15 dcd15 pmd15 and15 cdd15 ctd15), sld15⟩)
    (cd15 : PySem.W.codeIn K cdd15 "_law_cells" = true)
    (kd15 : PySem.W.keepIn K (.ref fd15) = true)
    (ad16 : PySem.W.nsIn K mainGlobals "_law_word_text" = some (some (.ref fd16)))
    (ld16 : K.lookup fd16 = some ⟨ocd16, odd16, .func (PySem.W.fnOf "_law_word_text" "_law_word_text" (defArgs sWText) (defBody sWText) (defScope sWText) .none kVd16 dcd16 pmd16 and16 cdd16 ctd16), sld16⟩)
    (cd16 : PySem.W.codeIn K cdd16 "_law_word_text" = true)
    (kd16 : PySem.W.keepIn K (.ref fd16) = true)
    (ad17 : PySem.W.nsIn K mainGlobals "_law_drawn_word" = some (some (.ref fd17)))
    (ld17 : K.lookup fd17 = some ⟨ocd17, odd17, .func (PySem.W.fnOf "_law_drawn_word" "_law_drawn_word" (defArgs sDWord) (defBody sDWord) (defScope sDWord) .none kVd17 dcd17 pmd17 and17 cdd17 ctd17), sld17⟩)
    (cd17 : PySem.W.codeIn K cdd17 "_law_drawn_word" = true)
    (kd17 : PySem.W.keepIn K (.ref fd17) = true)
    (ad18 : PySem.W.nsIn K mainGlobals "_law_line_text" = some (some (.ref fd18)))
    (ld18 : K.lookup fd18 = some ⟨ocd18, odd18, .func (PySem.W.fnOf "_law_line_text" "_law_line_text" (defArgs sLText) (defBody sLText) (defScope sLText) .none kVd18 dcd18 pmd18 and18 cdd18 ctd18), sld18⟩)
    (cd18 : PySem.W.codeIn K cdd18 "_law_line_text" = true)
    (kd18 : PySem.W.keepIn K (.ref fd18) = true)
    (ad19 : PySem.W.nsIn K mainGlobals "_law_text" = some (some (.ref fd19)))
    (ld19 : K.lookup fd19 = some ⟨ocd19, odd19, .func (PySem.W.fnOf "_law_text" "_law_text" (defArgs sText) (defBody sText) (defScope sText) .none kVd19 dcd19 pmd19 and19 cdd19 ctd19), sld19⟩)
    (cd19 : PySem.W.codeIn K cdd19 "_law_text" = true)
    (kd19 : PySem.W.keepIn K (.ref fd19) = true)
    (ad20 : PySem.W.nsIn K mainGlobals "_law_gate" = some (some (.ref fd20)))
    (ld20 : K.lookup fd20 = some ⟨ocd20, odd20, .func (PySem.W.fnOf "_law_gate" "_law_gate" (defArgs sGate) (defBody sGate) (defScope sGate) .none kVd20 dcd20 pmd20 and20 cdd20 ctd20), sld20⟩)
    (cd20 : PySem.W.codeIn K cdd20 "_law_gate" = true)
    (kd20 : PySem.W.keepIn K (.ref fd20) = true)
    (ad21 : PySem.W.nsIn K mainGlobals "_law_knobs" = some (some (.ref fd21)))
    (ld21 : K.lookup fd21 = some ⟨ocd21, odd21, .func (PySem.W.fnOf "_law_knobs" "_law_knobs" (defArgs sKnobs) (defBody sKnobs) (defScope sKnobs) .none kVd21 dcd21 pmd21 and21 cdd21 ctd21), sld21⟩)
    (cd21 : PySem.W.codeIn K cdd21 "_law_knobs" = true)
    (kd21 : PySem.W.keepIn K (.ref fd21) = true)
    (ad22 : PySem.W.nsIn K mainGlobals "_law_turn" = some (some (.ref fd22)))
    (ld22 : K.lookup fd22 = some ⟨ocd22, odd22, .func (PySem.W.fnOf "_law_turn" "_law_turn" (defArgs sDTurn) (defBody sDTurn) (defScope sDTurn) .none kVd22 dcd22 pmd22 and22 cdd22 ctd22), sld22⟩)
    (cd22 : PySem.W.codeIn K cdd22 "_law_turn" = true)
    (kd22 : PySem.W.keepIn K (.ref fd22) = true)
    (ad23 : PySem.W.nsIn K mainGlobals "_law_lines" = some (some (.ref fd23)))
    (ld23 : K.lookup fd23 = some ⟨ocd23, odd23, .func (PySem.W.fnOf "_law_lines" "_law_lines" (defArgs sLines) (defBody sLines) (defScope sLines) .none kVd23 dcd23 pmd23 and23 cdd23 ctd23), sld23⟩)
    (cd23 : PySem.W.codeIn K cdd23 "_law_lines" = true)
    (kd23 : PySem.W.keepIn K (.ref fd23) = true)
    (ad24 : PySem.W.nsIn K mainGlobals "_law_is_name" = some (some (.ref fd24)))
    (ld24 : K.lookup fd24 = some ⟨ocd24, odd24, .func (PySem.W.fnOf "_law_is_name" "_law_is_name" (defArgs sIsName) (defBody sIsName) (defScope sIsName) .none kVd24 dcd24 pmd24 and24 cdd24 ctd24), sld24⟩)
    (cd24 : PySem.W.codeIn K cdd24 "_law_is_name" = true)
    (kd24 : PySem.W.keepIn K (.ref fd24) = true)
    (ad25 : PySem.W.nsIn K mainGlobals "_law_whole_in" = some (some (.ref fd25)))
    (ld25 : K.lookup fd25 = some ⟨ocd25, odd25, .func (PySem.W.fnOf "_law_whole_in" "_law_whole_in" (defArgs sWholeIn) (defBody sWholeIn) (defScope sWholeIn) .none kVd25 dcd25 pmd25 and25 cdd25 ctd25), sld25⟩)
    (cd25 : PySem.W.codeIn K cdd25 "_law_whole_in" = true)
    (kd25 : PySem.W.keepIn K (.ref fd25) = true)
    (ad26 : PySem.W.nsIn K mainGlobals "_law_word_in" = some (some (.ref fd26)))
    (ld26 : K.lookup fd26 = some ⟨ocd26, odd26, .func (PySem.W.fnOf "_law_word_in" "_law_word_in" (defArgs sWordIn) (defBody sWordIn) (defScope sWordIn) .none kVd26 dcd26 pmd26 and26 cdd26 ctd26), sld26⟩)
    (cd26 : PySem.W.codeIn K cdd26 "_law_word_in" = true)
    (kd26 : PySem.W.keepIn K (.ref fd26) = true)
    (ad27 : PySem.W.nsIn K mainGlobals "_law_form_in" = some (some (.ref fd27)))
    (ld27 : K.lookup fd27 = some ⟨ocd27, odd27, .func (PySem.W.fnOf "_law_form_in" "_law_form_in" (defArgs sFormIn) (defBody sFormIn) (defScope sFormIn) .none kVd27 dcd27 pmd27 and27 cdd27 ctd27), sld27⟩)
    (cd27 : PySem.W.codeIn K cdd27 "_law_form_in" = true)
    (kd27 : PySem.W.keepIn K (.ref fd27) = true)
    (ad28 : PySem.W.nsIn K mainGlobals "_law_line_in" = some (some (.ref fd28)))
    (ld28 : K.lookup fd28 = some ⟨ocd28, odd28, .func (PySem.W.fnOf "_law_line_in" "_law_line_in" (defArgs sLineIn) (defBody sLineIn) (defScope sLineIn) .none kVd28 dcd28 pmd28 and28 cdd28 ctd28), sld28⟩)
    (cd28 : PySem.W.codeIn K cdd28 "_law_line_in" = true)
    (kd28 : PySem.W.keepIn K (.ref fd28) = true)
    (ad29 : PySem.W.nsIn K mainGlobals "_law_first_bad" = some (some (.ref fd29)))
    (ld29 : K.lookup fd29 = some ⟨ocd29, odd29, .func (PySem.W.fnOf "_law_first_bad" "_law_first_bad" (defArgs sFirstBad) (defBody sFirstBad) (defScope sFirstBad) .none kVd29 dcd29 pmd29 and29 cdd29 ctd29), sld29⟩)
    (cd29 : PySem.W.codeIn K cdd29 "_law_first_bad" = true)
    (kd29 : PySem.W.keepIn K (.ref fd29) = true)
    (ad30 : PySem.W.nsIn K mainGlobals "_law_drawn" = some (some (.ref fd30)))
    (ld30 : K.lookup fd30 = some ⟨ocd30, odd30, .func (PySem.W.fnOf "_law_drawn" "_law_drawn" (defArgs sDrawn) (defBody sDrawn) (defScope sDrawn) .none kVd30 dcd30 pmd30 and30 cdd30 ctd30), sld30⟩)
    (cd30 : PySem.W.codeIn K cdd30 "_law_drawn" = true)
    (kd30 : PySem.W.keepIn K (.ref fd30) = true)
    (ad31 : PySem.W.nsIn K mainGlobals "_law_spoilt" = some (some (.ref fd31)))
    (ld31 : K.lookup fd31 = some ⟨ocd31, odd31, .func (PySem.W.fnOf "_law_spoilt" "_law_spoilt" (defArgs sSpoilt) (defBody sSpoilt) (defScope sSpoilt) .none kVd31 dcd31 pmd31 and31 cdd31 ctd31), sld31⟩)
    (cd31 : PySem.W.codeIn K cdd31 "_law_spoilt" = true)
    (kd31 : PySem.W.keepIn K (.ref fd31) = true)
    (ad32 : PySem.W.nsIn K mainGlobals "_law_heard" = some (some (.ref fd32)))
    (ld32 : K.lookup fd32 = some ⟨ocd32, odd32, .func (PySem.W.fnOf "_law_heard" "_law_heard" (defArgs sHeard) (defBody sHeard) (defScope sHeard) .none kVd32 dcd32 pmd32 and32 cdd32 ctd32), sld32⟩)
    (cd32 : PySem.W.codeIn K cdd32 "_law_heard" = true)
    (kd32 : PySem.W.keepIn K (.ref fd32) = true)
    (ad33 : PySem.W.nsIn K mainGlobals "_law_is_judged" = some (some (.ref fd33)))
    (ld33 : K.lookup fd33 = some ⟨ocd33, odd33, .func (PySem.W.fnOf "_law_is_judged" "_law_is_judged" (defArgs sJudged) (defBody sJudged) (defScope sJudged) .none kVd33 dcd33 pmd33 and33 (.ref cA) ctd33), sld33⟩)
    (cd33 : PySem.W.codeIn K (.ref cA) "_law_is_judged" = true)
    (kd33 : PySem.W.keepIn K (.ref fd33) = true)
    (ad34 : PySem.W.nsIn K mainGlobals "_law_rows_of" = some (some (.ref fd34)))
    (ld34 : K.lookup fd34 = some ⟨ocd34, odd34, .func (PySem.W.fnOf "_law_rows_of" "_law_rows_of" (defArgs sRowsOf) (defBody sRowsOf) (defScope sRowsOf) .none kVd34 dcd34 pmd34 and34 cdd34 ctd34), sld34⟩)
    (cd34 : PySem.W.codeIn K cdd34 "_law_rows_of" = true)
    (kd34 : PySem.W.keepIn K (.ref fd34) = true)
    (ad35 : PySem.W.nsIn K mainGlobals "_law_right" = some (some (.ref fd35)))
    (ld35 : K.lookup fd35 = some ⟨ocd35, odd35, .func (PySem.W.fnOf "_law_right" "_law_right" (defArgs sRight) (defBody sRight) (defScope sRight) .none kVd35 dcd35 pmd35 and35 (.ref cB) ctd35), sld35⟩)
    (cd35 : PySem.W.codeIn K (.ref cB) "_law_right" = true)
    (kd35 : PySem.W.keepIn K (.ref fd35) = true)
    (ad36 : PySem.W.nsIn K mainGlobals "law" = some (some (.ref fd36)))
    (ld36 : K.lookup fd36 = some ⟨ocd36, odd36, .func (PySem.W.fnOf "law" "law" (defArgs sLaw) (defBody sLaw) (defScope sLaw) .none kVd36 dcd36 pmd36 and36 cdd36 ctd36), sld36⟩)
    (cd36 : PySem.W.codeIn K cdd36 "law" = true)
    (kd36 : PySem.W.keepIn K (.ref fd36) = true)
    (hn : PySem.W.specialIn K (.builtin "object.__class__") "__get__" = some (some (.builtin "getset_descriptor.__get__")))
    (ht : PySem.W.takesIn K (.builtin "object.__class__") = some true)
    (aC : PySem.W.nsIn K mainGlobals "Word" = some (some (.ref C)))
    (pgC : PySem.W.plainGet K C Str.empty = true)
    (hdC : PySem.W.hasDictIn K C = true)
    (poC : PySem.W.plainOver K C = true)
    (saC : PySem.W.findIn K (.ref C) "__setattr__" = some (some (.builtin "object.__setattr__")))
    (mkC : PySem.W.makesIn K C = true)
    (kC : PySem.W.keepIn K (.ref C) = true)
    (haC : PySem.W.findIn K (.ref C) "__class__" = some (some (.builtin "object.__class__")))
    (hmC : PySem.W.mroIn K C (.type "object") = some true)
    (nC0 : PySem.W.findIn K (.ref C) "letters" = some none)
    (nC1 : PySem.W.findIn K (.ref C) "sign" = some none)
    (aCC : PySem.W.nsIn K mainGlobals "Circuit" = some (some (.ref CC)))
    (pgCC : PySem.W.plainGet K CC Str.empty = true)
    (hdCC : PySem.W.hasDictIn K CC = true)
    (poCC : PySem.W.plainOver K CC = true)
    (saCC : PySem.W.findIn K (.ref CC) "__setattr__" = some (some (.builtin "object.__setattr__")))
    (mkCC : PySem.W.makesIn K CC = true)
    (kCC : PySem.W.keepIn K (.ref CC) = true)
    (haCC : PySem.W.findIn K (.ref CC) "__class__" = some (some (.builtin "object.__class__")))
    (hmCC : PySem.W.mroIn K CC (.type "object") = some true)
    (nCC0 : PySem.W.findIn K (.ref CC) "_text" = some none)
    (nCC1 : PySem.W.findIn K (.ref CC) "_lines" = some none)
    (nCC2 : PySem.W.findIn K (.ref CC) "steps" = some none)
    (nCC3 : PySem.W.findIn K (.ref CC) "wires" = some none)
    (nCC4 : PySem.W.findIn K (.ref CC) "knobs" = some none)
    (nCC5 : PySem.W.findIn K (.ref CC) "turns" = some none)
    (aw0 : PySem.W.findIn K (.ref C) "__init__" = some (some (.ref fw0)))
    (iw0 : PySem.W.isFn K (.ref fw0) = true)
    (lw0 : K.lookup fw0 = some ⟨ocw0, odw0, .func (PySem.W.fnOf "__init__" "Word.__init__" (defArgs sInit) (defBody sInit) (defScope sInit) .none kVw0 dcw0 pmw0 anw0 cdw0 ctw0), slw0⟩)
    (cw0 : PySem.W.codeIn K cdw0 "Word.__init__" = true)
    (kw0 : PySem.W.keepIn K (.ref fw0) = true)
    (am0 : PySem.W.findIn K (.ref CC) "__init__" = some (some (.ref fm0)))
    (im0 : PySem.W.isFn K (.ref fm0) = true)
    (lm0 : K.lookup fm0 = some ⟨ocm0, odm0, .func (PySem.W.fnOf "__init__" "Circuit.__init__" (defArgs sCInit) (defBody sCInit) (defScope sCInit) .none kVm0 dcm0 pmm0 anm0 cdm0 ctm0), slm0⟩)
    (cm0 : PySem.W.codeIn K cdm0 "Circuit.__init__" = true)
    (km0 : PySem.W.keepIn K (.ref fm0) = true)
    (ap0 : PySem.W.findIn K (.ref CC) "text" = some (some (.ref pap0)))
    (gp0 : PySem.W.specialIn K (.ref pap0) "__get__" = some (some (.builtin "property.__get__")))
    (tp0 : PySem.W.takesIn K (.ref pap0) = some true)
    (rp0 : PySem.W.recIn K pap0 "property" = some (.ref fp0 :: rsp0))
    (lp0 : K.lookup fp0 = some ⟨ocp0, odp0, .func (PySem.W.fnOf "text" "Circuit.text" (defArgs sCText) (defBody sCText) (defScope sCText) .none kVp0 dcp0 pmp0 anp0 cdp0 ctp0), slp0⟩)
    (cp0 : PySem.W.codeIn K cdp0 "Circuit.text" = true)
    (kp0 : PySem.W.keepIn K (.ref fp0) = true)
    (ne : PySem.W.findIn K (.ref CC) "__ne__" = some (some (.builtin "object.__ne__")))
    (nf : PySem.W.notFirst K CC (.ref CC) = true)
    (sf : PySem.W.selfFirst K CC = true)
    (ks_non : PySem.W.kitOne K (.type "NoneType") (.type "str") = some false)
    (ks_int : PySem.W.kitOne K (.type "int") (.type "str") = some false)
    (ks_bl : PySem.W.kitOne K (.type "bool") (.type "str") = some false)
    (ks_lst : PySem.W.kitOne K (.type "list") (.type "str") = some false)
    (ks_tup : PySem.W.kitOne K (.type "tuple") (.type "str") = some false)
    (ks_dic : PySem.W.kitOne K (.type "dict") (.type "str") = some false)
    (ks_wd : PySem.W.kitOne K (.ref C) (.type "str") = some false)
    (z_len : PySem.W.nsIn K mainGlobals "len" = some none)
    (z_int : PySem.W.nsIn K mainGlobals "int" = some none)
    (z_abs : PySem.W.nsIn K mainGlobals "abs" = some none)
    (z_max : PySem.W.nsIn K mainGlobals "max" = some none)
    (z_min : PySem.W.nsIn K mainGlobals "min" = some none)
    (z_range : PySem.W.nsIn K mainGlobals "range" = some none)
    (z_list : PySem.W.nsIn K mainGlobals "list" = some none)
    (z_all : PySem.W.nsIn K mainGlobals "all" = some none)
    (z_isinstance : PySem.W.nsIn K mainGlobals "isinstance" = some none)
    (z_str : PySem.W.nsIn K mainGlobals "str" = some none)
    (z_tuple : PySem.W.nsIn K mainGlobals "tuple" = some none)
    (z_enumerate : PySem.W.nsIn K mainGlobals "enumerate" = some none)
    (z_zip : PySem.W.nsIn K mainGlobals "zip" = some none)
    (z_set : PySem.W.nsIn K mainGlobals "set" = some none)
    (z_repr : PySem.W.nsIn K mainGlobals "repr" = some none)
    (g_lets : PySem.W.nsIn K mainGlobals "LETTERS" = some (some (.str "IXYZ" ulets)))
    (g_most : PySem.W.nsIn K mainGlobals "MOST_WIRES" = some (some (.int 4 umost)))
    (g_nml : PySem.W.nsIn K mainGlobals "NAME_LETTERS" = some (some (.str "abcdefghijklmnopqrstuvwxyz" unml)))
    (g_lnm : PySem.W.nsIn K mainGlobals "LONGEST_NAME" = some (some (.int 8 ulnm)))
    (g_mln : PySem.W.nsIn K mainGlobals "MOST_LINES" = some (some (.int 40 umln)))
    (g_mtn : PySem.W.nsIn K mainGlobals "MOST_TURNS" = some (some (.int 6 umtn)))
    (g_mkn : PySem.W.nsIn K mainGlobals "MOST_KNOBS" = some (some (.int 3 umkn)))
    (gaS : PySem.W.nsIn K mainGlobals "SIZES" = some (some (.ref aS)))
    (gaT : PySem.W.nsIn K mainGlobals "TIMES" = some (some (.ref aT)))
    (gaW : PySem.W.nsIn K mainGlobals "WIRES" = some (some (.ref aW)))
    (gaA : PySem.W.nsIn K mainGlobals "ABOUT" = some (some (.ref aA)))
    (gaP : PySem.W.nsIn K mainGlobals "PAIRS" = some (some (.ref aP)))
    (laS : K.lookup aS = some ⟨.type "dict", none, .dict esaS naS, #[]⟩)
    (yaS : PySem.W.KeysLit w.params esaS.toList)
    (waS : (aS == sysModules) = false)
    (laT : K.lookup aT = some ⟨.type "dict", none, .dict esaT naT, #[]⟩)
    (yaT : PySem.W.KeysLit w.params esaT.toList)
    (waT : (aT == sysModules) = false)
    (s_1 : PySem.W.nsIn K aS "wires 1" = some (some (.int 1 uS1)))
    (s_2 : PySem.W.nsIn K aS "wires 2" = some (some (.int 2 uS2)))
    (s_3 : PySem.W.nsIn K aS "wires 3" = some (some (.int 3 uS3)))
    (s_4 : PySem.W.nsIn K aS "wires 4" = some (some (.int 4 uS4)))
    (kyS : KeyAre esaS.toList (([1, 2, 3, 4] : List Nat).map fun w => st (Cq.wT w)))
    (kyT : KeyAre esaT.toList (manys.map fun i => st (mt i)))
    (t_1 : PySem.W.nsIn K aT "1" = some (some (.int (1) uT1)))
    (t_2 : PySem.W.nsIn K aT "2" = some (some (.int (2) uT2)))
    (t_3 : PySem.W.nsIn K aT "3" = some (some (.int (3) uT3)))
    (t_4 : PySem.W.nsIn K aT "4" = some (some (.int (4) uT4)))
    (t_m1 : PySem.W.nsIn K aT "-1" = some (some (.int (-1) uTm1)))
    (t_m2 : PySem.W.nsIn K aT "-2" = some (some (.int (-2) uTm2)))
    (t_m3 : PySem.W.nsIn K aT "-3" = some (some (.int (-3) uTm3)))
    (t_m4 : PySem.W.nsIn K aT "-4" = some (some (.int (-4) uTm4)))
    (laW : K.lookup aW = some ⟨.type "tuple", odaW, .seq #[.str "0" xaW0, .str "1" xaW1, .str "2" xaW2, .str "3" xaW3] naW, slaW⟩)
    (laA : K.lookup aA = some ⟨.type "tuple", odaA, .seq #[.str "flip" xaA0, .str "quarter" xaA1] naA, slaA⟩)
    (laP : K.lookup aP = some ⟨.type "tuple", odaP, .seq #[.str "cz" xaP0, .str "cx" xaP1, .str "swap" xaP2] naP, slaP⟩)
    (gCB : PySem.W.nsIn K mainGlobals "BadCircuit" = some (some (.ref CB)))
    (LCB : K.lookup CB = some (excClassObj nmCB qCB CB NCB bsCB [.ref CK, .type "ValueError", .type "Exception", .type "BaseException", .type "object"] true snCB subCB abCB colCB ddCB x0CB x1CB x2CB x3CB x5CB "ValueError.__new__"))
    (saCB : PySem.W.findIn K (.ref CB) "__setattr__" = some (some (.builtin "object.__setattr__")))
    (sub_CB : PySem.W.subIn K (.ref CB) (.type "BaseException") = some true)
    (tyCB : PySem.W.typeIn K (.ref CB) = some (.type "type"))
    (kpCB : PySem.W.keepIn K (.ref CB) = true)
    (nvCB : PySem.W.findIn K (.ref CB) "value" = some none)
    (inCB : PySem.W.findIn K (.ref CB) "__init__" = some (some (.ref fI)))
    (gaCB : PySem.W.findIn K (.ref CB) "__getattribute__" = some (some (.builtin "BaseException.__getattribute__")))
    (gtCB : PySem.W.findIn K (.ref CB) "__getattr__" = some none)
    (hdCB : PySem.W.hasDictIn K CB = true)
    (haCB : PySem.W.findIn K (.ref CB) "__class__" = some (some (.builtin "object.__class__")))
    (hmCB : PySem.W.mroIn K CB (.type "object") = some true)
    (s_CB : PySem.W.subIn K (.ref CB) (.ref CK) = some true)
    (tI : PySem.W.typeIn K (.ref fI) = some (.type "function"))
    (lI : K.lookup fI = some ⟨ocI, odI, .func (PySem.W.fnOf "__init__" "KnobError.__init__" (defArgs sErr) (defBody sErr) (defScope sErr) .none kVI dcI pmI anI cdI ctI), slI⟩)
    (cI : PySem.W.codeIn K cdI "KnobError.__init__" = true)
    (kI : PySem.W.keepIn K (.ref fI) = true)
    (gK : PySem.W.nsIn K mainGlobals "KnobError" = some (some (.ref CK)))
    (sK : PySem.W.subIn K (.ref CK) (.type "BaseException") = some true)
    (hdK : PySem.W.hasDictIn K CK = true)
    (tyK : PySem.W.typeIn K (.ref CK) = some (.type "type"))
    (lcA : K.lookup cA = some ⟨occ, odc, .fields vsc, slc⟩)
    (vc : vsc[11]? = some (.ref PL))
    (noPL : K.lookup PL = none)
    (lcB : K.lookup cB = some ⟨oce, ode, .fields vse, sle⟩)
    (ve : vse[11]? = some (.ref PF))
    (noPF : K.lookup PF = none)
    (nePP : (PL == PF) = false) :
    Nonempty (EndG l w K 17 "script" mg fa h 63) := by
  have e := hfa.symm.trans (PySem.W.mg_of X G ad36)
  cases e
  have T : TM mg := ⟨PySem.W.mg_none_of X G z_len, PySem.W.mg_none_of X G z_int, PySem.W.mg_none_of X G z_abs, PySem.W.mg_none_of X G z_max, PySem.W.mg_none_of X G z_min, PySem.W.mg_none_of X G z_range, PySem.W.mg_none_of X G z_list, PySem.W.mg_none_of X G z_all, PySem.W.mg_none_of X G z_isinstance, PySem.W.mg_none_of X G z_str, PySem.W.mg_none_of X G z_tuple, PySem.W.mg_none_of X G z_enumerate, PySem.W.mg_none_of X G z_zip, PySem.W.mg_none_of X G z_set, PySem.W.mg_none_of X G z_repr⟩
  have Ks : KS K C := ⟨ks_non, ks_int, ks_bl, ks_lst, ks_tup, ks_dic, ks_wd⟩
  have T2 : TC K mg C := ⟨⟨⟨pgC, hdC, poC, saC⟩, haC, hn, ht, hmC⟩, nC0, nC1, PySem.W.mg_of X G aC⟩
  have TK : TKc K mg CC := ⟨⟨⟨pgCC, hdCC, poCC, saCC⟩, haCC, hn, ht, hmCC⟩, nCC0, nCC1, nCC2, nCC3, nCC4, nCC5, PySem.W.mg_of X G aCC⟩
  have Z : TG w K mg aS aT aW aA aP := {
    lets := ⟨_, PySem.W.mg_of X G g_lets, _, rfl⟩
    most := ⟨_, PySem.W.mg_of X G g_most, _, rfl⟩
    nml := ⟨_, PySem.W.mg_of X G g_nml, _, rfl⟩
    lnm := ⟨_, PySem.W.mg_of X G g_lnm, _, rfl⟩
    mln := ⟨_, PySem.W.mg_of X G g_mln, _, rfl⟩
    mtn := ⟨_, PySem.W.mg_of X G g_mtn, _, rfl⟩
    mkn := ⟨_, PySem.W.mg_of X G g_mkn, _, rfl⟩
    gS := PySem.W.mg_of X G gaS
    gT := PySem.W.mg_of X G gaT
    gW := PySem.W.mg_of X G gaW
    gA := PySem.W.mg_of X G gaA
    gP := PySem.W.mg_of X G gaP
    kS := ⟨_, _, laS, yaS, waS⟩
    kT := ⟨_, _, laT, yaT, waT⟩
    nS := fun n h1 h4 => by
      have h : n = 1 ∨ n = 2 ∨ n = 3 ∨ n = 4 := by omega
      rcases h with rfl | rfl | rfl | rfl
      · exact ⟨_, s_1, _, rfl⟩
      · exact ⟨_, s_2, _, rfl⟩
      · exact ⟨_, s_3, _, rfl⟩
      · exact ⟨_, s_4, _, rfl⟩
    nT := fun i hi => by
      simp only [manys, List.mem_cons, List.not_mem_nil, or_false] at hi
      rcases hi with rfl | rfl | rfl | rfl | rfl | rfl | rfl | rfl
      · exact ⟨_, t_1, _, rfl⟩
      · exact ⟨_, t_2, _, rfl⟩
      · exact ⟨_, t_3, _, rfl⟩
      · exact ⟨_, t_4, _, rfl⟩
      · exact ⟨_, t_m1, _, rfl⟩
      · exact ⟨_, t_m2, _, rfl⟩
      · exact ⟨_, t_m3, _, rfl⟩
      · exact ⟨_, t_m4, _, rfl⟩
    tW := ⟨_, _, _, laW, rfl, rfl, sz (by show 4 ≤ 100000; decide), (.cons ⟨_, rfl⟩ (.cons ⟨_, rfl⟩ (.cons ⟨_, rfl⟩ (.cons ⟨_, rfl⟩ .nil))))⟩
    tA := ⟨_, _, _, laA, rfl, rfl, sz (by show 2 ≤ 100000; decide), (.cons ⟨_, rfl⟩ (.cons ⟨_, rfl⟩ .nil))⟩
    tP := ⟨_, _, _, laP, rfl, rfl, sz (by show 3 ≤ 100000; decide), (.cons ⟨_, rfl⟩ (.cons ⟨_, rfl⟩ (.cons ⟨_, rfl⟩ .nil)))⟩ }
  have Fd0 := fun_mk (st := sName) ld0 cd0 kd0
  have bd0 := Fd0.binds (ps := ["value"]) fun _ _ _ _ _ _ us hl => match us, hl with | [_], _ => rfl
  have Fd1 := fun_mk (st := sAsc) ld1 cd1 kd1
  have bd1 := Fd1.binds (ps := ["rows"]) fun _ _ _ _ _ _ us hl => match us, hl with | [_], _ => rfl
  have Fd2 := fun_mk (st := sMerged) ld2 cd2 kd2
  have bd2 := Fd2.binds (ps := ["runs"]) fun _ _ _ _ _ _ us hl => match us, hl with | [_], _ => rfl
  have Fd3 := fun_mk (st := sAre) ld3 cd3 kd3
  have bd3 := Fd3.binds (ps := ["text"]) fun _ _ _ _ _ _ us hl => match us, hl with | [_], _ => rfl
  have Fd4 := fun_mk (st := sReadC) ld4 cd4 kd4
  have bd4 := Fd4.binds (ps := ["text"]) fun _ _ _ _ _ _ us hl => match us, hl with | [_], _ => rfl
  have Fd5 := fun_mk (st := sReadL) ld5 cd5 kd5
  have bd5 := Fd5.binds (ps := ["line", "wires"]) fun _ _ _ _ _ _ us hl => match us, hl with | [_, _], _ => rfl
  have Fd6 := fun_mk (st := sIsTurn) ld6 cd6 kd6
  have bd6 := Fd6.binds (ps := ["step"]) fun _ _ _ _ _ _ us hl => match us, hl with | [_], _ => rfl
  have Fd7 := fun_mk (st := sAbout) ld7 cd7 kd7
  have bd7 := Fd7.binds (ps := ["name", "rest", "wires"]) fun _ _ _ _ _ _ us hl => match us, hl with | [_, _, _], _ => rfl
  have Fd8 := fun_mk (st := sTurn) ld8 cd8 kd8
  have bd8 := Fd8.binds (ps := ["rest", "wires"]) fun _ _ _ _ _ _ us hl => match us, hl with | [_, _], _ => rfl
  have Fd9 := fun_mk (st := sIsAbout) ld9 cd9 kd9
  have bd9 := Fd9.binds (ps := ["text", "wires"]) fun _ _ _ _ _ _ us hl => match us, hl with | [_, _], _ => rfl
  have Fd10 := fun_mk (st := sWires) ld10 cd10 kd10
  have bd10 := Fd10.binds (ps := ["texts", "wires"]) fun _ _ _ _ _ _ us hl => match us, hl with | [_, _], _ => rfl
  have Fd11 := fun_mk (st := sPot) ld11 cd11 kd11
  have bd11 := Fd11.binds (ps := ["script", "place"]) fun _ _ _ _ _ _ us hl => match us, hl with | [_, _], _ => rfl
  have Fd12 := fun_mk (st := sTake) ld12 cd12 kd12
  have bd12 := Fd12.binds (ps := ["pot", "upto"]) fun _ _ _ _ _ _ us hl => match us, hl with | [_, _], _ => rfl
  have Fd13 := fun_mk (st := sOf) ld13 cd13 kd13
  have bd13 := Fd13.binds (ps := ["pot", "some"]) fun _ _ _ _ _ _ us hl => match us, hl with | [_, _], _ => rfl
  have Fd14 := fun_mk (st := sSome) ld14 cd14 kd14
  have bd14 := Fd14.binds (ps := ["pot", "pool", "many"]) fun _ _ _ _ _ _ us hl => match us, hl with | [_, _, _], _ => rfl
  have Fd15 := fun_mk (st := sCells) ld15 cd15 kd15
  have bd15 := Fd15.binds (ps := ["script", "most"]) fun _ _ _ _ _ _ us hl => match us, hl with | [_, _], _ => rfl
  have Fd16 := fun_mk (st := sWText) ld16 cd16 kd16
  have bd16 := Fd16.binds (ps := ["word"]) fun _ _ _ _ _ _ us hl => match us, hl with | [_], _ => rfl
  have Fd17 := fun_mk (st := sDWord) ld17 cd17 kd17
  have bd17 := Fd17.binds (ps := ["pot", "wires"]) fun _ _ _ _ _ _ us hl => match us, hl with | [_, _], _ => rfl
  have Fd18 := fun_mk (st := sLText) ld18 cd18 kd18
  have bd18 := Fd18.binds (ps := ["line"]) fun _ _ _ _ _ _ us hl => match us, hl with | [_], _ => rfl
  have Fd19 := fun_mk (st := sText) ld19 cd19 kd19
  have bd19 := Fd19.binds (ps := ["wires", "lines"]) fun _ _ _ _ _ _ us hl => match us, hl with | [_, _], _ => rfl
  have Fd20 := fun_mk (st := sGate) ld20 cd20 kd20
  have bd20 := Fd20.binds (ps := ["pot", "wires"]) fun _ _ _ _ _ _ us hl => match us, hl with | [_, _], _ => rfl
  have Fd21 := fun_mk (st := sKnobs) ld21 cd21 kd21
  have bd21 := Fd21.binds (ps := ["pot", "many"]) fun _ _ _ _ _ _ us hl => match us, hl with | [_, _], _ => rfl
  have Fd22 := fun_mk (st := sDTurn) ld22 cd22 kd22
  have bd22 := Fd22.binds (ps := ["pot", "wires", "knobs"]) fun _ _ _ _ _ _ us hl => match us, hl with | [_, _, _], _ => rfl
  have Fd23 := fun_mk (st := sLines) ld23 cd23 kd23
  have bd23 := Fd23.binds (ps := ["pot", "wires", "knobs", "turns", "fixed"]) fun _ _ _ _ _ _ us hl => match us, hl with | [_, _, _, _, _], _ => rfl
  have Fd24 := fun_mk (st := sIsName) ld24 cd24 kd24
  have bd24 := Fd24.binds (ps := ["value"]) fun _ _ _ _ _ _ us hl => match us, hl with | [_], _ => rfl
  have Fd25 := fun_mk (st := sWholeIn) ld25 cd25 kd25
  have bd25 := Fd25.binds (ps := ["word"]) fun _ _ _ _ _ _ us hl => match us, hl with | [_], _ => rfl
  have Fd26 := fun_mk (st := sWordIn) ld26 cd26 kd26
  have bd26 := Fd26.binds (ps := ["wires", "text"]) fun _ _ _ _ _ _ us hl => match us, hl with | [_, _], _ => rfl
  have Fd27 := fun_mk (st := sFormIn) ld27 cd27 kd27
  have bd27 := Fd27.binds (ps := ["pieces"]) fun _ _ _ _ _ _ us hl => match us, hl with | [_], _ => rfl
  have Fd28 := fun_mk (st := sLineIn) ld28 cd28 kd28
  have bd28 := Fd28.binds (ps := ["wires", "text"]) fun _ _ _ _ _ _ us hl => match us, hl with | [_, _], _ => rfl
  have Fd29 := fun_mk (st := sFirstBad) ld29 cd29 kd29
  have bd29 := Fd29.binds (ps := ["text"]) fun _ _ _ _ _ _ us hl => match us, hl with | [_], _ => rfl
  have Fd30 := fun_mk (st := sDrawn) ld30 cd30 kd30
  have bd30 := Fd30.binds (ps := ["pot", "most"]) fun _ _ _ _ _ _ us hl => match us, hl with | [_, _], _ => rfl
  have Fd31 := fun_mk (st := sSpoilt) ld31 cd31 kd31
  have bd31 := Fd31.binds (ps := ["pot", "rows"]) fun _ _ _ _ _ _ us hl => match us, hl with | [_, _], _ => rfl
  have Fd32 := fun_mk (st := sHeard) ld32 cd32 kd32
  have bd32 := Fd32.binds (ps := ["call"]) fun _ _ _ _ _ _ us hl => match us, hl with | [_], _ => rfl
  have Fd33 := fun_mk (st := sJudged) ld33 cd33 kd33
  have bd33 := Fd33.binds (ps := ["text"]) fun _ _ _ _ _ _ us hl => match us, hl with | [_], _ => rfl
  have Fd34 := fun_mk (st := sRowsOf) ld34 cd34 kd34
  have bd34 := Fd34.binds (ps := ["pot"]) fun _ _ _ _ _ _ us hl => match us, hl with | [_], _ => rfl
  have Fd35 := fun_mk (st := sRight) ld35 cd35 kd35
  have bd35 := Fd35.binds (ps := ["pot"]) fun _ _ _ _ _ _ us hl => match us, hl with | [_], _ => rfl
  have Fd36 := fun_mk (st := sLaw) ld36 cd36 kd36
  have Fm0 := fun_mk (st := sCInit) lm0 cm0 km0
  have bm0 := Fm0.binds (ps := ["self", "text"]) fun _ _ _ _ _ _ us hl => match us, hl with | [_, _], _ => rfl
  have Fp0 := fun_mk (st := sCText) lp0 cp0 kp0
  have bp0 := Fp0.binds (ps := ["self"]) fun _ _ _ _ _ _ us hl => match us, hl with | [_], _ => rfl
  have Fw0 := fun_mk (st := sInit) lw0 cw0 kw0
  have bw0 := Fw0.binds (ps := ["self", "text"]) fun _ _ _ _ _ _ us hl => match us, hl with | [_, _], _ => rfl
  have FI := fun_mk (st := sErr) lI cI kI
  have bI := FI.binds (ps := ["self", "value"]) fun _ _ _ _ _ _ us hl => match us, hl with | [_, _], _ => rfl
  have tabIc : PySem.W.tabIn K "_law_is_judged" = some (cA, PL) := by
    unfold PySem.W.tabIn
    rw [ad33]
    simp only
    rw [ld33]
    show (match K.lookup cA with
      | some ⟨_, _, .fields vs, _⟩ => (match (vs[11]? : Option Value) with
        | some (.ref P) => some (cA, P)
        | _ => none)
      | _ => none) = _
    rw [lcA]
    simp only
    rw [vc]
  have tabIe : PySem.W.tabIn K "_law_right" = some (cB, PF) := by
    unfold PySem.W.tabIn
    rw [ad35]
    simp only
    rw [ld35]
    show (match K.lookup cB with
      | some ⟨_, _, .fields vs, _⟩ => (match (vs[11]? : Option Value) with
        | some (.ref P) => some (cB, P)
        | _ => none)
      | _ => none) = _
    rw [lcB]
    simp only
    rw [ve]
  have exCB := PySem.W.exm_ref sK hdK tyK s_CB
  have hPP : PL ≠ PF := fun z => by rw [z] at nePP; simp at nePP
  obtain ⟨codeT, tabT⟩ := tabsc cA PL tabIc
  obtain ⟨codeT2, tabT2⟩ := tabse cB PF tabIe
  refine ⟨{ fd := PySem.W.fnOf "law" "law" (defArgs sLaw) (defBody sLaw) (defScope sLaw) .none kVd36 dcd36 pmd36 and36 cdd36 ctd36, cs := [(cA, PL), (cB, PF)], R := rLaw PL PF, tab := fun p hp => ?_, bind := fun s v => .of_eq rfl, holds := fun H a ns hl hb hH hS => spD_lawT2 (hH (cA, PL) (by simp)) noPL (hH (cB, PF) (by simp)) noPF hPP hS ⟨ns, rfl, ⟨rfl, rfl⟩, rfl, rfl⟩, ok := fun base _ _ hTB => ?_ }⟩
  · rw [List.mem_cons, List.mem_singleton] at hp
    rcases hp with rfl | rfl
    · exact ⟨tabT, noPL, codeT⟩
    · exact ⟨tabT2, noPF, codeT2⟩
  have TBL : LamX.TabB base mg cA PL := hTB (cA, PL) (by simp)
  have TBF : LamX.TabB base mg cB PF := hTB (cB, PF) (by simp)
  have kErr := fn_err (P := l.prog) (w := w) (mg := mg) (base := base) FI scErr rfl rfl rfl
  have eCB : Ce l.prog w K mg base 1 CB "BadCircuit" := ⟨PySem.W.mg_of X G gCB, ⟨⟨_, _, _, _, _, _, _, _, _, _, _, _, _, _, _, LCB, by rfl⟩, saCB, sub_CB, tyCB, kpCB⟩, nvCB, ⟨fI, _, _, kErr, inCB, tI, bI⟩⟩
  have ZX : TGx w K mg aS aT aW aA aP := ⟨Z, fun L h => ns_no laS kyS (noS_of h), fun L h => ns_no laT kyT (noT_of h)⟩
  have kName : Cf l.prog w K mg base _ "is_name" [] _ := ⟨⟨_, _, _, [], [], ok_name Fd0 T Z, PySem.W.mg_of X G ad0, kd0, bd0, .nil, fun _ => .nil⟩⟩
  have kAre : Cf l.prog w K mg base _ "are_letters" [] _ := ⟨⟨_, _, _, [], [], ok_are Fd3 T Z, PySem.W.mg_of X G ad3, kd3, bd3, .nil, fun _ => .nil⟩⟩
  have kMerged : Cf l.prog w K mg base _ "_merged" [] _ := ⟨⟨_, _, _, [], [], ok_merged Fd2 T, PySem.W.mg_of X G ad2, kd2, bd2, .nil, fun _ => .nil⟩⟩
  have kAsc : Cf l.prog w K mg base _ "ascending" [] _ := ⟨⟨_, _, _, [], [], ok_asc Fd1 T kMerged, PySem.W.mg_of X G ad1, kd1, bd1, .nil, fun _ => .nil⟩⟩
  have kW : Ci l.prog w K mg base 2 C "Word" [] (rInit C) := ⟨PySem.W.mg_of X G aC, ⟨_, _, _, [], [], ok_init Fw0 T T2 kAre, ⟨mkC, aw0, iw0, kC⟩, bw0, .nil, fun _ => .nil⟩⟩
  have kIsAbout : Cf l.prog w K mg base _ "_is_about" [] _ := ⟨⟨_, _, _, [], [], ok_isabout Fd9 T kAre, PySem.W.mg_of X G ad9, kd9, bd9, .nil, fun _ => .nil⟩⟩
  have kWires : Cf l.prog w K mg base _ "_are_wires" [] _ := ⟨⟨_, _, _, [], [], ok_wires Fd10 T Z, PySem.W.mg_of X G ad10, kd10, bd10, .nil, fun _ => .nil⟩⟩
  have kIsTurn : Cf l.prog w K mg base _ "is_turn" [] _ := ⟨⟨_, _, _, [], [], ok_isturn Fd6, PySem.W.mg_of X G ad6, kd6, bd6, .nil, fun _ => .nil⟩⟩
  have kAreG : Cf l.prog w K mg base _ "are_letters" [] _ := ⟨⟨_, _, _, [], [], ok_areG Fd3 T Z, PySem.W.mg_of X G ad3, kd3, bd3, .nil, fun _ => .nil⟩⟩
  have kNameG : Cf l.prog w K mg base _ "is_name" [] _ := ⟨⟨_, _, _, [], [], ok_nameG Fd0 T Z, PySem.W.mg_of X G ad0, kd0, bd0, .nil, fun _ => .nil⟩⟩
  have kIsAboutG : Cf l.prog w K mg base _ "_is_about" [] _ := ⟨⟨_, _, _, [], [], ok_isaboutG Fd9 T kAreG, PySem.W.mg_of X G ad9, kd9, bd9, .nil, fun _ => .nil⟩⟩
  have kWiresG : Cf l.prog w K mg base _ "_are_wires" [] _ := ⟨⟨_, _, _, [], [], ok_wiresG Fd10 T Z, PySem.W.mg_of X G ad10, kd10, bd10, .nil, fun _ => .nil⟩⟩
  have kAbout : Cf l.prog w K mg base _ "_read_about" [] _ := ⟨⟨_, _, _, [], [], ok_rabout Fd7 T T2 kIsAbout kW, PySem.W.mg_of X G ad7, kd7, bd7, .nil, fun _ => .nil⟩⟩
  have kRTurn : Cf l.prog w K mg base _ "_read_turn" [] _ := ⟨⟨_, _, _, [], [], ok_rturn Fd8 T Z T2 kIsAbout kW kName kAsc, PySem.W.mg_of X G ad8, kd8, bd8, .nil, fun _ => .nil⟩⟩
  have kAboutO : Cf l.prog w K mg base _ "_read_about" [] _ := ⟨⟨_, _, _, [], [], fn_or (ok_rabout Fd7 T T2 kIsAbout kW) (ok_raboutB Fd7 T kIsAboutG), PySem.W.mg_of X G ad7, kd7, bd7, .nil, fun _ => .nil⟩⟩
  have kRTurnO : Cf l.prog w K mg base _ "_read_turn" [] _ := ⟨⟨_, _, _, [], [], fn_or (ok_rturn Fd8 T Z T2 kIsAbout kW kName kAsc) (ok_rturnB Fd8 T ZX kIsAboutG kNameG), PySem.W.mg_of X G ad8, kd8, bd8, .nil, fun _ => .nil⟩⟩
  have kReadL : Cf l.prog w K mg base _ "read_line" [] _ := ⟨⟨_, _, _, [], [], ok_readl Fd5 T Z kRTurn kAbout kWires, PySem.W.mg_of X G ad5, kd5, bd5, .nil, fun _ => .nil⟩⟩
  have kReadC : Cf l.prog w K mg base _ "read_circuit" [] _ := ⟨⟨_, _, _, [], [], ok_readc Fd4 T Z kReadL kIsTurn, PySem.W.mg_of X G ad4, kd4, bd4, .nil, fun _ => .nil⟩⟩
  have kReadLO : Cf l.prog w K mg base _ "read_line" [] _ := ⟨⟨_, _, _, [], [], fn_or (ok_readl Fd5 T Z kRTurn kAbout kWires) (ok_readlB Fd5 T ZX kRTurnO kAboutO kWiresG), PySem.W.mg_of X G ad5, kd5, bd5, .nil, fun _ => .nil⟩⟩
  have kReadCB : Cf l.prog w K mg base _ "read_circuit" [] _ := ⟨⟨_, _, _, [], [], ok_readcB Fd4 T ZX kReadLO kIsTurn eCB, PySem.W.mg_of X G ad4, kd4, bd4, .nil, fun _ => .nil⟩⟩
  have kReadCN : Cf l.prog w K mg base _ "read_circuit" [] _ := ⟨⟨_, _, _, [], [], ok_readcN Fd4 T eCB, PySem.W.mg_of X G ad4, kd4, bd4, .nil, fun _ => .nil⟩⟩
  have kCC : Ci l.prog w K mg base 7 CC "Circuit" [] (rCI K CC CB) := ⟨PySem.W.mg_of X G aCC, ⟨_, _, _, [], [], fn_or (ok_cinit Fm0 T TK kReadC kIsTurn kAsc) (fn_or (ok_cinitB Fm0 kReadCB) (ok_cinitN Fm0 kReadCN)), ⟨mkCC, am0, im0, kCC⟩, bm0, .nil, fun _ => .nil⟩⟩
  have pText : Cp l.prog w K mg base 1 CC "text" (rCText CC) := ⟨TK.ci.cl, ⟨_, _, _, _, ok_ctext Fp0 TK, ⟨ap0, gp0, tp0, ⟨_, rp0⟩⟩, bp0⟩⟩
  have kPot : Cf l.prog w K mg base _ "_law_pot" [] _ := ⟨⟨_, _, _, [], [], ok_pot Fd11 T, PySem.W.mg_of X G ad11, kd11, bd11, .nil, fun _ => .nil⟩⟩
  have kTake : Cf l.prog w K mg base _ "_law_take" [] _ := ⟨⟨_, _, _, [], [], ok_tk Fd12 T, PySem.W.mg_of X G ad12, kd12, bd12, .nil, fun _ => .nil⟩⟩
  have kOf : Cf l.prog w K mg base _ "_law_of" [] _ := ⟨⟨_, _, _, [], [], ok_of Fd13 T kTake, PySem.W.mg_of X G ad13, kd13, bd13, .nil, fun _ => .nil⟩⟩
  have kSome : Cf l.prog w K mg base _ "_law_some" [] _ := ⟨⟨_, _, _, [], [], ok_some Fd14 T kTake, PySem.W.mg_of X G ad14, kd14, bd14, .nil, fun _ => .nil⟩⟩
  have kCells : Cf l.prog w K mg base _ "_law_cells" [] _ := ⟨⟨_, _, _, [], [], ok_cells Fd15 T, PySem.W.mg_of X G ad15, kd15, bd15, .nil, fun _ => .nil⟩⟩
  have kWText : Cf l.prog w K mg base _ "_law_word_text" [] _ := ⟨⟨_, _, _, [], [], ok_wtext Fd16 T, PySem.W.mg_of X G ad16, kd16, bd16, .nil, fun _ => .nil⟩⟩
  have kDWord : Cf l.prog w K mg base _ "_law_drawn_word" [] _ := ⟨⟨_, _, _, [], [], ok_dword Fd17 T kTake kOf, PySem.W.mg_of X G ad17, kd17, bd17, .nil, fun _ => .nil⟩⟩
  have kLText : Cf l.prog w K mg base _ "_law_line_text" [] _ := ⟨⟨_, _, _, [], [], ok_ltext Fd18 T kWText, PySem.W.mg_of X G ad18, kd18, bd18, .nil, fun _ => .nil⟩⟩
  have kText : Cf l.prog w K mg base _ "_law_text" [] _ := ⟨⟨_, _, _, [], [], ok_text Fd19 T kLText, PySem.W.mg_of X G ad19, kd19, bd19, .nil, fun _ => .nil⟩⟩
  have kGate : Cf l.prog w K mg base _ "_law_gate" [] _ := ⟨⟨_, _, _, [], [], ok_gate Fd20 T kTake kDWord kSome, PySem.W.mg_of X G ad20, kd20, bd20, .nil, fun _ => .nil⟩⟩
  have kKnobs : Cf l.prog w K mg base _ "_law_knobs" [] _ := ⟨⟨_, _, _, [], [], ok_knobs Fd21 kSome, PySem.W.mg_of X G ad21, kd21, bd21, .nil, fun _ => .nil⟩⟩
  have kDTurn : Cf l.prog w K mg base _ "_law_turn" [] _ := ⟨⟨_, _, _, [], [], ok_dturn Fd22 T kOf kDWord kSome, PySem.W.mg_of X G ad22, kd22, bd22, .nil, fun _ => .nil⟩⟩
  have kLines : Cf l.prog w K mg base _ "_law_lines" [] _ := ⟨⟨_, _, _, [], [], ok_lines Fd23 T kTake kGate kDTurn, PySem.W.mg_of X G ad23, kd23, bd23, .nil, fun _ => .nil⟩⟩
  have kDrawn : Cf l.prog w K mg base _ "_law_drawn" [] _ := ⟨⟨_, _, _, [], [], ok_drawn Fd30 T kTake kOf kKnobs kLines, PySem.W.mg_of X G ad30, kd30, bd30, .nil, fun _ => .nil⟩⟩
  have kLName : Cf l.prog w K mg base _ "_law_is_name" [] _ := ⟨⟨_, _, _, [], [], ok_lname Fd24 T, PySem.W.mg_of X G ad24, kd24, bd24, .nil, fun _ => .nil⟩⟩
  have kWhole : Cf l.prog w K mg base _ "_law_whole_in" [] _ := ⟨⟨_, _, _, [], [], ok_whole Fd25 T, PySem.W.mg_of X G ad25, kd25, bd25, .nil, fun _ => .nil⟩⟩
  have kWordIn : Cf l.prog w K mg base _ "_law_word_in" [] _ := ⟨⟨_, _, _, [], [], ok_wordin Fd26 T, PySem.W.mg_of X G ad26, kd26, bd26, .nil, fun _ => .nil⟩⟩
  have kFormIn : Cf l.prog w K mg base _ "_law_form_in" [] _ := ⟨⟨_, _, _, [], [], ok_formin Fd27 T kWhole kLName, PySem.W.mg_of X G ad27, kd27, bd27, .nil, fun _ => .nil⟩⟩
  have kLineIn : Cf l.prog w K mg base _ "_law_line_in" [] _ := ⟨⟨_, _, _, [], [], ok_linein Fd28 T kWhole kWordIn kFormIn, PySem.W.mg_of X G ad28, kd28, bd28, .nil, fun _ => .nil⟩⟩
  have kFirst : Cf l.prog w K mg base _ "_law_first_bad" [] _ := ⟨⟨_, _, _, [], [], ok_firstbad Fd29 T kLineIn, PySem.W.mg_of X G ad29, kd29, bd29, .nil, fun _ => .nil⟩⟩
  have kSpoilt : Cf l.prog w K mg base _ "_law_spoilt" [] _ := ⟨⟨_, _, _, [], [], ok_spoilt Fd31 T kTake kOf, PySem.W.mg_of X G ad31, kd31, bd31, .nil, fun _ => .nil⟩⟩
  have kRows : Cf l.prog w K mg base _ "_law_rows_of" [] _ := ⟨⟨_, _, _, [], [], ok_rowsof Fd34 T kTake kDrawn kLines kKnobs kText, PySem.W.mg_of X G ad34, kd34, bd34, .nil, fun _ => .nil⟩⟩
  have xCB : XC K CB := ⟨gaCB, gtCB, sub_CB, hdCB, haCB, hn, ht, hmCB, nvCB⟩
  have kHeard : Cl l.prog w K mg base false _ _ "_law_heard" (rHear K CK) := ⟨⟨_, _, _, ok_heard (j := 12) Fd32 (PySem.W.mg_of X G gK), PySem.W.mg_of X G ad32, kd32, bd32⟩⟩
  have R : VB l.prog w K mg base CC CB CK := ⟨T, kCC, pText, kFirst, kHeard, xCB, PySem.W.mg_of X G gCB, exCB⟩
  have kJudged : Cf l.prog w K mg base _ "_law_is_judged" [] _ := ⟨⟨_, _, _, [], [], ok_judged (i := 0) ld33 cd33 TBL R, PySem.W.mg_of X G ad33, kd33, bd33, .nil, fun _ => .nil⟩⟩
  have R2 : VR l.prog w K mg base C CC CB CK PL := ⟨T, T2, kCC, kW, kTake, kRows, kSpoilt, kJudged, kHeard, xCB, PySem.W.mg_of X G gCB, exCB, Ks⟩
  have kRight : Cf l.prog w K mg base _ "_law_right" [] _ := ⟨⟨_, _, _, [], [], ok_right ld35 cd35 TBF R2, PySem.W.mg_of X G ad35, kd35, bd35, .nil, fun _ => .nil⟩⟩
  exact FnG.of (ok_law Fd36 T kCells kPot kRight)
end K20
set_option Elab.async false
set_option linter.all false
open PySem PySem.W PyProof.Rows
set_option maxRecDepth 100000 in
set_option maxHeartbeats 0 in
theorem PySem.Challenge.cw_looseknobs_k20_texts_of_no_circuit_holds : PySem.Challenge.rw_looseknobs_k20_texts_of_no_circuit.Holds := by
  w_on; o_law; k_head; (case hw => w_witness2)
  k_fill
  refine Dl.walk_G (l := PySem.Challenge.rw_looseknobs_k20_texts_of_no_circuit) (n := 63) (k := 17) (x := "script") rfl (by decide) rfl ⟨rfl, by decide, by decide⟩ (fun w h Y => PySem.W.km_in_of Y) ?F
  case F =>
    intro w mg fa h KX G hmg tabs
    refine' K20.all_mk KX G hmg (fun c P e => tabs "_law_is_judged" _ c P ?rec e) (fun c P e => tabs "_law_right" _ c P ?rec2 e) ?ad0 ?ld0 ?cd0 ?kd0 ?ad1 ?ld1 ?cd1 ?kd1 ?ad2 ?ld2 ?cd2 ?kd2 ?ad3 ?ld3 ?cd3 ?kd3 ?ad4 ?ld4 ?cd4 ?kd4 ?ad5 ?ld5 ?cd5 ?kd5 ?ad6 ?ld6 ?cd6 ?kd6 ?ad7 ?ld7 ?cd7 ?kd7 ?ad8 ?ld8 ?cd8 ?kd8 ?ad9 ?ld9 ?cd9 ?kd9 ?ad10 ?ld10 ?cd10 ?kd10 ?ad11 ?ld11 ?cd11 ?kd11 ?ad12 ?ld12 ?cd12 ?kd12 ?ad13 ?ld13 ?cd13 ?kd13 ?ad14 ?ld14 ?cd14 ?kd14 ?ad15 ?ld15 ?cd15 ?kd15 ?ad16 ?ld16 ?cd16 ?kd16 ?ad17 ?ld17 ?cd17 ?kd17 ?ad18 ?ld18 ?cd18 ?kd18 ?ad19 ?ld19 ?cd19 ?kd19 ?ad20 ?ld20 ?cd20 ?kd20 ?ad21 ?ld21 ?cd21 ?kd21 ?ad22 ?ld22 ?cd22 ?kd22 ?ad23 ?ld23 ?cd23 ?kd23 ?ad24 ?ld24 ?cd24 ?kd24 ?ad25 ?ld25 ?cd25 ?kd25 ?ad26 ?ld26 ?cd26 ?kd26 ?ad27 ?ld27 ?cd27 ?kd27 ?ad28 ?ld28 ?cd28 ?kd28 ?ad29 ?ld29 ?cd29 ?kd29 ?ad30 ?ld30 ?cd30 ?kd30 ?ad31 ?ld31 ?cd31 ?kd31 ?ad32 ?ld32 ?cd32 ?kd32 ?ad33 ?ld33 ?cd33 ?kd33 ?ad34 ?ld34 ?cd34 ?kd34 ?ad35 ?ld35 ?cd35 ?kd35 ?ad36 ?ld36 ?cd36 ?kd36 ?hn ?ht ?aC ?pgC ?hdC ?poC ?saC ?mkC ?kC ?haC ?hmC ?nC0 ?nC1 ?aCC ?pgCC ?hdCC ?poCC ?saCC ?mkCC ?kCC ?haCC ?hmCC ?nCC0 ?nCC1 ?nCC2 ?nCC3 ?nCC4 ?nCC5 ?aw0 ?iw0 ?lw0 ?cw0 ?kw0 ?am0 ?im0 ?lm0 ?cm0 ?km0 ?ap0 ?gp0 ?tp0 ?rp0 ?lp0 ?cp0 ?kp0 ?ne ?nf ?sf ?ks_non ?ks_int ?ks_bl ?ks_lst ?ks_tup ?ks_dic ?ks_wd ?z_len ?z_int ?z_abs ?z_max ?z_min ?z_range ?z_list ?z_all ?z_isinstance ?z_str ?z_tuple ?z_enumerate ?z_zip ?z_set ?z_repr ?g_lets ?g_most ?g_nml ?g_lnm ?g_mln ?g_mtn ?g_mkn ?gaS ?gaT ?gaW ?gaA ?gaP ?laS ?yaS ?waS ?laT ?yaT ?waT ?s_1 ?s_2 ?s_3 ?s_4 ?kyS ?kyT ?t_1 ?t_2 ?t_3 ?t_4 ?t_m1 ?t_m2 ?t_m3 ?t_m4 ?laW ?laA ?laP ?gCB ?LCB ?saCB ?sub_CB ?tyCB ?kpCB ?nvCB ?inCB ?gaCB ?gtCB ?hdCB ?haCB ?hmCB ?s_CB ?tI ?lI ?cI ?kI ?gK ?sK ?hdK ?tyK ?lcA ?vc ?noPL ?lcB ?ve ?noPF ?nePP
    (case rec => first | rfl | k_is | with_unfolding_all rfl)
    (case rec2 => first | rfl | k_is | with_unfolding_all rfl)
    (case ad0 => k_is)
    (case ld0 => k_is)
    (case cd0 => k_is)
    (case kd0 => k_is)
    (case ad1 => k_is)
    (case ld1 => k_is)
    (case cd1 => k_is)
    (case kd1 => k_is)
    (case ad2 => k_is)
    (case ld2 => k_is)
    (case cd2 => k_is)
    (case kd2 => k_is)
    (case ad3 => k_is)
    (case ld3 => k_is)
    (case cd3 => k_is)
    (case kd3 => k_is)
    (case ad4 => k_is)
    (case ld4 => k_is)
    (case cd4 => k_is)
    (case kd4 => k_is)
    (case ad5 => k_is)
    (case ld5 => k_is)
    (case cd5 => k_is)
    (case kd5 => k_is)
    (case ad6 => k_is)
    (case ld6 => k_is)
    (case cd6 => k_is)
    (case kd6 => k_is)
    (case ad7 => k_is)
    (case ld7 => k_is)
    (case cd7 => k_is)
    (case kd7 => k_is)
    (case ad8 => k_is)
    (case ld8 => k_is)
    (case cd8 => k_is)
    (case kd8 => k_is)
    (case ad9 => k_is)
    (case ld9 => k_is)
    (case cd9 => k_is)
    (case kd9 => k_is)
    (case ad10 => k_is)
    (case ld10 => k_is)
    (case cd10 => k_is)
    (case kd10 => k_is)
    (case ad11 => k_is)
    (case ld11 => k_is)
    (case cd11 => k_is)
    (case kd11 => k_is)
    (case ad12 => k_is)
    (case ld12 => k_is)
    (case cd12 => k_is)
    (case kd12 => k_is)
    (case ad13 => k_is)
    (case ld13 => k_is)
    (case cd13 => k_is)
    (case kd13 => k_is)
    (case ad14 => k_is)
    (case ld14 => k_is)
    (case cd14 => k_is)
    (case kd14 => k_is)
    (case ad15 => k_is)
    (case ld15 => k_is)
    (case cd15 => k_is)
    (case kd15 => k_is)
    (case ad16 => k_is)
    (case ld16 => k_is)
    (case cd16 => k_is)
    (case kd16 => k_is)
    (case ad17 => k_is)
    (case ld17 => k_is)
    (case cd17 => k_is)
    (case kd17 => k_is)
    (case ad18 => k_is)
    (case ld18 => k_is)
    (case cd18 => k_is)
    (case kd18 => k_is)
    (case ad19 => k_is)
    (case ld19 => k_is)
    (case cd19 => k_is)
    (case kd19 => k_is)
    (case ad20 => k_is)
    (case ld20 => k_is)
    (case cd20 => k_is)
    (case kd20 => k_is)
    (case ad21 => k_is)
    (case ld21 => k_is)
    (case cd21 => k_is)
    (case kd21 => k_is)
    (case ad22 => k_is)
    (case ld22 => k_is)
    (case cd22 => k_is)
    (case kd22 => k_is)
    (case ad23 => k_is)
    (case ld23 => k_is)
    (case cd23 => k_is)
    (case kd23 => k_is)
    (case ad24 => k_is)
    (case ld24 => k_is)
    (case cd24 => k_is)
    (case kd24 => k_is)
    (case ad25 => k_is)
    (case ld25 => k_is)
    (case cd25 => k_is)
    (case kd25 => k_is)
    (case ad26 => k_is)
    (case ld26 => k_is)
    (case cd26 => k_is)
    (case kd26 => k_is)
    (case ad27 => k_is)
    (case ld27 => k_is)
    (case cd27 => k_is)
    (case kd27 => k_is)
    (case ad28 => k_is)
    (case ld28 => k_is)
    (case cd28 => k_is)
    (case kd28 => k_is)
    (case ad29 => k_is)
    (case ld29 => k_is)
    (case cd29 => k_is)
    (case kd29 => k_is)
    (case ad30 => k_is)
    (case ld30 => k_is)
    (case cd30 => k_is)
    (case kd30 => k_is)
    (case ad31 => k_is)
    (case ld31 => k_is)
    (case cd31 => k_is)
    (case kd31 => k_is)
    (case ad32 => k_is)
    (case ld32 => k_is)
    (case cd32 => k_is)
    (case kd32 => k_is)
    (case ad33 => k_is)
    (case ld33 => k_is)
    (case cd33 => k_is)
    (case kd33 => k_is)
    (case ad34 => k_is)
    (case ld34 => k_is)
    (case cd34 => k_is)
    (case kd34 => k_is)
    (case ad35 => k_is)
    (case ld35 => k_is)
    (case cd35 => k_is)
    (case kd35 => k_is)
    (case ad36 => k_is)
    (case ld36 => k_is)
    (case cd36 => k_is)
    (case kd36 => k_is)
    (case hn => k_is)
    (case ht => k_is)
    (case aC => k_is)
    (case pgC => k_is)
    (case hdC => k_is)
    (case poC => k_is)
    (case saC => k_is)
    (case mkC => k_is)
    (case kC => k_is)
    (case haC => k_is)
    (case hmC => k_is)
    (case nC0 => k_is)
    (case nC1 => k_is)
    (case aCC => k_is)
    (case pgCC => k_is)
    (case hdCC => k_is)
    (case poCC => k_is)
    (case saCC => k_is)
    (case mkCC => k_is)
    (case kCC => k_is)
    (case haCC => k_is)
    (case hmCC => k_is)
    (case nCC0 => k_is)
    (case nCC1 => k_is)
    (case nCC2 => k_is)
    (case nCC3 => k_is)
    (case nCC4 => k_is)
    (case nCC5 => k_is)
    (case aw0 => k_is)
    (case iw0 => k_is)
    (case lw0 => k_is)
    (case cw0 => k_is)
    (case kw0 => k_is)
    (case am0 => k_is)
    (case im0 => k_is)
    (case lm0 => k_is)
    (case cm0 => k_is)
    (case km0 => k_is)
    (case ap0 => k_is)
    (case gp0 => k_is)
    (case tp0 => k_is)
    (case rp0 => k_is)
    (case lp0 => k_is)
    (case cp0 => k_is)
    (case kp0 => k_is)
    (case ne => k_is)
    (case nf => k_is)
    (case sf => k_is)
    (case ks_non => first | k_is | rfl | with_unfolding_all rfl)
    (case ks_int => first | k_is | rfl | with_unfolding_all rfl)
    (case ks_bl => first | k_is | rfl | with_unfolding_all rfl)
    (case ks_lst => first | k_is | rfl | with_unfolding_all rfl)
    (case ks_tup => first | k_is | rfl | with_unfolding_all rfl)
    (case ks_dic => first | k_is | rfl | with_unfolding_all rfl)
    (case ks_wd => first | k_is | rfl | with_unfolding_all rfl)
    (case z_len => k_is)
    (case z_int => k_is)
    (case z_abs => k_is)
    (case z_max => k_is)
    (case z_min => k_is)
    (case z_range => k_is)
    (case z_list => k_is)
    (case z_all => k_is)
    (case z_isinstance => k_is)
    (case z_str => k_is)
    (case z_tuple => k_is)
    (case z_enumerate => k_is)
    (case z_zip => k_is)
    (case z_set => k_is)
    (case z_repr => k_is)
    (case g_lets => k_is)
    (case g_most => k_is)
    (case g_nml => k_is)
    (case g_lnm => k_is)
    (case g_mln => k_is)
    (case g_mtn => k_is)
    (case g_mkn => k_is)
    (case gaS => k_is)
    (case gaT => k_is)
    (case gaW => k_is)
    (case gaA => k_is)
    (case gaP => k_is)
    (case laS => k_is)
    (case yaS => k_keys)
    (case waS => first | rfl | decide | k_is)
    (case laT => k_is)
    (case yaT => k_keys)
    (case waT => first | rfl | decide | k_is)
    (case s_1 => k_is)
    (case s_2 => k_is)
    (case s_3 => k_is)
    (case s_4 => k_is)
    (case kyS => exact ⟨⟨_, rfl⟩, ⟨_, rfl⟩, ⟨_, rfl⟩, ⟨_, rfl⟩, True.intro⟩)
    (case kyT => exact ⟨⟨_, rfl⟩, ⟨_, rfl⟩, ⟨_, rfl⟩, ⟨_, rfl⟩, ⟨_, rfl⟩, ⟨_, rfl⟩, ⟨_, rfl⟩, ⟨_, rfl⟩, True.intro⟩)
    (case t_1 => k_is)
    (case t_2 => k_is)
    (case t_3 => k_is)
    (case t_4 => k_is)
    (case t_m1 => k_is)
    (case t_m2 => k_is)
    (case t_m3 => k_is)
    (case t_m4 => k_is)
    (case laW => k_is)
    (case laA => k_is)
    (case laP => k_is)
    (case gCB => k_is)
    (case LCB => k_is)
    (case saCB => k_is)
    (case sub_CB => k_is)
    (case tyCB => k_is)
    (case kpCB => k_is)
    (case nvCB => k_is)
    (case inCB => k_is)
    (case gaCB => k_is)
    (case gtCB => k_is)
    (case hdCB => k_is)
    (case haCB => k_is)
    (case hmCB => k_is)
    (case s_CB => first | k_is | rfl)
    (case tI => k_is)
    (case lI => k_is)
    (case cI => k_is)
    (case kI => k_is)
    (case gK => k_is)
    (case sK => k_is)
    (case hdK => k_is)
    (case tyK => k_is)
    (case lcA => k_is)
    (case vc => first | rfl | with_unfolding_all rfl)
    (case noPL => first | rfl | with_unfolding_all rfl | k_is)
    (case lcB => k_is)
    (case ve => first | rfl | with_unfolding_all rfl)
    (case noPF => first | rfl | with_unfolding_all rfl | k_is)
    (case nePP => first | rfl | decide | with_unfolding_all rfl)
