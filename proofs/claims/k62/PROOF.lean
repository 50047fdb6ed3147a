import PyProof.Rows.All
import Wide.All
import OpenK.AllK
import Wide.FinOn
import HandS.ForMost
import HandS.ForExc
import HandS.Walk
import HandS.IsInst
import HandS.Property
import HandS.StrMore
import HandS.Wide
import HandS.Conv
import HandS.ExcInit
import HandS.Flow
import HandS.Lambda
import HandS.CallSlots
import HandS.ExcOwn
import HandS.Comp
import HandS.Iter
import KE.KOpsOwn
import KE.KFmtOwn
import HandS.Zip0
import PyProof.StrLoop
import HandS.More
import HandS.Text
import OpenK.KOps
import HandS.ExcValue
import HandS.TupAny
import KE.KExcIs
import HandS.Codes
import HandS.NoneIn
import HandS.Star
import KE.KUnpackStar
import KE.DatumOrd
import KE.GoesMore
import KE.GoesEnum
import HandS.EndBits
import HandS.Gcd
import HandS.FStr
import HandS.SetFor
import HandS.Strs
import OpenK.KWalk
import HandS.EndTab
import KE.KDictZip
import HandS.GenList
import HandS.List
import PyProof.ReprLen
import HandS.OwnEq
import HandS.Dict
import HandS.ReplaceLit
import HandS.WordsDict
import HandS.DeepEq
import HandS.DictComp
import HandS.RaiseMore
import KE.KNest
import HandS.ExcIs
import HandS.Defaults
import PySem.Challenge.RW_looseknobs_k62_starts_as_they_are_told
set_option Elab.async false
set_option linter.all false
set_option maxRecDepth 100000
set_option maxHeartbeats 4000000
set_option autoImplicit false
namespace Dl
open PySem PySem.Spec PyProof.Rows L2
/-! ## data -/
inductive D where
  | non | bl (b : Bool) | int (i : Int) | str (x : Str) | ty (n : String) | adr (a : Addr)
  | tup (ds : List D) | lst (ds : List D) | dic (ks : List Key) (ds : List D)
  | ins (C : Addr) (ns : List Str) (ds : List D) | exc (C : Addr) (d : D) | sc (ns : List Int)
/-- an exception that was caught, at a -/
def ExO (C dx a : Addr) : HO := .ext fun h => ∃ oe vs, h.get? a = some oe ∧ Zc (.ref C) (some dx) oe ∧ oe.data = .fields vs
mutual
inductive Rep (K : PySem.W.Frag) (F : Hp) : V → D → Prop
  | non : Rep K F .non .non
  | bl (b) : Rep K F (.bl b) (.bl b)
  | int (i) : Rep K F (.int i) (.int i)
  | str (x) : Rep K F (.str x) (.str x)
  | ty (n) : Rep K F (.ty n) (.ty n)
  | adr (a) : Rep K F (.ref a) (.adr a)
  | tup {a vs ds} : SqT K F a vs → Reps K F vs ds → Rep K F (.ref a) (.tup ds)
  | lst {a vs ds} : F a = some (.lst vs) → Reps K F vs ds → Rep K F (.ref a) (.lst ds)
  | dic {a} {kvs : List (Key × V)} {ds} : F a = some (.dK kvs) → Reps K F (kvs.map (·.2)) ds → Rep K F (.ref a) (.dic (kvs.map (·.1)) ds)
  | ins {a C dx} {fs : List (Str × V)} {ds} : F a = some (.ins C dx fs) → Reps K F (fs.map (·.2)) ds → Rep K F (.ref a) (.ins C (fs.map (·.1)) ds)
  | exc {a C dx v d} : F a = some (ExO C dx a) → F dx = some (.xd [("value", v)]) → Rep K F v d → Rep K F (.ref a) (.exc C d)
  | sc {a ns} : SqL K F a (ns.map V.int) → Rep K F (.ref a) (.sc ns)
inductive Reps (K : PySem.W.Frag) (F : Hp) : List V → List D → Prop
  | nil : Reps K F [] []
  | cons {v d vs ds} : Rep K F v d → Reps K F vs ds → Reps K F (v :: vs) (d :: ds)
end
theorem same_sqT {K : PySem.W.Frag} {H H' : Hp} {a : Addr} {xs : List V} (e : Same H H') (h : SqT K H a xs) : SqT K H' a xs := by
  rcases h with (h | ⟨o, h⟩) | h
  · exact .inl (.inl (e _ _ h))
  · exact .inl (.inr ⟨o, e _ _ h⟩)
  · exact .inr h
theorem same_sqL {K : PySem.W.Frag} {H H' : Hp} {a : Addr} {xs : List V} (e : Same H H') (h : SqL K H a xs) : SqL K H' a xs := by
  rcases h with (h | ⟨o, h⟩) | h
  · exact .inl (.inl (e _ _ h))
  · exact .inl (.inr ⟨o, e _ _ h⟩)
  · exact .inr h
mutual
theorem Rep.mono {K : PySem.W.Frag} {F F' : Hp} (e : Same F F') : ∀ {v d}, Rep K F v d → Rep K F' v d
  | _, _, .non => .non
  | _, _, .bl b => .bl b
  | _, _, .int b => .int b
  | _, _, .str b => .str b
  | _, _, .ty b => .ty b
  | _, _, .adr b => .adr b
  | _, _, .tup h r => .tup (same_sqT e h) (Reps.mono e r)
  | _, _, .lst h r => .lst (e _ _ h) (Reps.mono e r)
  | _, _, .dic h r => .dic (e _ _ h) (Reps.mono e r)
  | _, _, .ins h r => .ins (e _ _ h) (Reps.mono e r)
  | _, _, .exc h k r => .exc (e _ _ h) (e _ _ k) (Rep.mono e r)
  | _, _, .sc h => .sc (same_sqL e h)
theorem Reps.mono {K : PySem.W.Frag} {F F' : Hp} (e : Same F F') : ∀ {v d}, Reps K F v d → Reps K F' v d
  | _, _, .nil => .nil
  | _, _, .cons a b => .cons (Rep.mono e a) (Reps.mono e b)
end
theorem Reps.length {K : PySem.W.Frag} {F : Hp} : ∀ {vs ds}, Reps K F vs ds → vs.length = ds.length
  | _, _, .nil => rfl
  | _, _, .cons _ t => congrArg (· + 1) (Reps.length t)
theorem Reps.get {K : PySem.W.Frag} {F : Hp} : ∀ {vs ds} {i : Nat} {d : D}, Reps K F vs ds → ds[i]? = some d → ∃ v, vs[i]? = some v ∧ Rep K F v d
  | _, _, _, _, .nil, e => by simp at e
  | _, _, 0, _, .cons r _, e => by simp at e; subst e; exact ⟨_, rfl, r⟩
  | _, _, i + 1, x, .cons _ t, e => by
    obtain ⟨u, h1, h2⟩ := Reps.get (i := i) (d := x) t (by simpa using e)
    exact ⟨u, by simpa using h1, h2⟩
theorem Reps.get' {K : PySem.W.Frag} {F : Hp} : ∀ {vs ds} {i : Nat} {v : V}, Reps K F vs ds → vs[i]? = some v → ∃ d, ds[i]? = some d ∧ Rep K F v d
  | _, _, _, _, .nil, e => by simp at e
  | _, _, 0, _, .cons r _, e => by simp at e; subst e; exact ⟨_, rfl, r⟩
  | _, _, i + 1, x, .cons _ t, e => by
    obtain ⟨u, h1, h2⟩ := Reps.get' (i := i) (v := x) t (by simpa using e)
    exact ⟨u, by simpa using h1, h2⟩
theorem Reps.append {K : PySem.W.Frag} {F : Hp} : ∀ {vs ds ws es}, Reps K F vs ds → Reps K F ws es → Reps K F (vs ++ ws) (ds ++ es)
  | _, _, _, _, .nil, s => s
  | _, _, _, _, .cons r t, s => .cons r (Reps.append t s)
theorem Reps.take {K : PySem.W.Frag} {F : Hp} : ∀ {vs ds} (n : Nat), Reps K F vs ds → Reps K F (vs.take n) (ds.take n)
  | _, _, 0, _ => .nil
  | _, _, _ + 1, .nil => .nil
  | _, _, n + 1, .cons r t => .cons r (Reps.take n t)
theorem Reps.drop {K : PySem.W.Frag} {F : Hp} : ∀ {vs ds} (n : Nat), Reps K F vs ds → Reps K F (vs.drop n) (ds.drop n)
  | _, _, 0, r => r
  | _, _, _ + 1, .nil => .nil
  | _, _, n + 1, .cons _ t => Reps.drop n t
theorem Reps.set {K : PySem.W.Frag} {F : Hp} {v : V} {d : D} (r : Rep K F v d) : ∀ {vs ds} (i : Nat), Reps K F vs ds → Reps K F (vs.set i v) (ds.set i d)
  | _, _, _, .nil => .nil
  | _, _, 0, .cons _ t => .cons r t
  | _, _, i + 1, .cons q t => .cons q (Reps.set r i t)
/-! ## slots, what changes -/
inductive S where
  | p (d : D) | l (j : Nat)
inductive M where
  | lst (ds : List D) | dic (ks : List Key) (ds : List D) | obj (C : Addr) (ns : List Str) (ds : List D) | gone | tab (P : Addr) (q : Str)
def RepS (K : PySem.W.Frag) (F : Hp) (A : List Addr) (v : V) : S → Prop
  | .p d => Rep K F v d
  | .l j => ∃ a, v = .ref a ∧ A[j]? = some a
theorem getElem?_pre {α : Type} {A A' : List α} (p : A <+: A') {j : Nat} {a : α} (h : A[j]? = some a) : A'[j]? = some a := by
  obtain ⟨B, rfl⟩ := p
  rw [List.getElem?_append_left (List.getElem?_eq_some_iff.mp h).1]
  exact h
theorem RepS.mono {K : PySem.W.Frag} {F F' : Hp} {A A' : List Addr} (e : Same F F') (p : A <+: A') {v : V} : ∀ {s}, RepS K F A v s → RepS K F' A' v s
  | .p _, h => Rep.mono e h
  | .l _, ⟨a, h1, h2⟩ => ⟨a, h1, getElem?_pre p h2⟩
inductive RepSs (K : PySem.W.Frag) (F : Hp) (A : List Addr) : List V → List S → Prop
  | nil : RepSs K F A [] []
  | cons {v s vs ss} : RepS K F A v s → RepSs K F A vs ss → RepSs K F A (v :: vs) (s :: ss)
theorem RepSs.mono {K : PySem.W.Frag} {F F' : Hp} {A A' : List Addr} (e : Same F F') (p : A <+: A') : ∀ {vs ss}, RepSs K F A vs ss → RepSs K F' A' vs ss
  | _, _, .nil => .nil
  | _, _, .cons a b => .cons (a.mono e p) (RepSs.mono e p b)
theorem RepSs.length {K : PySem.W.Frag} {F : Hp} {A : List Addr} : ∀ {vs ss}, RepSs K F A vs ss → vs.length = ss.length
  | _, _, .nil => rfl
  | _, _, .cons _ t => congrArg (· + 1) (RepSs.length t)
theorem RepSs.append {K : PySem.W.Frag} {F : Hp} {A : List Addr} : ∀ {vs ss vs' ss'}, RepSs K F A vs ss → RepSs K F A vs' ss' → RepSs K F A (vs ++ vs') (ss ++ ss')
  | _, _, _, _, .nil, s => s
  | _, _, _, _, .cons r t, s => .cons r (RepSs.append t s)
def MOk (K : PySem.W.Frag) (F : Hp) (A : List Addr) (H : Hp) (a : Addr) : M → Prop
  | .lst ds => ∃ vs, H a = some (.lst vs) ∧ Reps K F vs ds
  | .dic ks ds => ∃ kvs, H a = some (.dK kvs) ∧ kvs.map (·.1) = ks ∧ Reps K F (kvs.map (·.2)) ds
  | .obj C ns ds => ∃ dx fs, H a = some (.ins C dx fs) ∧ fs.map (·.1) = ns ∧ Reps K F (fs.map (·.2)) ds
  | .gone => ∃ o, H a = some o
  | .tab P q => a = P ∧ ∃ ps : Array Value, H a = some (.tbl ps) ∧ TriplesOk ps.toList ∧ ∀ (pos : Pos) (cv : Value), codeAmong pos ps.toList = some cv → ∃ c, cv = .ref c ∧ F c = some (LamX.CodeO c q)
theorem MOk.there {K : PySem.W.Frag} {F : Hp} {A : List Addr} {H : Hp} {a : Addr} : ∀ {m}, MOk K F A H a m → ∃ o, H a = some o
  | .lst _, ⟨_, h, _⟩ => ⟨_, h⟩
  | .dic _ _, ⟨_, h, _⟩ => ⟨_, h⟩
  | .obj _ _ _, ⟨_, _, h, _⟩ => ⟨_, h⟩
  | .gone, h => h
  | .tab _ _, ⟨_, ps, h, _⟩ => ⟨_, h⟩
theorem MOk.mono {K : PySem.W.Frag} {F F' : Hp} {A A' : List Addr} {H H' : Hp} {a : Addr} (e : Same F F') (p : A <+: A') (k : H' a = H a) : ∀ {m}, MOk K F A H a m → MOk K F' A' H' a m
  | .lst _, ⟨vs, h, r⟩ => ⟨vs, by rw [k]; exact h, r.mono e⟩
  | .dic _ _, ⟨kvs, h, q, r⟩ => ⟨kvs, by rw [k]; exact h, q, r.mono e⟩
  | .obj _ _ _, ⟨dx, fs, h, q, r⟩ => ⟨dx, fs, by rw [k]; exact h, q, r.mono e⟩
  | .gone, ⟨o, h⟩ => ⟨o, by rw [k]; exact h⟩
  | .tab _ _, ⟨e1, ps, h, t, g⟩ => ⟨e1, ps, by rw [k]; exact h, t, fun pos cv q => by
      obtain ⟨c, q1, q2⟩ := g pos cv q
      exact ⟨c, q1, e _ _ q2⟩⟩
/-- where a def began -/
structure En where
  K : PySem.W.Frag
  H0 : Hp
  F0 : Hp
  A0 : List Addr
def notGone : M → Prop
  | .gone => False
  | _ => True
structure Rc (N : En) (F : Hp) (A : List Addr) (H : Hp) (μ : List M) : Prop where
  sub : Same F H
  base : Same N.F0 F
  new : ∀ a o, F a = some o → (∃ o', N.F0 a = some o') ∨ N.H0 a = none
  keep : ∀ a o, N.H0 a = some o → a ∉ N.A0 → H a = some o
  pre : ∃ B, A = N.A0 ++ B ∧ ∀ b ∈ B, N.H0 b = none
  nd : A.Nodup
  len : A.length = μ.length
  mus : ∀ (j : Nat) (a : Addr) (m : M), A[j]? = some a → μ[j]? = some m → MOk N.K F A H a m
  fr : ∀ (j : Nat) (a : Addr) (m : M), A[j]? = some a → μ[j]? = some m → notGone m → F a = none
structure Rl (N : En) (F : Hp) (A : List Addr) (H : Hp) (σ : L2.St) (δ : List (Option S)) (μ : List M) : Prop where
  rc : Rc N F A H μ
  len : δ.length = σ.length
  sl : ∀ (i : Nat) (s : S), δ[i]? = some (some s) → ∃ v, σ[i]? = some (some v) ∧ RepS N.K F A v s
theorem Rc.at {N : En} {F : Hp} {A : List Addr} {H : Hp} {μ : List M} (r : Rc N F A H μ) {j : Nat} {a : Addr} (h : A[j]? = some a) : ∃ m, μ[j]? = some m ∧ MOk N.K F A H a m := by
  have hj := (List.getElem?_eq_some_iff.mp h).1
  rw [r.len] at hj
  exact ⟨μ[j], List.getElem?_eq_getElem hj, r.mus j a _ h (List.getElem?_eq_getElem hj)⟩
theorem Rc.at' {N : En} {F : Hp} {A : List Addr} {H : Hp} {μ : List M} (r : Rc N F A H μ) {j : Nat} {m : M} (h : μ[j]? = some m) : ∃ a, A[j]? = some a ∧ MOk N.K F A H a m := by
  have hj := (List.getElem?_eq_some_iff.mp h).1
  rw [← r.len] at hj
  exact ⟨A[j], List.getElem?_eq_getElem hj, r.mus j _ _ (List.getElem?_eq_getElem hj) h⟩
theorem Rc.there {N : En} {F : Hp} {A : List Addr} {H : Hp} {μ : List M} (r : Rc N F A H μ) {a : Addr} (h : a ∈ A) : ∃ o, H a = some o := by
  obtain ⟨j, hj⟩ := List.getElem?_of_mem h
  obtain ⟨m, _, k⟩ := r.at hj
  exact k.there
theorem Rc.fresh {N : En} {F : Hp} {A : List Addr} {H : Hp} {μ : List M} (r : Rc N F A H μ) {p : Addr} (h : H p = none) : N.H0 p = none ∧ F p = none ∧ p ∉ A := by
  have hA : p ∉ A := fun hm => by
    obtain ⟨o, e⟩ := r.there hm
    rw [h] at e; cases e
  refine ⟨?_, r.sub.free h, hA⟩
  cases e : N.H0 p with
  | none => rfl
  | some o =>
    obtain ⟨B, rfl, _⟩ := r.pre
    rw [r.keep p o e fun hm => hA (List.mem_append_left _ hm)] at h
    cases h
theorem ne_mem {A : List Addr} {p a : Addr} {j : Nat} (h : p ∉ A) (h1 : A[j]? = some a) : a ≠ p := fun z => h (by rw [← z]; exact List.mem_of_getElem? h1)
theorem nodup_at {α : Type} {A : List α} (nd : A.Nodup) {i j : Nat} {a : α} (h1 : A[i]? = some a) (h2 : A[j]? = some a) : i = j := by
  obtain ⟨l1, e1⟩ := List.getElem?_eq_some_iff.mp h1
  obtain ⟨l2, e2⟩ := List.getElem?_eq_some_iff.mp h2
  exact (List.getElem_inj nd).mp (e1.trans e2.symm)
theorem ne_at {A : List Addr} (nd : A.Nodup) {i j : Nat} {a b : Addr} (hi : i ≠ j) (h1 : A[i]? = some b) (h2 : A[j]? = some a) : b ≠ a := fun z => hi (nodup_at nd h1 (by rw [z]; exact h2))
theorem same_updN {H : Hp} {p : Addr} {o : HO} (h : H p = none) : Same H (upd H p o) := fun b x e => by
  rw [upd_ne (ne_of_none e h)]
  exact e
/-- a new frozen object -/
theorem Rc.frozen {N : En} {F : Hp} {A : List Addr} {H : Hp} {μ : List M} (r : Rc N F A H μ) {p : Addr} (h : H p = none) (o : HO) : Rc N (upd F p o) A (upd H p o) μ where
  sub := fun b x e => by
    by_cases hb : b = p
    · subst hb; rw [upd_same] at e ⊢; exact e
    · rw [upd_ne hb] at e ⊢; exact r.sub b x e
  base := r.base.trans (same_updN (r.fresh h).2.1)
  new := fun a x e => by
    by_cases hb : a = p
    · subst hb; exact .inr (r.fresh h).1
    · rw [upd_ne hb] at e; exact r.new a x e
  keep := fun a x e hA => by
    rw [upd_ne (ne_of_none e (r.fresh h).1)]
    exact r.keep a x e hA
  pre := r.pre
  nd := r.nd
  len := r.len
  mus := fun j a m h1 h2 => (r.mus j a m h1 h2).mono (same_updN (r.fresh h).2.1) (List.prefix_refl _) (upd_ne (ne_mem (r.fresh h).2.2 h1))
  fr := fun j a m h1 h2 h3 => by
    rw [upd_ne (ne_mem (r.fresh h).2.2 h1)]
    exact r.fr j a m h1 h2 h3
/-- a new object of no further interest -/
theorem Rc.junk {N : En} {F : Hp} {A : List Addr} {H : Hp} {μ : List M} (r : Rc N F A H μ) {p : Addr} (h : H p = none) (o : HO) : Rc N F A (upd H p o) μ where
  sub := r.sub.trans (same_updN h)
  base := r.base
  new := r.new
  keep := fun a x e hA => by
    rw [upd_ne (ne_of_none e (r.fresh h).1)]
    exact r.keep a x e hA
  pre := r.pre
  nd := r.nd
  len := r.len
  mus := fun j a m h1 h2 => (r.mus j a m h1 h2).mono (Same.refl _) (List.prefix_refl _) (upd_ne (ne_mem (r.fresh h).2.2 h1))
  fr := r.fr
/-- a new object that changes -/
theorem Rc.newM {N : En} {F : Hp} {A : List Addr} {H : Hp} {μ : List M} (r : Rc N F A H μ) {p : Addr} (h : H p = none) {o : HO} {m : M} (ok : MOk N.K F (A ++ [p]) (upd H p o) p m) : Rc N F (A ++ [p]) (upd H p o) (μ ++ [m]) where
  sub := r.sub.trans (same_updN h)
  base := r.base
  new := r.new
  keep := fun a x e hA => by
    rw [upd_ne (ne_of_none e (r.fresh h).1)]
    exact r.keep a x e hA
  pre := by
    obtain ⟨B, rfl, hB⟩ := r.pre
    refine ⟨B ++ [p], List.append_assoc .., fun b hb => ?_⟩
    rcases List.mem_append.mp hb with hb | hb
    · exact hB b hb
    · rw [List.mem_singleton] at hb; subst hb; exact (r.fresh h).1
  nd := List.nodup_append.mpr ⟨r.nd, by simp, fun a ha b hb => by
    rw [List.mem_singleton] at hb; subst hb
    intro z; subst z; exact (r.fresh h).2.2 ha⟩
  len := by simp [r.len]
  mus := fun j a m' h1 h2 => by
    by_cases hj : j < A.length
    · rw [List.getElem?_append_left hj] at h1
      rw [List.getElem?_append_left (by rw [← r.len]; exact hj)] at h2
      exact (r.mus j a m' h1 h2).mono (Same.refl _) (List.prefix_append _ _) (upd_ne (ne_mem (r.fresh h).2.2 h1))
    · rw [List.getElem?_append_right (by omega)] at h1
      rw [List.getElem?_append_right (by rw [← r.len]; omega), ← r.len] at h2
      have e : j - A.length = 0 := by
        have := (List.getElem?_eq_some_iff.mp h1).1
        simp at this; omega
      rw [e] at h1 h2
      simp at h1 h2
      subst h1 h2
      exact ok
  fr := fun j a m' h1 h2 h3 => by
    by_cases hj : j < A.length
    · rw [List.getElem?_append_left hj] at h1
      rw [List.getElem?_append_left (by rw [← r.len]; exact hj)] at h2
      exact r.fr j a m' h1 h2 h3
    · rw [List.getElem?_append_right (by omega)] at h1
      have e : j - A.length = 0 := by
        have := (List.getElem?_eq_some_iff.mp h1).1
        simp at this; omega
      rw [e] at h1
      simp at h1
      subst h1
      exact (r.fresh h).2.1
/-- a changing object is changed -/
theorem Rc.write {N : En} {F : Hp} {A : List Addr} {H : Hp} {μ : List M} (r : Rc N F A H μ) {j : Nat} {a : Addr} {m m' : M} (ha : A[j]? = some a) (hm : μ[j]? = some m) (ng : notGone m) {o : HO} (ok : MOk N.K F A (upd H a o) a m') : Rc N F A (upd H a o) (μ.set j m') where
  sub := fun b x e => by
    have hb : b ≠ a := fun z => by rw [z, r.fr j a m ha hm ng] at e; cases e
    rw [upd_ne hb]; exact r.sub b x e
  base := r.base
  new := r.new
  keep := fun b x e hA => by
    by_cases hb : b = a
    · subst hb
      obtain ⟨B, rfl, hB⟩ := r.pre
      rcases List.mem_append.mp (List.mem_of_getElem? ha) with h | h
      · exact absurd h hA
      · rw [hB _ h] at e; cases e
    · rw [upd_ne hb]; exact r.keep b x e hA
  pre := r.pre
  nd := r.nd
  len := by simp [r.len]
  mus := fun i b n h1 h2 => by
    by_cases hi : i = j
    · subst hi
      rw [ha] at h1; cases h1
      rw [List.getElem?_set_self (List.getElem?_eq_some_iff.mp hm).1] at h2
      cases h2
      exact ok
    · rw [List.getElem?_set_ne (Ne.symm hi)] at h2
      exact (r.mus i b n h1 h2).mono (Same.refl _) (List.prefix_refl _) (upd_ne (ne_at r.nd hi h1 ha))
  fr := fun i b n h1 h2 h3 => by
    by_cases hi : i = j
    · subst hi
      rw [ha] at h1; cases h1
      exact r.fr i _ m ha hm ng
    · rw [List.getElem?_set_ne (Ne.symm hi)] at h2
      exact r.fr i b n h1 h2 h3
/-- an own list is frozen -/
theorem Rc.freeze {N : En} {F : Hp} {A : List Addr} {H : Hp} {μ : List M} (r : Rc N F A H μ) {j : Nat} {a : Addr} {m : M} (ha : A[j]? = some a) (hm : μ[j]? = some m) (ng : notGone m) (hj : N.A0.length ≤ j) {o : HO} (ho : H a = some o) :
    Rc N (upd F a o) A H (μ.set j .gone) ∧ Same F (upd F a o) := by
  have hF := r.fr j a m ha hm ng
  have sm : Same F (upd F a o) := same_updN hF
  refine ⟨⟨fun b x e => ?_, r.base.trans sm, fun b x e => ?_, r.keep, r.pre, r.nd, by simp [r.len], fun i b n h1 h2 => ?_, fun i b n h1 h2 h3 => ?_⟩, sm⟩
  · by_cases hb : b = a
    · subst hb; rw [upd_same] at e; cases e; exact ho
    · rw [upd_ne hb] at e; exact r.sub b x e
  · by_cases hb : b = a
    · subst hb
      obtain ⟨B, rfl, hB⟩ := r.pre
      rw [List.getElem?_append_right hj] at ha
      exact .inr (hB _ (List.mem_of_getElem? ha))
    · rw [upd_ne hb] at e; exact r.new b x e
  · by_cases hi : i = j
    · subst hi
      rw [ha] at h1; cases h1
      rw [List.getElem?_set_self (List.getElem?_eq_some_iff.mp hm).1] at h2
      cases h2
      exact ⟨o, ho⟩
    · rw [List.getElem?_set_ne (Ne.symm hi)] at h2
      exact (r.mus i b n h1 h2).mono sm (List.prefix_refl _) rfl
  · by_cases hi : i = j
    · subst hi
      rw [List.getElem?_set_self (List.getElem?_eq_some_iff.mp hm).1] at h2
      cases h2
      exact h3.elim
    · rw [List.getElem?_set_ne (Ne.symm hi)] at h2
      rw [upd_ne (ne_at r.nd hi h1 ha)]
      exact r.fr i b n h1 h2 h3
/-- the last ones are let go -/
theorem Rc.trim {N : En} {F : Hp} {A : List Addr} {H : Hp} {μ : List M} (r : Rc N F A H μ) {n : Nat} (hn : N.A0.length ≤ n) : Rc N F (A.take n) H (μ.take n) := by
  have pp : A.take n <+: A := List.take_prefix _ _
  refine ⟨r.sub, r.base, r.new, r.keep, ?_, r.nd.sublist (List.take_sublist _ _), by simp [r.len], fun j a m h1 h2 => ?_, fun j a m h1 h2 h3 => ?_⟩
  · obtain ⟨B, rfl, hB⟩ := r.pre
    refine ⟨B.take (n - N.A0.length), ?_, fun b hb => hB b (List.mem_of_mem_take hb)⟩
    rw [List.take_append, List.take_of_length_le hn]
  · have k := r.mus j a m (getElem?_pre pp h1) (getElem?_pre (List.take_prefix _ _) h2)
    cases m with
    | lst ds => exact k
    | dic ks ds => exact k
    | gone => exact k
    | obj C ns ss => exact k
    | tab P q => exact k
  · exact r.fr j a m (getElem?_pre pp h1) (getElem?_pre (List.take_prefix _ _) h2) h3
theorem Rl.to {N : En} {F F' : Hp} {A A' : List Addr} {H H' : Hp} {σ : L2.St} {δ : List (Option S)} {μ μ' : List M} (r : Rl N F A H σ δ μ) (e : Same F F') (p : A <+: A') (r' : Rc N F' A' H' μ') : Rl N F' A' H' σ δ μ' :=
  ⟨r', r.len, fun i s h => by
    obtain ⟨v, h1, h2⟩ := r.sl i s h
    exact ⟨v, h1, h2.mono e p⟩⟩
theorem Rl.set {N : En} {F : Hp} {A : List Addr} {H : Hp} {σ : L2.St} {δ : List (Option S)} {μ : List M} (r : Rl N F A H σ δ μ) {i : Nat} {v : V} {s : S} (h : RepS N.K F A v s) : Rl N F A H (σ.set i (some v)) (δ.set i (some s)) μ :=
  ⟨r.rc, by simp [r.len], fun j t e => by
    by_cases hj : j = i
    · subst hj
      have hl : j < δ.length := by
        have := (List.getElem?_eq_some_iff.mp e).1
        simpa using this
      rw [List.getElem?_set_self hl] at e
      cases e
      exact ⟨v, List.getElem?_set_self (by rw [← r.len]; exact hl), h⟩
    · rw [List.getElem?_set_ne (Ne.symm hj)] at e ⊢
      exact r.sl j t e⟩
/-! ## results, judgements -/
inductive Rx where
  | v (s : S) | x (C : Addr) (d : D)
inductive Os where
  | nx (δ : List (Option S)) (μ : List M) | rt (s : S) (μ : List M) | xx (C : Addr) (d : D) (δ : List (Option S)) (μ : List M)
  | bk (δ : List (Option S)) (μ : List M) | ct (δ : List (Option S)) (μ : List M)
def EndE (N : En) (W : WX) (σ : L2.St) (δ : List (Option S)) (F : Hp) (A : List Addr) (μ' : List M) (Q : VK) : Rx → Prop
  | .v s => ∀ v F' A' H', Same F F' → A <+: A' → Rl N F' A' H' σ δ μ' → RepS N.K F' A' v s → Q v H'
  | .x C d => ∀ dx v F' A' H', Same F F' → A <+: A' → Rl N F' A' H' σ δ μ' → F' dx = some (.xd [("value", v)]) → Rep N.K F' v d → W (.ref C) (some dx) σ H'
def tD (N : En) (W : WX) (δ : List (Option S)) (μ : List M) (r : Rx) (μ' : List M) : TE := fun σ H Q => ∃ F A, Rl N F A H σ δ μ ∧ EndE N W σ δ F A μ' Q r
def DE (X : Cx) (N : En) (W : WX) (δ : List (Option S)) (μ : List M) (e : Expr) (r : Rx) (μ' : List M) : Prop := PE X e (tD N W δ μ r μ')
def tDT (N : En) (W : WX) (δ : List (Option S)) (μ : List M) (b : Bool) (μ' : List M) : TT := fun σ H Q => ∃ F A, Rl N F A H σ δ μ ∧ ∀ F' A' H', Same F F' → A <+: A' → Rl N F' A' H' σ δ μ' → Q b H'
def DT (X : Cx) (N : En) (W : WX) (δ : List (Option S)) (μ : List M) (e : Expr) (b : Bool) (μ' : List M) : Prop := PT X e (tDT N W δ μ b μ')
def DW (X : Cx) (N : En) (W : WX) (δ : List (Option S)) (μ : List M) (e : Expr) (b : Bool) (μ' : List M) : Prop := PW X e (tDT N W δ μ b μ')
def tDA (N : En) (W : WX) (δ : List (Option S)) (μ : List M) (ss : List S) (μ' : List M) : TA := fun σ H Q => ∃ F A, Rl N F A H σ δ μ ∧ ∀ vs F' A' H', Same F F' → A <+: A' → Rl N F' A' H' σ δ μ' → RepSs N.K F' A' vs ss → Q vs H'
def DA (X : Cx) (N : En) (W : WX) (δ : List (Option S)) (μ : List M) (es : List Expr) (ss : List S) (μ' : List M) : Prop := PA X es (tDA N W δ μ ss μ')
def EndS (N : En) (W : WX) (F : Hp) (A : List Addr) (K : Ends) : Os → Prop
  | .nx δ' μ' => ∀ σ' F' A' H', Same F F' → A <+: A' → Rl N F' A' H' σ' δ' μ' → K.nx σ' H'
  | .bk δ' μ' => ∀ σ' F' A' H', Same F F' → A <+: A' → Rl N F' A' H' σ' δ' μ' → K.bk σ' H'
  | .ct δ' μ' => ∀ σ' F' A' H', Same F F' → A <+: A' → Rl N F' A' H' σ' δ' μ' → K.ct σ' H'
  | .rt s μ' => ∀ v F' A' H', Same F F' → A <+: A' → Rc N F' A' H' μ' → RepS N.K F' A' v s → K.rt v H'
  | .xx C d δ' μ' => ∀ σ' dx v F' A' H', Same F F' → A <+: A' → Rl N F' A' H' σ' δ' μ' → F' dx = some (.xd [("value", v)]) → Rep N.K F' v d → W (.ref C) (some dx) σ' H'
def tDS (N : En) (W : WX) (δ : List (Option S)) (μ : List M) (o : Os) : TS := fun K σ H => ∃ F A, Rl N F A H σ δ μ ∧ EndS N W F A K o
def DS (X : Cx) (N : En) (W : WX) (δ : List (Option S)) (μ : List M) (st : Stmt) (o : Os) : Prop := PS X st (tDS N W δ μ o)
def DSs (X : Cx) (N : En) (W : WX) (δ : List (Option S)) (μ : List M) (sts : List Stmt) (o : Os) : Prop := PSs X sts (tDS N W δ μ o)
theorem PE.imp {X : Cx} {e : Expr} {t t' : TE} (h : PE X e t) (w : ∀ σ H Q, t' σ H Q → t σ H Q) : PE X e t' := ⟨fun p s σ H Q I q => h.run p s σ H Q I (w σ H Q q)⟩
theorem PT.imp {X : Cx} {e : Expr} {t t' : TT} (h : PT X e t) (w : ∀ σ H Q, t' σ H Q → t σ H Q) : PT X e t' := ⟨fun p s σ H Q I q => h.run p s σ H Q I (w σ H Q q)⟩
theorem PW.imp {X : Cx} {e : Expr} {t t' : TT} (h : PW X e t) (w : ∀ σ H Q, t' σ H Q → t σ H Q) : PW X e t' := ⟨fun wh p s σ H Q I q => h.run wh p s σ H Q I (w σ H Q q)⟩
theorem PA.imp {X : Cx} {e : List Expr} {t t' : TA} (h : PA X e t) (w : ∀ σ H Q, t' σ H Q → t σ H Q) : PA X e t' := ⟨fun po p s σ H Q I q => h.run po p s σ H Q I (w σ H Q q)⟩
theorem PS.imp {X : Cx} {e : Stmt} {t t' : TS} (h : PS X e t) (w : ∀ D σ H, t' D σ H → t D σ H) : PS X e t' := ⟨fun p s σ H D I q => h.run p s σ H D I (w D σ H q)⟩
theorem PSs.imp {X : Cx} {e : List Stmt} {t t' : TS} (h : PSs X e t) (w : ∀ D σ H, t' D σ H → t D σ H) : PSs X e t' := ⟨fun p s σ H D I q => h.run p s σ H D I (w D σ H q)⟩
/-- the heap may be taken as it is at the end -/
theorem EndE.to {N : En} {W : WX} {σ : L2.St} {δ : List (Option S)} {F F1 : Hp} {A A1 : List Addr} {μ' : List M} {Q : VK} (e : Same F F1) (p : A <+: A1) : ∀ {r}, EndE N W σ δ F A μ' Q r → EndE N W σ δ F1 A1 μ' Q r
  | .v _, h => fun v F' A' H' e' p' => h v F' A' H' (e.trans e') (p.trans p')
  | .x _ _, h => fun dx v F' A' H' e' p' => h dx v F' A' H' (e.trans e') (p.trans p')
theorem EndS.to {N : En} {W : WX} {F F1 : Hp} {A A1 : List Addr} {K : Ends} (e : Same F F1) (p : A <+: A1) : ∀ {o}, EndS N W F A K o → EndS N W F1 A1 K o
  | .nx _ _, h => fun σ F' A' H' e' p' => h σ F' A' H' (e.trans e') (p.trans p')
  | .bk _ _, h => fun σ F' A' H' e' p' => h σ F' A' H' (e.trans e') (p.trans p')
  | .ct _ _, h => fun σ F' A' H' e' p' => h σ F' A' H' (e.trans e') (p.trans p')
  | .rt _ _, h => fun σ F' A' H' e' p' => h σ F' A' H' (e.trans e') (p.trans p')
  | .xx _ _ _ _, h => fun σ dx v F' A' H' e' p' => h σ dx v F' A' H' (e.trans e') (p.trans p')
end Dl
set_option Elab.async false
set_option linter.all false
set_option maxRecDepth 100000
set_option maxHeartbeats 4000000
set_option autoImplicit false
namespace Dl
open PySem PySem.Spec PyProof.Rows L2
section
variable {X : Cx} {N : En} {W : WX} {δ δ' δ1 δ2 : List (Option S)} {μ μ' μ1 μ2 μ3 : List M} {e a b c : Expr} {pos : Pos} {d : D} {s s1 s2 : S} {r : Rx}
theorem EndE.here {σ : L2.St} {F : Hp} {A : List Addr} {Q : VK} {H : Hp} {v : V} (k : EndE N W σ δ F A μ Q (.v s)) (R : Rl N F A H σ δ μ) (h : RepS N.K F A v s) : Q v H := k v F A H (Same.refl _) (List.prefix_refl _) R h
/-! ### names and constants -/
theorem de_c {v : V} (h : PE X e (tC v)) (q : ∀ K F, Rep K F v d) : DE X N W δ μ e (.v (.p d)) μ :=
  PE.imp h fun σ H Q ⟨F, A, R, k⟩ => k.here R (q _ _)
theorem de_int {i : Int} {j} : DE X N W δ μ (.Constant (.int i) j pos) (.v (.p (.int i))) μ := de_c pe_int fun _ _ => .int i
theorem de_bl {i : Bool} {j} : DE X N W δ μ (.Constant (.bool i) j pos) (.v (.p (.bl i))) μ := de_c pe_bl fun _ _ => .bl i
theorem de_non {j} : DE X N W δ μ (.Constant .none j pos) (.v (.p .non)) μ := de_c pe_non fun _ _ => .non
theorem de_str {x : Str} {j} : DE X N W δ μ (.Constant (.str x) j pos) (.v (.p (.str x))) μ := de_c pe_str fun _ _ => .str x
theorem de_var (i : Nat) {x : Str} (hs : δ[i]? = some (some s) := by rfl) (hN : X.N[i]? = some x := by rfl) (hv : Vis X.env.scope x := by first | exact Or.inl rfl | exact Or.inr (Or.inl rfl) | exact Or.inr (Or.inr rfl))
    (hd : (x == ("__debug__" : Str)) = false := by decide) (hcd : (x == ("__classdict__" : Str)) = false := by decide) : DE X N W δ μ (.Name x pos) (.v s) μ :=
  PE.imp (pe_var hN hv hd hcd) fun σ H Q ⟨F, A, R, k⟩ => by
    obtain ⟨v, h1, h2⟩ := R.sl i s hs
    exact ⟨v, h1, k.here R h2⟩
theorem de_glob {x : Str} {v : V} {u : Value} (hm : X.mg x = some u) (q : RelV v u) (rp : ∀ K F, Rep K F v d) (hg : Gl X x := by rfl) (hd : (x == ("__debug__" : Str)) = false := by decide) : DE X N W δ μ (.Name x pos) (.v (.p d)) μ :=
  de_c (pe_glob hg hm q hd) rp
/-! ### operators by their values -/
def OpOk (X : Cx) (N : En) (W : WX) (f : Value → Value → Sem Value) (μ : List M) (s1 s2 : S) (r : Rx) (μ' : List M) : Prop :=
  ∃ rr : R2, OpR X f rr ∧ ∀ σ δ F A H x y Q, Rl N F A H σ δ μ → RepS N.K F A x s1 → RepS N.K F A y s2 → EndE N W σ δ F A μ' Q r → rr x y H Q
def UnOk (X : Cx) (N : En) (W : WX) (f : Value → Sem Value) (μ : List M) (s1 : S) (r : Rx) (μ' : List M) : Prop :=
  ∃ rr : V → Hp → VK → Prop, UnR X f rr ∧ ∀ σ δ F A H x Q, Rl N F A H σ δ μ → RepS N.K F A x s1 → EndE N W σ δ F A μ' Q r → rr x H Q
theorem two {rr : R2} {σ : L2.St} {H : Hp} {Q : VK} (hr : ∀ σ δ F A H x y Q, Rl N F A H σ δ μ2 → RepS N.K F A x s1 → RepS N.K F A y s2 → EndE N W σ δ F A μ3 Q r → rr x y H Q)
    (h : tD N W δ μ r μ3 σ H Q) : tOp rr (tD N W δ μ (.v s1) μ1) (tD N W δ μ1 (.v s2) μ2) σ H Q := by
  obtain ⟨F, A, R, k⟩ := h
  exact ⟨F, A, R, fun x F1 A1 H1 e1 p1 R1 rx => ⟨F1, A1, R1, fun y F2 A2 H2 e2 p2 R2 ry => hr σ δ F2 A2 H2 x y Q R2 (rx.mono e2 p2) ry (k.to (e1.trans e2) (p1.trans p2))⟩⟩
theorem de_bin {op : Operator} (ha : DE X N W δ μ a (.v s1) μ1) (hb : DE X N W δ μ1 b (.v s2) μ2) (h : OpOk X N W (binaryOp op) μ2 s1 s2 r μ3) : DE X N W δ μ (.BinOp a op b pos) r μ3 := by
  obtain ⟨rr, ho, hr⟩ := h
  exact PE.imp (pe_op ho ha hb) fun σ H Q q => two hr q
theorem de_un {op : UnaryOp} (ha : DE X N W δ μ a (.v s1) μ1) (h : UnOk X N W (unaryOp op) μ1 s1 r μ2) : DE X N W δ μ (.UnaryOp op a pos) r μ2 := by
  obtain ⟨rr, ho, hr⟩ := h
  exact PE.imp (pe_un ho ha) fun σ H Q ⟨F, A, R, k⟩ => ⟨F, A, R, fun x F1 A1 H1 e1 p1 R1 rx => hr σ δ F1 A1 H1 x Q R1 rx (k.to e1 p1)⟩
theorem de_cmp {op : CmpOp} (ha : DE X N W δ μ a (.v s1) μ1) (hb : DE X N W δ μ1 b (.v s2) μ2) (h : OpOk X N W (compareOp op) μ2 s1 s2 r μ3) (hm : behindInMarks op b = false := by first | exact nomark _ | rfl) : DE X N W δ μ (.Compare a [op] [b] pos) r μ3 := by
  obtain ⟨rr, ho, hr⟩ := h
  exact PE.imp (pe_cmpR ho ha hb hm) fun σ H Q q => two hr q
theorem EndE.bool {σ : L2.St} {F : Hp} {A : List Addr} {Q : Bool → Hp → Prop} {k : Bool} (h : ∀ F' A' H', Same F F' → A <+: A' → Rl N F' A' H' σ δ μ' → Q k H') : EndE N W σ δ F A μ' (fun x H' => ∃ k, x = .bl k ∧ Q k H') (.v (.p (.bl k))) :=
  fun v F' A' H' e p R rv => by
    cases rv
    exact ⟨k, rfl, h F' A' H' e p R⟩
theorem dt_cmp {op : CmpOp} {k : Bool} (ha : DE X N W δ μ a (.v s1) μ1) (hb : DE X N W δ μ1 b (.v s2) μ2) (h : OpOk X N W (compareOp op) μ2 s1 s2 (.v (.p (.bl k))) μ3) (hm : behindInMarks op b = false := by first | exact nomark _ | rfl) : DT X N W δ μ (.Compare a [op] [b] pos) k μ3 := by
  obtain ⟨rr, ho, hr⟩ := h
  exact PT.imp (pt_cmpR ho ha hb hm) fun σ H Q ⟨F, A, R, q⟩ => two (W := W) hr ⟨F, A, R, EndE.bool q⟩
theorem dt_val {k : Bool} (h : DE X N W δ μ e (.v (.p (.bl k))) μ1) (he : ∀ whole, isTrue e X.env whole = (do let v ← whole; standAt e.pos; holding [v] (truthy v)) := by intro _; rfl) : DT X N W δ μ e k μ1 :=
  PT.imp (pt_val h he) fun σ H Q ⟨F, A, R, q⟩ => ⟨F, A, R, EndE.bool q⟩
/-! ### tests -/
theorem dt_not {k : Bool} (h : DT X N W δ μ a k μ1) : DT X N W δ μ (.UnaryOp .Not a pos) (!k) μ1 := PT.imp (pt_not h) fun σ H Q ⟨F, A, R, q⟩ => ⟨F, A, R, q⟩
theorem dw_and1 {k : Bool} (h : DT X N W δ μ a k μ1) : DW X N W δ μ (.BoolOp .And [a] pos) k μ1 := pw_and1 h
theorem dw_or1 {k : Bool} (h : DT X N W δ μ a k μ1) : DW X N W δ μ (.BoolOp .Or [a] pos) k μ1 := pw_or1 h
theorem dw_no : PW X e (fun _ _ _ => False) := ⟨fun _ _ _ _ _ _ _ h => h.elim⟩
theorem pe_no : PE X e (fun _ _ _ => False) := ⟨fun _ _ _ _ _ _ h => h.elim⟩
theorem dw_and {rest : List Expr} {k k' : Bool} (h : DT X N W δ μ a k μ1) (h' : k = true → DW X N W δ μ1 (.BoolOp .And (b :: rest) pos) k' μ1) : DW X N W δ μ (.BoolOp .And (a :: b :: rest) pos) (k && k') μ1 := by
  cases k with
  | true => exact PW.imp (pw_and h (h' rfl)) fun σ H Q ⟨F, A, R, q⟩ => ⟨F, A, R, fun F1 A1 H1 e1 p1 R1 => iteT ⟨F1, A1, R1, fun F2 A2 H2 e2 p2 R2 => q F2 A2 H2 (e1.trans e2) (p1.trans p2) R2⟩⟩
  | false => exact PW.imp (pw_and h dw_no) fun σ H Q ⟨F, A, R, q⟩ => ⟨F, A, R, fun F1 A1 H1 e1 p1 R1 => iteF (q F1 A1 H1 e1 p1 R1)⟩
theorem dw_or {rest : List Expr} {k k' : Bool} (h : DT X N W δ μ a k μ1) (h' : k = false → DW X N W δ μ1 (.BoolOp .Or (b :: rest) pos) k' μ1) : DW X N W δ μ (.BoolOp .Or (a :: b :: rest) pos) (k || k') μ1 := by
  cases k with
  | false => exact PW.imp (pw_or h (h' rfl)) fun σ H Q ⟨F, A, R, q⟩ => ⟨F, A, R, fun F1 A1 H1 e1 p1 R1 => iteF ⟨F1, A1, R1, fun F2 A2 H2 e2 p2 R2 => q F2 A2 H2 (e1.trans e2) (p1.trans p2) R2⟩⟩
  | true => exact PW.imp (pw_or h dw_no) fun σ H Q ⟨F, A, R, q⟩ => ⟨F, A, R, fun F1 A1 H1 e1 p1 R1 => iteT (q F1 A1 H1 e1 p1 R1)⟩
theorem dt_w {k : Bool} (h : DW X N W δ μ e k μ1) : DT X N W δ μ e k μ1 := h.pt
/-- and, or of bools as values -/
theorem de_one {op : BoolOp} (h : DE X N W δ μ a r μ1) : DE X N W δ μ (.BoolOp op [a] pos) r μ1 := pe_one h
theorem de_and {rest : List Expr} {k k' : Bool} (h : DE X N W δ μ a (.v (.p (.bl k))) μ1) (h' : k = true → DE X N W δ μ1 (.BoolOp .And (b :: rest) pos) (.v (.p (.bl k'))) μ1) : DE X N W δ μ (.BoolOp .And (a :: b :: rest) pos) (.v (.p (.bl (k && k')))) μ1 := by
  cases k with
  | true => exact PE.imp (pe_and h (h' rfl)) fun σ H Q ⟨F, A, R, q⟩ => ⟨F, A, R, fun v F1 A1 H1 e1 p1 R1 rv => by
      cases rv
      exact ⟨true, rfl, iteT ⟨F1, A1, R1, fun w F2 A2 H2 e2 p2 R2 rw => q w F2 A2 H2 (e1.trans e2) (p1.trans p2) R2 rw⟩⟩⟩
  | false => exact PE.imp (pe_and h pe_no) fun σ H Q ⟨F, A, R, q⟩ => ⟨F, A, R, fun v F1 A1 H1 e1 p1 R1 rv => by
      cases rv
      exact ⟨false, rfl, iteF (q _ F1 A1 H1 e1 p1 R1 (.bl _))⟩⟩
theorem de_if {k : Bool} (h : DT X N W δ μ c k μ1) (ha : k = true → DE X N W δ μ1 a r μ2) (hb : k = false → DE X N W δ μ1 b r μ2) : DE X N W δ μ (.IfExp c a b pos) r μ2 := by
  cases k with
  | true => exact PE.imp (pe_ifExp h (ha rfl) pe_no) fun σ H Q ⟨F, A, R, q⟩ => ⟨F, A, R, fun F1 A1 H1 e1 p1 R1 => iteT ⟨F1, A1, R1, q.to e1 p1⟩⟩
  | false => exact PE.imp (pe_ifExp h pe_no (hb rfl)) fun σ H Q ⟨F, A, R, q⟩ => ⟨F, A, R, fun F1 A1 H1 e1 p1 R1 => iteF ⟨F1, A1, R1, q.to e1 p1⟩⟩
/-! ### arguments, displays -/
theorem da_nil : DA X N W δ μ [] [] μ := PA.imp pa_nil fun σ H Q ⟨F, A, R, q⟩ => q [] F A H (Same.refl _) (List.prefix_refl _) R .nil
theorem da_cons {es : List Expr} {ss : List S} (h : DE X N W δ μ e (.v s) μ1) (h' : DA X N W δ μ1 es ss μ2) (hs : starEach (e :: es) X.env = (false, eval e X.env) :: starEach es X.env := by rfl) : DA X N W δ μ (e :: es) (s :: ss) μ2 :=
  PA.imp (pa_cons h h' hs) fun σ H Q ⟨F, A, R, q⟩ => ⟨F, A, R, fun v F1 A1 H1 e1 p1 R1 rv => ⟨F1, A1, R1, fun vs F2 A2 H2 e2 p2 R2 rvs => q (v :: vs) F2 A2 H2 (e1.trans e2) (p1.trans p2) R2 (.cons (rv.mono e2 p2) rvs)⟩⟩
def DP (X : Cx) (N : En) (W : WX) (δ : List (Option S)) (μ : List M) (es : List Expr) (ds : List D) (μ' : List M) : Prop := DA X N W δ μ es (ds.map S.p) μ'
theorem dp_nil : DP X N W δ μ [] [] μ := da_nil
theorem dp_cons {es : List Expr} {ds : List D} (h : DE X N W δ μ e (.v (.p d)) μ1) (h' : DP X N W δ μ1 es ds μ2) (hs : starEach (e :: es) X.env = (false, eval e X.env) :: starEach es X.env := by rfl) : DP X N W δ μ (e :: es) (d :: ds) μ2 := da_cons h h' hs
theorem reps_of {K : PySem.W.Frag} {F : Hp} {A : List Addr} : ∀ {vs : List V} {ds : List D}, RepSs K F A vs (ds.map S.p) → Reps K F vs ds
  | _, [], .nil => .nil
  | _, _ :: _, .cons a b => .cons a (reps_of b)
theorem of_reps {K : PySem.W.Frag} {F : Hp} {A : List Addr} : ∀ {vs : List V} {ds : List D}, Reps K F vs ds → RepSs K F A vs (ds.map S.p)
  | _, [], .nil => .nil
  | _, _ :: _, .cons a b => .cons a (of_reps b)
theorem de_tup {es : List Expr} {ds : List D} {x1} (h : DP X N W δ μ es ds μ1) (hl : ds.length ≤ sizeLine := by first | (show _ ≤ sizeLine; decide) | (simp; decide)) : DE X N W δ μ (.Tuple es x1 pos) (.v (.p (.tup ds))) μ1 :=
  PE.imp (pe_tup h) fun σ H Q ⟨F, A, R, q⟩ => ⟨F, A, R, fun vs F1 A1 H1 e1 p1 R1 rv => ⟨by rw [(reps_of rv).length]; exact hl, fun p np => by
    have sm := same_updN (o := .tup vs) (R1.rc.fresh np).2.1
    exact q (.ref p) _ A1 _ (e1.trans sm) p1 (R1.to sm (List.prefix_refl _) (R1.rc.frozen np _)) (.tup (SqT.of upd_same) ((reps_of rv).mono sm))⟩⟩
theorem de_lst {es : List Expr} {ds : List D} (h : DP X N W δ μ es ds μ1) (hl : ds.length ≤ sizeLine := by first | (show _ ≤ sizeLine; decide) | (simp; decide)) : DE X N W δ μ (.List es pos) (.v (.p (.lst ds))) μ1 :=
  PE.imp (pe_lst h) fun σ H Q ⟨F, A, R, q⟩ => ⟨F, A, R, fun vs F1 A1 H1 e1 p1 R1 rv => ⟨by rw [(reps_of rv).length]; exact hl, fun p np => by
    have sm := same_updN (o := .lst vs) (R1.rc.fresh np).2.1
    exact q (.ref p) _ A1 _ (e1.trans sm) p1 (R1.to sm (List.prefix_refl _) (R1.rc.frozen np _)) (.lst upd_same ((reps_of rv).mono sm))⟩⟩
/-- a list that will change -/
theorem de_lstM {es : List Expr} {ds : List D} (h : DP X N W δ μ es ds μ1) (hl : ds.length ≤ sizeLine := by first | (show _ ≤ sizeLine; decide) | (simp; decide)) : DE X N W δ μ (.List es pos) (.v (.l μ1.length)) (μ1 ++ [.lst ds]) :=
  PE.imp (pe_lst h) fun σ H Q ⟨F, A, R, q⟩ => ⟨F, A, R, fun vs F1 A1 H1 e1 p1 R1 rv => ⟨by rw [(reps_of rv).length]; exact hl, fun p np => by
    have pp : A1 <+: A1 ++ [p] := List.prefix_append _ _
    refine q (.ref p) _ (A1 ++ [p]) _ e1 (p1.trans pp) (R1.to (Same.refl _) pp (R1.rc.newM np ⟨vs, upd_same, reps_of rv⟩)) ⟨p, rfl, ?_⟩
    rw [← R1.rc.len]; simp⟩⟩
/-! ### builtins -/
def CallOk (X : Cx) (N : En) (W : WX) (f : Value) (μ : List M) (ss : List S) (r : Rx) (μ' : List M) : Prop :=
  ∃ rr, CallR X f rr ∧ ∀ σ δ F A H vs Q, Rl N F A H σ δ μ → RepSs N.K F A vs ss → EndE N W σ δ F A μ' Q r → rr vs H Q
theorem de_callB {x : Str} {id : String} {p : Pos} {es : List Expr} {ss : List S} (ha : DA X N W δ μ (e :: es) ss μ1) (hc : CallOk X N W (.builtin id) μ1 ss r μ2) (hm : X.mg x = none) (hv : bootBuiltins x = some (.builtin id)) (hg : Gl X x := by rfl) (hn : x ≠ "__name__" := by decide) (hdb : (x == ("__debug__" : Str)) = false := by decide)
    (he : starEach (e :: es) X.env = (false, eval e X.env) :: starEach es X.env := by rfl) (hpl : (backTo pos (starEach es X.env)).any (·.1) = false := by rfl) : DE X N W δ μ (.Call (.Name x p) (e :: es) [] pos) r μ2 := by
  obtain ⟨rr, ho, hr⟩ := hc
  exact PE.imp (pe_callB ho hg hm hv ha hn hdb he hpl) fun σ H Q ⟨F, A, R, k⟩ => ⟨F, A, R, fun vs F1 A1 H1 e1 p1 R1 rv => hr σ δ F1 A1 H1 vs Q R1 rv (k.to e1 p1)⟩
theorem de_callT {x : Str} {T : String} {p : Pos} {es : List Expr} {ss : List S} (ha : DA X N W δ μ (e :: es) ss μ1) (hc : CallOk X N W (.type T) μ1 ss r μ2) (hm : X.mg x = none) (hv : bootBuiltins x = some (.type T)) (hg : Gl X x := by rfl) (hn : x ≠ "__name__" := by decide) (hdb : (x == ("__debug__" : Str)) = false := by decide)
    (he : starEach (e :: es) X.env = (false, eval e X.env) :: starEach es X.env := by rfl) (hpl : (backTo pos (starEach es X.env)).any (·.1) = false := by rfl) : DE X N W δ μ (.Call (.Name x p) (e :: es) [] pos) r μ2 := by
  obtain ⟨rr, ho, hr⟩ := hc
  exact PE.imp (pe_callTy ho hg hm hv ha hn hdb he hpl) fun σ H Q ⟨F, A, R, k⟩ => ⟨F, A, R, fun vs F1 A1 H1 e1 p1 R1 rv => hr σ δ F1 A1 H1 vs Q R1 rv (k.to e1 p1)⟩
/-- a method of a builtin type -/
def MtOk (X : Cx) (N : En) (W : WX) (T : String) (id : String) (μ0 μ : List M) (s : S) (ss : List S) (r : Rx) (μ' : List M) : Prop :=
  ∃ rr, MtR X id rr ∧ (∀ σ δ F A H x, Rl N F A H σ δ μ0 → RepS N.K F A x s → tyV X.K T x H) ∧ ∀ σ δ F A H x vs Q, Rl N F A H σ δ μ → RepS N.K F A x s → RepSs N.K F A vs ss → EndE N W σ δ F A μ' Q r → rr x vs H Q
theorem de_bm {o : Expr} {T id : String} {name : Str} {apos : Pos} {es : List Expr} {ss : List S} (pa : PlainAttrs T) (slot : Slot T name id) (hty : typeOf (.builtin id) = pure (.type "method_descriptor")) (ho : DE X N W δ μ o (.v s) μ1) (ha : DA X N W δ μ1 (e :: es) ss μ2) (h : MtOk X N W T id μ1 μ2 s ss r μ3)
    (hbase : attributeBase o name X.env (eval o X.env) = eval o X.env := by rfl)
    (hfew : ((backTo pos (starEach (e :: es) X.env)).all (fun x => !x.1) && (backToKw pos (keywordEach [] X.env)).all (fun x => x.1.isSome)
      && decide ((e :: es).length + ([] : List Keyword).length + (if ([] : List Keyword).isEmpty then 0 else 1) < 30)) = true := by rfl)
    (hline : (apos.endLine == pos.line) = true := by rfl) (hs : starEach (e :: es) X.env = (false, eval e X.env) :: starEach es X.env := by rfl) (hplain : (backTo pos (starEach es X.env)).any (·.1) = false := by rfl) :
    DE X N W δ μ (.Call (.Attribute o name apos) (e :: es) [] pos) r μ3 := by
  obtain ⟨rr, hm, ht, hr⟩ := h
  exact PE.imp (pe_bm pa slot hty hm ho ha hbase hfew hline hs hplain) fun σ H Q ⟨F, A, R, k⟩ => ⟨F, A, R, fun x F1 A1 H1 e1 p1 R1 rx => ⟨ht σ δ F1 A1 H1 x R1 rx, F1, A1, R1, fun vs F2 A2 H2 e2 p2 R2 rv => hr σ δ F2 A2 H2 x vs Q R2 (rx.mono e2 p2) rv (k.to (e1.trans e2) (p1.trans p2))⟩⟩
/-- a subscript -/
def IxOk (X : Cx) (N : En) (W : WX) (μ : List M) (s1 s2 : S) (r : Rx) (μ' : List M) : Prop :=
  ∃ rr : R2, IxR X rr ∧ ∀ σ δ F A H x y Q, Rl N F A H σ δ μ → RepS N.K F A x s1 → RepS N.K F A y s2 → EndE N W σ δ F A μ' Q r → rr x y H Q
theorem de_ix (ha : DE X N W δ μ a (.v s1) μ1) (hb : DE X N W δ μ1 b (.v s2) μ2) (h : IxOk X N W μ2 s1 s2 r μ3) (hs : PlainIx b := by exact fun _ _ => rfl) : DE X N W δ μ (.Subscript a b pos) r μ3 := by
  obtain ⟨rr, ho, hr⟩ := h
  exact PE.imp (pe_ix ho ha hb hs) fun σ H Q q => two hr q
/-! ### statements -/
theorem Rl.endS {σ : L2.St} {F : Hp} {A : List Addr} {H : Hp} {D : Ends} (k : EndS N W F A D (.nx δ μ)) (R : Rl N F A H σ δ μ) : D.nx σ H := k σ F A H (Same.refl _) (List.prefix_refl _) R
/-- what stands behind a statement -/
def Cont (X : Cx) (N : En) (W : WX) (rest : List Stmt) : Os → Os → Prop
  | .nx δ μ, o => DSs X N W δ μ rest o
  | o1, o => o = o1
theorem cn {rest : List Stmt} {o : Os} (h : DSs X N W δ μ rest o) : Cont X N W rest (.nx δ μ) o := h
theorem cr {rest : List Stmt} : Cont X N W rest (.rt s μ) (.rt s μ) := rfl
theorem cx {rest : List Stmt} {C : Addr} : Cont X N W rest (.xx C d δ μ) (.xx C d δ μ) := rfl
theorem cb {rest : List Stmt} : Cont X N W rest (.bk δ μ) (.bk δ μ) := rfl
theorem cc {rest : List Stmt} : Cont X N W rest (.ct δ μ) (.ct δ μ) := rfl
theorem pss_no {sts : List Stmt} : PSs X sts (fun _ _ _ => False) := ⟨fun _ _ _ _ _ _ h => h.elim⟩
theorem dss_nil : DSs X N W δ μ [] (.nx δ μ) := PSs.imp pss_nil fun K σ H ⟨F, A, R, k⟩ => R.endS k
theorem dss_cons {st : Stmt} {rest : List Stmt} {o1 o : Os} (h : DS X N W δ μ st o1) (h' : Cont X N W rest o1 o) : DSs X N W δ μ (st :: rest) o := by
  cases o1 with
  | nx δ1 μ1 =>
    exact PSs.imp (pss_cons h h') fun K σ H ⟨F, A, R, k⟩ => ⟨F, A, R, fun σ1 F1 A1 H1 e1 p1 R1 => ⟨F1, A1, R1, by
      have k' := k.to e1 p1
      cases o <;> exact k'⟩⟩
  | rt s μ1 =>
    cases h'
    exact PSs.imp (pss_cons h pss_no) fun K σ H ⟨F, A, R, k⟩ => ⟨F, A, R, k⟩
  | xx C d δ1 μ1 =>
    cases h'
    exact PSs.imp (pss_cons h pss_no) fun K σ H ⟨F, A, R, k⟩ => ⟨F, A, R, k⟩
  | bk δ1 μ1 =>
    cases h'
    exact PSs.imp (pss_cons h pss_no) fun K σ H ⟨F, A, R, k⟩ => ⟨F, A, R, k⟩
  | ct δ1 μ1 =>
    cases h'
    exact PSs.imp (pss_cons h pss_no) fun K σ H ⟨F, A, R, k⟩ => ⟨F, A, R, k⟩
theorem ds_expr (h : DE X N W δ μ e (.v s) μ1) (hs : swapsWith e none pos.line X.env = pure false := by rfl) : DS X N W δ μ (.Expr e pos) (.nx δ μ1) :=
  PS.imp (ps_expr h hs) fun K σ H ⟨F, A, R, k⟩ => ⟨F, A, R, fun v F1 A1 H1 e1 p1 R1 rv => k σ F1 A1 H1 e1 p1 R1⟩
theorem ds_ret (h : DE X N W δ μ e (.v s) μ1) : DS X N W δ μ (.Return (some e) pos) (.rt s μ1) :=
  PS.imp (ps_ret h) fun K σ H ⟨F, A, R, k⟩ => ⟨F, A, R, fun v F1 A1 H1 e1 p1 R1 rv => k v F1 A1 H1 e1 p1 R1.rc rv⟩
theorem ds_set (i : Nat) {x : Str} {pos' : Pos} (h : DE X N W δ μ e (.v s) μ1) (hN : X.N.Nodup) (hi : X.N[i]? = some x := by rfl) (hx : Loc X.env.scope x := by first | exact Or.inl rfl | exact Or.inr rfl) (hs : swapsWith e (some (.Name x pos')) pos.line X.env = pure false := by rfl)
    (hf : X.fn x = true ∨ X.env.scope.names.lookup x = some .local := by first | exact .inl rfl | exact .inr rfl) : DS X N W δ μ (.Assign [.Name x pos'] e pos) (.nx (δ.set i (some s)) μ1) :=
  PS.imp (ps_set (i := i) hN hi hx h hs hf) fun K σ H ⟨F, A, R, k⟩ => ⟨F, A, R, fun v F1 A1 H1 e1 p1 R1 rv => k _ F1 A1 H1 e1 p1 (R1.set rv)⟩
theorem ds_if {A B : List Stmt} {k : Bool} {o : Os} (h : DT X N W δ μ c k μ1) (ha : k = true → DSs X N W δ μ1 A o) (hb : k = false → DSs X N W δ μ1 B o) : DS X N W δ μ (.If c A B pos) o := by
  cases k with
  | true => exact PS.imp (ps_if h (ha rfl) pss_no) fun K σ H ⟨F, A, R, q⟩ => ⟨F, A, R, fun F1 A1 H1 e1 p1 R1 => iteT ⟨F1, A1, R1, q.to e1 p1⟩⟩
  | false => exact PS.imp (ps_if h pss_no (hb rfl)) fun K σ H ⟨F, A, R, q⟩ => ⟨F, A, R, fun F1 A1 H1 e1 p1 R1 => iteF ⟨F1, A1, R1, q.to e1 p1⟩⟩
end
end Dl
set_option Elab.async false
set_option linter.all false
set_option maxRecDepth 100000
set_option maxHeartbeats 4000000
set_option autoImplicit false
namespace Dl
open PySem PySem.Spec PyProof.Rows L2
/-! ## what a def promises -/
abbrev Rel := List S → List M → Rx → List M → Prop
def spD (K : PySem.W.Frag) (R : Rel) : Sp := fun vs H Q E => ∃ (F : Hp) (A : List Addr) (ss : List S) (μ : List M) (r : Rx) (μ' : List M), R ss μ r μ' ∧ Rc ⟨K, H, F, A⟩ F A H μ ∧ RepSs K F A vs ss ∧
  match r with
  | .v s => ∀ v F' A' H', Rc ⟨K, H, F, A⟩ F' A' H' μ' → RepS K F' A' v s → Q v H'
  | .x C d => ∀ dx v F' A' H', Rc ⟨K, H, F, A⟩ F' A' H' μ' → F' dx = some (.xd [("value", v)]) → Rep K F' v d → E (.ref C) (some dx) H'
theorem Rc.entry {N : En} {F : Hp} {A : List Addr} {H : Hp} {μ : List M} (r : Rc N F A H μ) : Rc ⟨N.K, H, F, A⟩ F A H μ :=
  ⟨r.sub, Same.refl _, fun a o e => .inl ⟨o, e⟩, fun _ _ e _ => e, ⟨[], by simp, fun _ h => by cases h⟩, r.nd, r.len, r.mus, r.fr⟩
theorem Rc.back {N : En} {F F' : Hp} {A A' : List Addr} {H H' : Hp} {μ μ' : List M} (r : Rc N F A H μ) (q : Rc ⟨N.K, H, F, A⟩ F' A' H' μ') : Rc N F' A' H' μ' where
  sub := q.sub
  base := r.base.trans q.base
  new := fun a o e => by
    rcases q.new a o e with ⟨o', h⟩ | h
    · exact r.new a o' h
    · exact .inr (r.fresh h).1
  keep := fun a o e hA => by
    refine q.keep a o (r.keep a o e hA) fun hm => ?_
    obtain ⟨B, rfl, hB⟩ := r.pre
    rcases List.mem_append.mp hm with h | h
    · exact hA h
    · rw [hB a h] at e; cases e
  pre := by
    obtain ⟨B, rfl, hB⟩ := r.pre
    obtain ⟨B', e, hB'⟩ := q.pre
    refine ⟨B ++ B', by rw [e]; exact List.append_assoc .., fun b hb => ?_⟩
    rcases List.mem_append.mp hb with h | h
    · exact hB b h
    · exact (r.fresh (hB' b h)).1
  nd := q.nd
  len := q.len
  mus := q.mus
  fr := q.fr
theorem Rc.prefix_ {N : En} {F : Hp} {A : List Addr} {H : Hp} {μ : List M} (r : Rc N F A H μ) : N.A0 <+: A := by
  obtain ⟨B, rfl, _⟩ := r.pre
  exact List.prefix_append _ _
/-- where one stands -/
structure Go (X : Cx) (N : En) (W : WX) (n : Nat) : Prop where
  tk : Takes X W
  calm : X.calm = true
  hK : N.K = X.K
  room : Room n X.A
  po : PassesOwn (model X.prog X.w) X.A X.env X.xe
  nd : X.N.Nodup
/-- a def of the module by its name -/
structure Cf (P : Program) (w : World) (K : PySem.W.Frag) (mg : Str → Option Value) (base : Heap) (k : Nat) (x : Str) (dd : List D) (R : Rel) : Prop where
  ex : ∃ (f : Addr) (fd : FuncData) (ps : List Str) (ds : List Value) (dvs : List V), FnOk P w K mg base (L2.CX P w) k f fd ps (spD K R) ∧ mg x = some (.ref f) ∧ PySem.W.keepIn K (.ref f) = true ∧ Binds K fd ps ds ∧ Vals dvs ds ∧ ∀ F, Reps K F dvs dd
/-- a method -/
structure Cm (P : Program) (w : World) (K : PySem.W.Frag) (mg : Str → Option Value) (base : Heap) (k : Nat) (C : Addr) (x : Str) (dd : List D) (R : Rel) : Prop where
  cls : Cls K C
  ex : ∃ (f : Addr) (fd : FuncData) (ps : List Str) (ds : List Value) (dvs : List V), FnOk P w K mg base (L2.CX P w) k f fd ps (spD K R) ∧ Meth K C x f ∧ Binds K fd ps ds ∧ Vals dvs ds ∧ ∀ F, Reps K F dvs dd
/-- a class that is made by its __init__ -/
structure Ci (P : Program) (w : World) (K : PySem.W.Frag) (mg : Str → Option Value) (base : Heap) (k : Nat) (C : Addr) (x : Str) (dd : List D) (R : Rel) : Prop where
  at_ : mg x = some (.ref C)
  ex : ∃ (f : Addr) (fd : FuncData) (ps : List Str) (ds : List Value) (dvs : List V), FnOk P w K mg base (L2.CX P w) k f fd ps (spD K R) ∧ Mk K C f ∧ Binds K fd ps ds ∧ Vals dvs ds ∧ ∀ F, Reps K F dvs dd
section
variable {X : Cx} {N : En} {W : WX} {n : Nat} {δ δ' δ1 δ2 : List (Option S)} {μ μ' μ1 μ2 μ3 : List M} {e a b c o : Expr} {es : List Expr} {ss : List S} {pos p apos : Pos} {d : D} {s s1 s2 : S} {r : Rx} {R : Rel} {k : Nat} {x m f : Str} {dd : List D} {C : Addr}
/-- the promise, for the caller -/
theorem spD_in {E : XK} {σ : L2.St} {F : Hp} {A : List Addr} {H : Hp} {vs : List V} {Q : VK} (hR : R ss μ r μ') (Rl0 : Rl N F A H σ δ μ) (rv : RepSs N.K F A vs ss) (k : EndE N (fun cls d _ H => E cls d H) σ δ F A μ' Q r) : spD N.K R vs H Q E := by
  refine ⟨F, A, ss, μ, r, μ', hR, Rl0.rc.entry, rv, ?_⟩
  cases r with
  | v s => exact fun v F' A' H' q rv => k v F' A' H' q.base q.prefix_ (Rl0.to q.base q.prefix_ (Rl0.rc.back q)) rv
  | x C d => exact fun dx v F' A' H' q h1 h2 => k dx v F' A' H' q.base q.prefix_ (Rl0.to q.base q.prefix_ (Rl0.rc.back q)) h1 h2
/-- an error that is raised within an expression: the wish of it, at these slots -/
theorem EndE.wish {σ : L2.St} {F : Hp} {A : List Addr} {Q : VK} (k : EndE N W σ δ F A μ' Q r) : EndE N (fun cls d _ H => W cls d σ H) σ δ F A μ' Q r := by
  cases r with
  | v s => exact k
  | x C d => exact k
theorem call_fnD {pins : List (Addr × Obj)} {σ : L2.St} {H : Hp} {sh : Shared} {F : Hp} {A : List Addr} {Q : VK} {us : List Value} {vs dvs : List V} {ds : List Value} {f : Addr} {fd : FuncData} {ps : List Str} (g : Go X N W n) (hk : k ≤ n)
    (Fo : FnOk X.prog X.w X.K X.mg X.base (L2.CX X.prog X.w) k f fd ps (spD X.K R)) (hb : Binds X.K fd ps ds) (hd : Vals dvs ds) (rd : ∀ F, Reps X.K F dvs dd) (I : Inv X pins σ H sh) (R0 : Rl N F A H σ δ μ) (rv : RepSs N.K F A vs ss) (ru : Vals vs us)
    (hR : R (ss ++ dd.map S.p) μ r μ') (q : EndE N W σ δ F A μ' Q r) : wpAny (model X.prog X.w) X.A (call (.ref f) us) (EP X pins σ Q) X.xe sh := by
  refine run_fnSD (E := WE W) Fo (g.room.mono hk) hb hd (passAt g.tk σ) I ru ?_
  have hK := g.hK
  rw [← hK] at rd ⊢
  exact spD_in hR R0 (rv.append (of_reps (rd F))) q.wish
theorem de_call (g : Go X N W n) (cf : Cf X.prog X.w X.K X.mg X.base k x dd R) (ha : DA X N W δ μ (e :: es) ss μ1) (hR : R (ss ++ dd.map S.p) μ1 r μ2) (hk : k ≤ n := by decide) (hg : Gl X x := by rfl) (hdb : (x == ("__debug__" : Str)) = false := by decide)
    (he : starEach (e :: es) X.env = (false, eval e X.env) :: starEach es X.env := by rfl) (hpl : (backTo pos (starEach es X.env)).any (·.1) = false := by rfl) : DE X N W δ μ (.Call (.Name x p) (e :: es) [] pos) r μ2 := by
  obtain ⟨f, fd, ps, ds, dvs, Fo, hm, hkp, hb, hd, rd⟩ := cf.ex
  refine ⟨fun pins s σ H Q I ⟨F, A, R0, q⟩ => ?_⟩
  refine wpAny_Call_Name_kw (ld_glob I hg hm ?_ hdb)
  refine PySem.W.callWith_K (h₀ := X.base) I.ok.mod.kin hkp (thn (ha.run pos pins s σ H (fun vs H' => ∃ F' A', Same F F' ∧ A <+: A' ∧ Rl N F' A' H' σ δ μ1 ∧ RepSs N.K F' A' vs ss) I ⟨F, A, R0, fun vs F' A' H' h1 h2 h3 h4 => ⟨F', A', h1, h2, h3, h4⟩⟩) fun us s1 ⟨vs, H1, I1, r1, F1, A1, e1, p1, R1, rv⟩ => ⟨I1.kIn, ?_⟩) he hpl
  exact call_fnD g hk Fo hb hd rd I1 R1 rv r1 hR (q.to e1 p1)
/-! ### instances -/
theorem lookup_none {f : Str} : ∀ {fs : List (Str × V)}, f ∉ fs.map (·.1) → fs.lookup f = none
  | [], _ => rfl
  | (k, v) :: r, h => by
    have h1 : (f == k) = false := beq_eq_false_iff_ne.mpr fun z => h (by rw [z]; exact List.mem_cons_self)
    rw [List.lookup_cons, h1]
    exact lookup_none fun z => h (List.mem_cons_of_mem _ z)
theorem lookup_rep {K : PySem.W.Frag} {F : Hp} {f : Str} : ∀ {fs : List (Str × V)} {ns : List Str} {ds : List D} {d : D}, fs.map (·.1) = ns → Reps K F (fs.map (·.2)) ds → (ns.zip ds).lookup f = some d → ∃ v, fs.lookup f = some v ∧ Rep K F v d
  | [], _, _, _, h, r, e => by
    subst h
    cases r
    cases e
  | (k, v) :: t, ns, ds, d, h, r, e => by
    subst h
    cases r with
    | cons r1 r2 =>
      rw [List.lookup_cons]
      rw [show (List.map (fun x : Str × V => x.1) ((k, v) :: t)).zip (_ :: _) = (k, _) :: (List.map (fun x : Str × V => x.1) t).zip _ from rfl, List.lookup_cons] at e
      cases hb : f == k with
      | true =>
        rw [hb] at e
        cases e
        exact ⟨v, rfl, r1⟩
      | false =>
        rw [hb] at e
        exact lookup_rep rfl r2 e
theorem rep_ins {K : PySem.W.Frag} {F : Hp} {v : V} {C : Addr} {ns : List Str} {ds : List D} (h : Rep K F v (.ins C ns ds)) : ∃ a dx fs, v = .ref a ∧ F a = some (.ins C dx fs) ∧ fs.map (·.1) = ns ∧ Reps K F (fs.map (·.2)) ds := by
  generalize hd : D.ins C ns ds = d at h
  cases h with
  | ins h1 h2 =>
    cases hd
    exact ⟨_, _, _, rfl, h1, rfl, h2⟩
  | _ => cases hd
/-- o.f, a field -/
theorem de_fld {ns : List Str} {ds : List D} (ho : DE X N W δ μ e (.v (.p (.ins C ns ds))) μ1) (g : Go X N W n) (c : Cls X.K C) (nf : NoAttr X.K C f) (hl : (ns.zip ds).lookup f = some d := by rfl) (hb : attributeBase e f X.env (eval e X.env) = eval e X.env := by rfl) : DE X N W δ μ (.Attribute e f pos) (.v (.p d)) μ1 :=
  PE.imp (pe_fld ho hb) fun σ H Q ⟨F, A, R, q⟩ => ⟨F, A, R, fun v F1 A1 H1 e1 p1 R1 rv => by
    obtain ⟨a, dx, fs, rfl, h1, h2, h3⟩ := rep_ins rv
    obtain ⟨w, h4, h5⟩ := lookup_rep h2 h3 hl
    exact ⟨a, C, dx, fs, w, rfl, R1.rc.sub _ _ h1, c, nf, h4, q w F1 A1 H1 e1 p1 R1 h5⟩⟩
/-- .. of an object that is being made or changed -/
theorem de_fldM {j : Nat} {ns : List Str} {ds : List D} (ho : DE X N W δ μ e (.v (.l j)) μ1) (g : Go X N W n) (c : Cls X.K C) (nf : NoAttr X.K C f) (hm : μ1[j]? = some (.obj C ns ds)) (hl : (ns.zip ds).lookup f = some d := by rfl) (hb : attributeBase e f X.env (eval e X.env) = eval e X.env := by rfl) : DE X N W δ μ (.Attribute e f pos) (.v (.p d)) μ1 :=
  PE.imp (pe_fld ho hb) fun σ H Q ⟨F, A, R, q⟩ => ⟨F, A, R, fun v F1 A1 H1 e1 p1 R1 rv => by
    obtain ⟨a, rfl, ha⟩ := rv
    obtain ⟨dx, fs, h1, h2, h3⟩ := R1.rc.mus j a _ ha hm
    obtain ⟨w, h4, h5⟩ := lookup_rep h2 h3 hl
    exact ⟨a, C, dx, fs, w, rfl, h1, c, nf, h4, q w F1 A1 H1 e1 p1 R1 h5⟩⟩
/-- o.m(e, ..) -/
theorem de_meth {ns : List Str} {ds' : List D} {pl : Sem Bool} (g : Go X N W n) (cm : Cm X.prog X.w X.K X.mg X.base k C m dd R) (ho : DE X N W δ μ o (.v (.p (.ins C ns ds'))) μ1) (ha : DA X N W δ μ1 (e :: es) ss μ2) (hR : R (.p (.ins C ns ds') :: (ss ++ dd.map S.p)) μ2 r μ3)
    (hk : k ≤ n := by decide) (hm : m ∉ ns := by decide) (hst : starEach (e :: es) X.env = (false, eval e X.env) :: starEach es X.env := by rfl) (hpl : (backTo pos (starEach es X.env)).any (·.1) = false := by rfl)
    (ht : eval (.Call (.Attribute o m apos) (e :: es) [] pos) X.env = (do
      let ov ← eval o X.env
      standAt apos.atName
      let (f, first) ← holding [ov] (getMethod ov m pl)
      callWith pos f first (backTo pos (starEach (e :: es) X.env)) (backToKw pos (keywordEach [] X.env))) := by rfl) : DE X N W δ μ (.Call (.Attribute o m apos) (e :: es) [] pos) r μ3 := by
  obtain ⟨f, fd, ps, ds, dvs, Fo, hme, hb, hd, rd⟩ := cm.ex
  refine ⟨fun pins s σ H Q I ⟨F, A, R0, q⟩ => ?_⟩
  refine PySem.W.methodCall_KW (pl := pl) (thn (ho.run pins s σ H (fun v H' => ∃ F' A', Same F F' ∧ A <+: A' ∧ Rl N F' A' H' σ δ μ1 ∧ RepS N.K F' A' v (.p (.ins C ns ds'))) I ⟨F, A, R0, fun v F' A' H' h1 h2 h3 h4 => ⟨F', A', h1, h2, h3, h4⟩⟩) fun u s1 ⟨v, H1, I1, r1, F1, A1, e1, p1, R1, rv⟩ => ?_) ht
  obtain ⟨a, dx, fs, rfl, h1, h2, h3⟩ := rep_ins rv
  obtain rfl : u = Value.ref a := r1
  refine getmeth_ok I1 (R1.rc.sub _ _ h1) cm.cls hme (lookup_none (by rw [h2]; exact hm)) ?_
  refine PySem.W.callWith_K (first := [.ref a]) (h₀ := X.base) I.ok.mod.kin hme.kp (thn (ha.run pos pins s1 σ H1 (fun vs H' => ∃ F' A', Same F1 F' ∧ A1 <+: A' ∧ Rl N F' A' H' σ δ μ2 ∧ RepSs N.K F' A' vs ss) I1 ⟨F1, A1, R1, fun vs F' A' H' h1 h2 h3 h4 => ⟨F', A', h1, h2, h3, h4⟩⟩) fun us s2 ⟨vs, H2, I2, r2, F2, A2, e2, p2, R2, rvs⟩ => ⟨I2.kIn, ?_⟩) hst hpl
  exact call_fnD (us := .ref a :: us) (vs := .ref a :: vs) (ss := .p (.ins C ns ds') :: ss) g hk Fo hb hd rd I2 R2 (.cons (RepS.mono (s := .p (.ins C ns ds')) e2 p2 rv) rvs) (.cons rfl r2) hR (q.to (e1.trans e2) (p1.trans p2))
/-- what __init__ wants at a new instance -/
def MkEnd (N : En) (H1 F : Hp) (A : List Addr) (μ0 : List M) (Q : VK) (E : XK) : Rx → Prop
  | .v s => ∀ v F' A' H', Rc ⟨N.K, H1, F, A⟩ F' A' H' μ0 → RepS N.K F' A' v s → Q v H'
  | .x C2 d => ∀ dx' v F' A' H', Rc ⟨N.K, H1, F, A⟩ F' A' H' μ0 → F' dx' = some (.xd [("value", v)]) → Rep N.K F' v d → E (.ref C2) (some dx') H'
theorem make_in {E : XK} {σ : L2.St} {F : Hp} {A : List Addr} {H : Hp} {vs : List V} {Q : VK} {μ0 : List M} (R0 : Rl N F A H σ δ μ) (rv : RepSs N.K F A vs ss) (hR : R (.l μ.length :: ss) (μ ++ [.obj C [] []]) r μ0)
    {x dx : Addr} (nx : H x = none) (ndx : H dx = none) (ne : dx ≠ x) (k : MkEnd N (upd (upd H dx (.own x)) x (.ins C dx [])) F (A ++ [x]) μ0 Q E r) :
    spD N.K R (.ref x :: vs) (upd (upd H dx (.own x)) x (.ins C dx [])) Q E := by
  have r1 := R0.rc.junk ndx (.own x)
  have nx1 : (upd H dx (.own x)) x = none := by rw [upd_ne (Ne.symm ne)]; exact nx
  have r2 := r1.newM (m := .obj C [] []) nx1 (o := .ins C dx []) ⟨dx, [], upd_same, rfl, .nil⟩
  have pp : A <+: A ++ [x] := List.prefix_append _ _
  refine ⟨F, A ++ [x], .l μ.length :: ss, μ ++ [.obj C [] []], r, μ0, hR, r2.entry, .cons ⟨x, rfl, ?_⟩ (rv.mono (Same.refl _) pp), ?_⟩
  · rw [← R0.rc.len]; simp
  · cases r with
    | v s => exact k
    | x C2 d => exact k
/-- behind it: the new instance is let go -/
theorem made_back {σ : L2.St} {F F' : Hp} {A A' : List Addr} {H H' : Hp} {μ0 : List M} (R0 : Rl N F A H σ δ μ) {x dx : Addr} (nx : H x = none) (ndx : H dx = none) (ne : dx ≠ x) (q : Rc ⟨N.K, upd (upd H dx (.own x)) x (.ins C dx []), F, A ++ [x]⟩ F' A' H' μ0) :
    Rc N F' (A'.take μ.length) H' (μ0.take μ.length) ∧ A <+: A'.take μ.length ∧ A'[μ.length]? = some x ∧ Rc N F' A' H' μ0 := by
  have r1 := R0.rc.junk ndx (.own x)
  have nx1 : (upd H dx (.own x)) x = none := by rw [upd_ne (Ne.symm ne)]; exact nx
  have r2 := r1.newM (m := .obj C [] []) nx1 (o := .ins C dx []) ⟨dx, [], upd_same, rfl, .nil⟩
  have hb := r2.back q
  have pp := q.prefix_
  have hl : μ.length = A.length := R0.rc.len.symm
  have hA : N.A0.length ≤ μ.length := by
    rw [hl]
    obtain ⟨B, e, _⟩ := R0.rc.pre
    rw [e]; simp
  refine ⟨hb.trim hA, ?_, ?_, hb⟩
  · rw [hl]
    obtain ⟨B, rfl⟩ := pp
    rw [show A ++ [x] ++ B = A ++ ([x] ++ B) from List.append_assoc .., List.take_left]
    exact List.prefix_refl _
  · rw [hl]
    exact getElem?_pre pp (by simp)
/-- C(e, ..) -/
theorem de_make {ns : List Str} {ds' : List D} {μ0 : List M} (g : Go X N W n) (ci : Ci X.prog X.w X.K X.mg X.base k C x dd R) (ha : DA X N W δ μ (e :: es) ss μ1) (hR : R (.l μ1.length :: (ss ++ dd.map S.p)) (μ1 ++ [.obj C [] []]) (.v (.p .non)) μ0) (h0 : μ0[μ1.length]? = some (.obj C ns ds')) (ht : μ2 = μ0.take μ1.length)
    (hk : k + 1 ≤ n := by decide) (hg : Gl X x := by rfl) (hdb : (x == ("__debug__" : Str)) = false := by decide)
    (he : starEach (e :: es) X.env = (false, eval e X.env) :: starEach es X.env := by rfl) (hpl : (backTo pos (starEach es X.env)).any (·.1) = false := by rfl) : DE X N W δ μ (.Call (.Name x p) (e :: es) [] pos) (.v (.p (.ins C ns ds'))) μ2 := by
  subst ht
  obtain ⟨f, fd, ps, ds, dvs, Fo, Mk, hb, hd, rd⟩ := ci.ex
  have hx : Passes (L2.CX X.prog X.w) X (fun _ _ _ => False) := fun _ _ _ _ _ _ _ c => by
    obtain ⟨_, _, _, _, _, _, _, _, _, _, _, _, z⟩ := c
    exact z.elim
  refine PE.imp (pe_make Mk Fo (g.room.mono hk) hg ci.at_ hb hd hx ha hdb he hpl) fun σ H Q ⟨F, A, R0, q⟩ => ⟨F, A, R0, fun vs F1 A1 H1 e1 p1 R1 rv x dx nx ndx ne => ?_⟩
  have hK := g.hK
  rw [← hK] at rd ⊢
  refine make_in (r := .v (.p .non)) R1 (rv.append (of_reps (rd F1))) hR nx ndx ne fun v F' A' H' hq rn => ?_
  have rn' : Rep N.K F' v .non := rn
  refine ⟨by cases rn'; rfl, ?_⟩
  obtain ⟨b1, b2, b3, b4⟩ := made_back R1 nx ndx ne hq
  obtain ⟨dx', fs, h1, h2, h3⟩ := b4.mus _ _ _ b3 h0
  have hA : N.A0.length ≤ μ1.length := by
    rw [← R1.rc.len]
    obtain ⟨B, e, _⟩ := R1.rc.pre
    rw [e]; simp
  obtain ⟨b5, b6⟩ := b4.freeze b3 h0 trivial hA h1
  have b7 := b5.trim hA
  rw [show (μ0.set μ1.length M.gone).take μ1.length = μ0.take μ1.length from by rw [List.take_set_of_le (Nat.le_refl _)]] at b7
  have sm : Same F1 (upd F' x (.ins C dx' fs)) := hq.base.trans b6
  refine q (.ref x) _ _ H' (e1.trans sm) (p1.trans b2) (R1.to sm b2 b7) ?_
  have := Rep.ins (K := N.K) (C := C) (fs := fs) (ds := ds') (F := upd F' x (.ins C dx' fs)) upd_same (h3.mono b6)
  rw [h2] at this
  exact this
/-- o.f = e, a new attribute of what is being made -/
theorem putF_new {f : Str} {v : V} : ∀ {fs : List (Str × V)}, f ∉ fs.map (·.1) → putF f v fs = fs ++ [(f, v)]
  | [], _ => rfl
  | (k, w) :: r, h => by
    have h1 : k ≠ f := fun z => h (by rw [← z]; exact List.mem_cons_self)
    rw [show putF f v ((k, w) :: r) = (if k = f then (k, v) :: r else (k, w) :: putF f v r) from rfl, if_neg h1, putF_new fun z => h (List.mem_cons_of_mem _ z)]
    rfl
theorem Reps.snoc {K : PySem.W.Frag} {F : Hp} {vs : List V} {ds : List D} {v : V} {d : D} (h : Reps K F vs ds) (r : Rep K F v d) : Reps K F (vs ++ [v]) (ds ++ [d]) := h.append (.cons r .nil)
theorem ds_fldNew {pos' : Pos} {j : Nat} {ns : List Str} {ds : List D} (hv : DE X N W δ μ e (.v (.p d)) μ1) (ho : DE X N W δ μ1 o (.v (.l j)) μ2) (c : Cls X.K C) (nf : NoAttr X.K C f) (hm : μ2[j]? = some (.obj C ns ds)) (hn : f ∉ ns := by decide) (hl : ns.length < 900 := by decide)
    (hs : swapsWith e (some (.Attribute o f pos')) pos.line X.env = pure false := by rfl) : DS X N W δ μ (.Assign [.Attribute o f pos'] e pos) (.nx δ (μ2.set j (.obj C (ns ++ [f]) (ds ++ [d])))) :=
  PS.imp (ps_fld ho hv hs) fun K σ H ⟨F, A, R0, q⟩ => ⟨F, A, R0, fun v F1 A1 H1 e1 p1 R1 rv => ⟨F1, A1, R1, fun x F2 A2 H2 e2 p2 R2 rx => by
    obtain ⟨a, rfl, ha⟩ := rx
    have rv2 : Rep N.K F2 v d := Rep.mono e2 rv
    obtain ⟨dx, fs, h1, h2, h3⟩ := R2.rc.mus j a _ ha hm
    subst h2
    refine ⟨a, C, dx, fs, rfl, h1, c, nf, by rw [List.length_map] at hl; omega, ?_⟩
    rw [putF_new hn]
    refine q σ F2 A2 _ (e1.trans e2) (p1.trans p2) (R2.to (Same.refl _) (List.prefix_refl _) (R2.rc.write ha hm trivial ⟨dx, fs ++ [(f, v)], upd_same, by simp, ?_⟩))
    rw [List.map_append]
    exact h3.snoc rv2⟩⟩
end
/-! ## a def by its body -/
def starts (Nn : List Str) (ss : List S) : List (Option S) := ss.map some ++ List.replicate (Nn.length - ss.length) none
inductive Fit (n0 : Nat) : Os → Rx → List M → Prop
  | rt {s μ} : Fit n0 (.rt s μ) (.v s) μ
  | rtT {d μ n} : n0 ≤ n → Fit n0 (.rt (.p d) μ) (.v (.p d)) (μ.take n)
  | nx {δ μ} : Fit n0 (.nx δ μ) (.v (.p .non)) μ
  | nxT {δ μ n} : n0 ≤ n → Fit n0 (.nx δ μ) (.v (.p .non)) (μ.take n)
  | xx {C d δ μ} : Fit n0 (.xx C d δ μ) (.x C d) μ
  | xxT {C d δ μ n} : n0 ≤ n → Fit n0 (.xx C d δ μ) (.x C d) (μ.take n)
theorem start_slots {N : En} {F : Hp} {A : List Addr} {vs : List V} {ss : List S} (Nn : List Str) (r : RepSs N.K F A vs ss) : (starts Nn ss).length = (L2.start Nn vs).length ∧ ∀ (i : Nat) (s : S), (starts Nn ss)[i]? = some (some s) → ∃ v, (L2.start Nn vs)[i]? = some (some v) ∧ RepS N.K F A v s := by
  have hl := r.length
  refine ⟨by simp [starts, L2.start, hl], fun i s h => ?_⟩
  unfold starts at h
  by_cases hi : i < ss.length
  · rw [List.getElem?_append_left (by simpa using hi), List.getElem?_map] at h
    have key : ∀ {vs : List V} {ss : List S}, RepSs N.K F A vs ss → ∀ (i : Nat) (s : S), (ss[i]?).map some = some (some s) → ∃ v, vs[i]? = some v ∧ RepS N.K F A v s := by
      intro vs ss r
      induction r with
      | nil => intro i s e; simp at e
      | cons a b ih =>
        intro i s e
        cases i with
        | zero => simp at e; subst e; exact ⟨_, rfl, a⟩
        | succ i =>
          obtain ⟨v, h1, h2⟩ := ih i s (by simpa using e)
          exact ⟨v, by simpa using h1, h2⟩
    obtain ⟨v, h1, h2⟩ := key r i s h
    refine ⟨v, ?_, h2⟩
    unfold L2.start
    have hv : i < (vs.map some).length := by simpa [hl] using hi
    rw [List.getElem?_append_left hv, List.getElem?_map, h1]
    rfl
  · rw [List.getElem?_append_right (by simpa using hi), List.getElem?_replicate] at h
    split at h <;> cases h
theorem fn_D {P : Program} {w : World} {K : PySem.W.Frag} {mg : Str → Option Value} {base : Heap} {x qual : Str} {st : Stmt} {f : Addr} {fd : FuncData} {Nn ps : List Str} {k : Nat} {R : Rel} (F : Fun K x qual st f fd) (Sc : FnScope Nn ps (defScope st)) (hlen : ∀ ss μ r μ', R ss μ r μ' → ss.length = ps.length)
    (body : ∀ (cdv : Value) (A : Around) (outer : List Env) (s : Shared) (H : Hp) (E : XK) (N : En) (W : WX) (ss : List S) (μ : List M) (r : Rx) (μ' : List M), Go (cxOf (L2.CX P w) P w K mg base Nn qual (defScope st) f cdv A outer s H E) N W k → N.A0.length = μ.length → R ss μ r μ' →
      ∃ o, DSs (cxOf (L2.CX P w) P w K mg base Nn qual (defScope st) f cdv A outer s H E) N W (starts Nn ss) μ (defBody st) o ∧ Fit μ.length o r μ') :
    FnOk P w K mg base (L2.CX P w) (k + 1) f fd ps (spD K R) := by
  refine F.okX Sc (fun vs H Q E h => ?_) (fun cdv A outer s H vs Q E hr h => ?_)
  · obtain ⟨F0, A0, ss, μ, r, μ', hR, _, rv, _⟩ := h
    rw [rv.length]
    exact hlen _ _ _ _ hR
  · obtain ⟨F0, A0, ss, μ, r, μ', hR, rc, rv, hq⟩ := h
    have g : Go (cxOf (L2.CX P w) P w K mg base Nn qual (defScope st) f cdv A outer s H E) ⟨K, H, F0, A0⟩ (fun cls d _ H => E cls d H) k :=
      ⟨takes_of rfl rfl rfl rfl, rfl, rfl, hr, passes_of rfl, Sc.nd⟩
    have h0 : A0.length = μ.length := rc.len
    obtain ⟨o, hd, fit⟩ := body cdv A outer s H E ⟨K, H, F0, A0⟩ _ ss μ r μ' g h0 hR
    refine ⟨_, hd, F0, A0, ⟨rc, (start_slots (N := ⟨K, H, F0, A0⟩) Nn rv).1, (start_slots (N := ⟨K, H, F0, A0⟩) Nn rv).2⟩, ?_⟩
    · cases fit with
      | rt => exact fun v F' A' H' e p rc' rv' => hq v F' A' H' rc' rv'
      | rtT hn => exact fun v F' A' H' e p rc' rv' => hq v F' _ H' (rc'.trim (by show A0.length ≤ _; omega)) rv'
      | nx => exact fun σ' F' A' H' e p R' => hq .non F' A' H' R'.rc .non
      | nxT hn => exact fun σ' F' A' H' e p R' => hq .non F' _ H' (R'.rc.trim (by show A0.length ≤ _; omega)) .non
      | xx => exact fun σ' dx v F' A' H' e p R' h1 h2 => hq dx v F' A' H' R'.rc h1 h2
      | xxT hn => exact fun σ' dx v F' A' H' e p R' h1 h2 => hq dx v F' _ H' (R'.rc.trim (by show A0.length ≤ _; omega)) h1 h2
end Dl
set_option Elab.async false
set_option linter.all false
set_option maxRecDepth 100000
set_option maxHeartbeats 4000000
set_option autoImplicit false
namespace Dl
open PySem PySem.Spec PyProof.Rows L2
/-! ## what is walked -/
/-- an item comes: as it stands, or in a new tuple -/
def ItemAt (K : PySem.W.Frag) (F H : Hp) (x : V) (H' : Hp) (d : D) : Prop :=
  (H' = H ∧ Rep K F x d) ∨ ∃ T vs es, x = .ref T ∧ H T = none ∧ H' = upd H T (.tup vs) ∧ d = .tup es ∧ Reps K F vs es
abbrev Yl (K : PySem.W.Frag) (J : It) (F : Hp) (ds : List D) : Prop := Walk J ds.length (fun H => Same F H) (fun i H x H' => ∃ d, ds[i]? = some d ∧ ItemAt K F H x H' d)
theorem Yl.mono {K : PySem.W.Frag} {J : It} {F F' : Hp} {ds : List D} (y : Yl K J F ds) (e : Same F F') : Yl K J F' ds :=
  Walk.mono y (fun H h => e.trans h) fun i H x H' _ _ ⟨d, h1, h2⟩ => ⟨d, h1, by
    rcases h2 with ⟨a, b⟩ | ⟨T, vs, es, a, b, c, d, r⟩
    · exact .inl ⟨a, b.mono e⟩
    · exact .inr ⟨T, vs, es, a, b, c, d, r.mono e⟩⟩
/-- behind an item -/
theorem Rl.item {N : En} {F : Hp} {A : List Addr} {H H' : Hp} {σ : L2.St} {δ : List (Option S)} {μ : List M} {x : V} {d : D} (R : Rl N F A H σ δ μ) (h : ItemAt N.K F H x H' d) : ∃ F', Same F F' ∧ Rl N F' A H' σ δ μ ∧ Rep N.K F' x d := by
  rcases h with ⟨rfl, r⟩ | ⟨T, vs, es, rfl, nT, rfl, rfl, r⟩
  · exact ⟨F, Same.refl _, R, r⟩
  · have sm := same_updN (o := .tup vs) (R.rc.fresh nT).2.1
    exact ⟨_, sm, R.to sm (List.prefix_refl _) (R.rc.frozen nT _), .tup (SqT.of upd_same) (r.mono sm)⟩
def tI (N : En) (W : WX) (δ : List (Option S)) (μ : List M) (ds : List D) (μ' : List M) : TI := fun σ H Rk => ∃ F A, Rl N F A H σ δ μ ∧ ∀ J F' A' H', Same F F' → A <+: A' → Rl N F' A' H' σ δ μ' → Yl N.K J F' ds → Rk J H'
def DI (X : Cx) (N : En) (W : WX) (δ : List (Option S)) (μ : List M) (tg iter : Expr) (ds : List D) (μ' : List M) : Prop := PI X tg iter (tI N W δ μ ds μ')
theorem PI.imp {X : Cx} {tg iter : Expr} {t t' : TI} (h : PI X tg iter t) (w : ∀ σ H Q, t' σ H Q → t σ H Q) : PI X tg iter t' := ⟨fun p s σ H Q I q => h.run p s σ H Q I (w σ H Q q)⟩
theorem rep_lst {K : PySem.W.Frag} {F : Hp} {v : V} {ds : List D} (h : Rep K F v (.lst ds)) : ∃ a vs, v = .ref a ∧ F a = some (.lst vs) ∧ Reps K F vs ds := by
  generalize hd : D.lst ds = d at h
  cases h with
  | lst h1 h2 => cases hd; exact ⟨_, _, rfl, h1, h2⟩
  | _ => cases hd
theorem rep_tup {K : PySem.W.Frag} {F : Hp} {v : V} {ds : List D} (h : Rep K F v (.tup ds)) : ∃ a vs, v = .ref a ∧ SqT K F a vs ∧ Reps K F vs ds := by
  generalize hd : D.tup ds = d at h
  cases h with
  | tup h1 h2 => cases hd; exact ⟨_, _, rfl, h1, h2⟩
  | _ => cases hd
theorem rep_exc {K : PySem.W.Frag} {F : Hp} {v : V} {C : Addr} {d : D} (h : Rep K F v (.exc C d)) : ∃ a dx w, v = .ref a ∧ F a = some (ExO C dx a) ∧ F dx = some (.xd [("value", w)]) ∧ Rep K F w d := by
  generalize hd : D.exc C d = d' at h
  cases h with
  | exc h1 h2 h3 => cases hd; exact ⟨_, _, _, rfl, h1, h2, h3⟩
  | _ => cases hd
/-- what a datum does to the slots -/
abbrev As := D → List (Option S) → Option (List (Option S))
inductive Loop (X : Cx) (N : En) (W : WX) (f : As) (body : List Stmt) : List D → List (Option S) → List M → Os → Prop
  | nil {δ μ} : Loop X N W f body [] δ μ (.nx δ μ)
  | next {d ds δ μ δt δ1 μ1 o} : f d δ = some δt → DSs X N W δt μ body (.nx δ1 μ1) → Loop X N W f body ds δ1 μ1 o → Loop X N W f body (d :: ds) δ μ o
  | cont {d ds δ μ δt δ1 μ1 o} : f d δ = some δt → DSs X N W δt μ body (.ct δ1 μ1) → Loop X N W f body ds δ1 μ1 o → Loop X N W f body (d :: ds) δ μ o
  | brk {d ds δ μ δt δ1 μ1} : f d δ = some δt → DSs X N W δt μ body (.bk δ1 μ1) → Loop X N W f body (d :: ds) δ μ (.nx δ1 μ1)
  | ret {d ds δ μ δt s μ1} : f d δ = some δt → DSs X N W δt μ body (.rt s μ1) → Loop X N W f body (d :: ds) δ μ (.rt s μ1)
  | exc {d ds δ μ δt C y δ1 μ1} : f d δ = some δt → DSs X N W δt μ body (.xx C y δ1 μ1) → Loop X N W f body (d :: ds) δ μ (.xx C y δ1 μ1)
section
variable {X : Cx} {N : En} {W : WX} {n : Nat} {δ δ' δ1 δ2 : List (Option S)} {μ μ' μ1 μ2 μ3 : List M} {e a b c o tg iter : Expr} {es : List Expr} {ss : List S} {pos p apos : Pos} {d : D} {s s1 s2 : S} {r : Rx} {ds : List D}
theorem yl_list {K : PySem.W.Frag} {F : Hp} {a : Addr} {vs : List V} (h : F a = some (.lst vs)) (r : Reps K F vs ds) : Yl K (Itl K a) F ds := by
  unfold Yl
  rw [← r.length]
  exact Walk.mono (walk_list (xs := vs)) (fun H e => SqL.of (e _ _ h)) fun i H x H' _ _ ⟨e, hx⟩ => by
    obtain ⟨d, h1, h2⟩ := r.get' hx
    exact ⟨d, h1, .inl ⟨e, h2⟩⟩
theorem yl_tup {K : PySem.W.Frag} {F : Hp} {a : Addr} {vs : List V} (h : SqT K F a vs) (r : Reps K F vs ds) : Yl K (Itt K a) F ds := by
  unfold Yl
  rw [← r.length]
  exact Walk.mono (walk_tup (xs := vs)) (fun H e => same_sqT e h) fun i H x H' _ _ ⟨e, hx⟩ => by
    obtain ⟨d, h1, h2⟩ := r.get' hx
    exact ⟨d, h1, .inl ⟨e, h2⟩⟩
theorem di_lst (g : Go X N W n) (h : DE X N W δ μ iter (.v (.p (.lst ds))) μ1) : DI X N W δ μ tg iter ds μ1 :=
  PI.imp (pi_list h) fun σ H Rk ⟨F, A, R, k⟩ => ⟨F, A, R, fun v F1 A1 H1 e1 p1 R1 rv => by
    have hK := g.hK
    rw [← hK]
    obtain ⟨a, vs, rfl, h1, h2⟩ := rep_lst rv
    exact ⟨a, rfl, ⟨vs, SqL.of (R1.rc.sub _ _ h1)⟩, k _ F1 A1 H1 e1 p1 R1 (yl_list h1 h2)⟩⟩
theorem di_tup (g : Go X N W n) (h : DE X N W δ μ iter (.v (.p (.tup ds))) μ1) : DI X N W δ μ tg iter ds μ1 :=
  PI.imp (pi_tup h) fun σ H Rk ⟨F, A, R, k⟩ => ⟨F, A, R, fun v F1 A1 H1 e1 p1 R1 rv => by
    have hK := g.hK
    rw [← hK]
    obtain ⟨a, vs, rfl, h1, h2⟩ := rep_tup rv
    exact ⟨a, rfl, ⟨vs, same_sqT R1.rc.sub h1⟩, k _ F1 A1 H1 e1 p1 R1 (yl_tup h1 h2)⟩⟩
def rangeD (lo : Int) (n : Nat) : List D := (List.range n).map fun i => D.int (lo + (i : Nat))
theorem yl_range {K : PySem.W.Frag} {F : Hp} {lo : Int} {n : Nat} : Yl K (Itr lo n) F (rangeD lo n) := by
  unfold Yl
  rw [show (rangeD lo n).length = n from by simp [rangeD]]
  exact Walk.mono (walk_range (lo := lo) (n := n)) (fun _ _ => trivial) fun i H x H' hi _ ⟨e, hx⟩ => by
    refine ⟨.int (lo + i), ?_, .inl ⟨e, by rw [hx]; exact .int _⟩⟩
    rw [rangeD, List.getElem?_map, List.getElem?_range hi]
    rfl
theorem di_range1 {j : Int} (h : DA X N W δ μ [a] [.p (.int j)] μ1) (hm : X.mg "range" = none) (h1 : -(2 ^ 62) ≤ j ∧ j < 2 ^ 62) (hg : Gl X "range" := by rfl) (hs : starEach [a] X.env = [(false, eval a X.env)] := by rfl) : DI X N W δ μ tg (.Call (.Name "range" p) [a] [] pos) (rangeD 0 j.toNat) μ1 :=
  PI.imp (pi_range1 hg hm h hs) fun σ H Rk ⟨F, A, R, k⟩ => ⟨F, A, R, fun vs F1 A1 H1 e1 p1 R1 rv => by
    cases rv with
    | cons r1 r2 =>
      cases r2
      have r1' : Rep N.K F1 _ (.int j) := r1
      cases r1'
      exact ⟨j, rfl, h1.1, h1.2, k _ F1 A1 H1 e1 p1 R1 yl_range⟩⟩
def chars (z : Str) : List D := z.cps.toList.map fun c => D.str ⟨#[c]⟩
theorem yl_str {K : PySem.W.Frag} {F : Hp} {z : Str} : Yl K (Its z) F (chars z) := by
  unfold Yl
  rw [show (chars z).length = z.cps.size from by simp [chars]]
  exact Walk.mono (walk_str (z := z)) (fun _ _ => trivial) fun i H x H' hi _ ⟨e, c, h1, hx⟩ => by
    refine ⟨.str ⟨#[c]⟩, ?_, .inl ⟨e, by rw [hx]; exact .str _⟩⟩
    rw [chars, List.getElem?_map, Array.getElem?_toList, h1]
    rfl
theorem di_str {z : Str} (h : DE X N W δ μ iter (.v (.p (.str z))) μ1) : DI X N W δ μ tg iter (chars z) μ1 :=
  PI.imp (pi_str h) fun σ H Rk ⟨F, A, R, k⟩ => ⟨F, A, R, fun v F1 A1 H1 e1 p1 R1 rv => by
    have rv' : Rep N.K F1 _ (.str z) := rv
    cases rv'
    exact ⟨z, rfl, k _ F1 A1 H1 e1 p1 R1 yl_str⟩⟩
/-! ## targets -/
def tGd (N : En) (f : As) (ix : List Nat) : TG := fun v σ H Q => ∃ F A δ μ d δ', Rl N F A H σ δ μ ∧ Rep N.K F v d ∧ f d δ = some δ' ∧ ∀ σ', wipe σ' ix = wipe σ ix → Rl N F A H σ' δ' μ → Q σ' H
def DG (X : Cx) (N : En) (tg : Expr) (f : As) (ix : List Nat) : Prop := PG X tg (tGd N f ix)
theorem wipe_get : ∀ {vs : List Nat} {σ : L2.St} {i : Nat}, (wipe σ vs)[i]? = if i ∈ vs then (σ[i]?).map (fun _ => none) else σ[i]?
  | [], σ, i => by simp [wipe]
  | v :: vs, σ, i => by
    unfold wipe
    by_cases h : v = i
    · subst h
      rw [if_pos List.mem_cons_self]
      by_cases hl : v < σ.length
      · rw [List.getElem?_set_self (by rw [wipe_length]; exact hl), List.getElem?_eq_getElem hl]
        rfl
      · rw [List.getElem?_eq_none (by simp [wipe_length]; omega), List.getElem?_eq_none (by omega)]
        rfl
    · rw [List.getElem?_set_ne h, wipe_get]
      by_cases hi : i ∈ vs
      · rw [if_pos hi, if_pos (List.mem_cons_of_mem _ hi)]
      · rw [if_neg hi, if_neg (by
          intro z
          rcases List.mem_cons.mp z with z | z
          · exact h z.symm
          · exact hi z)]
theorem wipe_sub {σ σ' : L2.St} {ix vs : List Nat} (h : ∀ i ∈ ix, i ∈ vs) (e : wipe σ' ix = wipe σ ix) : wipe σ' vs = wipe σ vs := by
  have hl : σ'.length = σ.length := by
    have := congrArg List.length e
    rwa [wipe_length, wipe_length] at this
  apply List.ext_getElem?
  intro i
  rw [wipe_get, wipe_get]
  by_cases hi : i ∈ vs
  · rw [if_pos hi, if_pos hi]
    by_cases hlt : i < σ.length
    · rw [List.getElem?_eq_getElem hlt, List.getElem?_eq_getElem (by omega)]
      rfl
    · rw [List.getElem?_eq_none (by omega), List.getElem?_eq_none (by omega)]
  · rw [if_neg hi, if_neg hi]
    have q := congrArg (fun l : L2.St => l[i]?) e
    simp only [wipe_get] at q
    have hx : i ∉ ix := fun z => hi (h i z)
    rw [if_neg hx, if_neg hx] at q
    exact q
theorem wipe_trans {σ σ1 σ2 : L2.St} {ix jx : List Nat} (a : wipe σ1 ix = wipe σ ix) (b : wipe σ2 jx = wipe σ1 jx) : wipe σ2 (ix ++ jx) = wipe σ (ix ++ jx) :=
  (wipe_sub (fun i h => List.mem_append_right _ h) b).trans (wipe_sub (fun i h => List.mem_append_left _ h) a)
def asName (i : Nat) : As := fun d δ => some (δ.set i (some (.p d)))
def asAll : List As → List D → List (Option S) → Option (List (Option S))
  | [], [], δ => some δ
  | f :: fs, d :: ds, δ => (f d δ).bind fun δ' => asAll fs ds δ'
  | _, _, _ => none
def asTup (fs : List As) : As := fun d δ => match d with
  | .tup ds => asAll fs ds δ
  | _ => none
theorem PG.imp {X : Cx} {tg : Expr} {t t' : TG} (h : PG X tg t) (w : ∀ v σ H Q, t' v σ H Q → t v σ H Q) : PG X tg t' := ⟨fun p s σ H v u Q I r q => h.run p s σ H v u Q I r (w v σ H Q q)⟩
theorem PGs.imp {X : Cx} {ts : List Expr} {t t' : TGs} (h : PGs X ts t) (w : ∀ v σ H Q, t' v σ H Q → t v σ H Q) : PGs X ts t' := ⟨fun p s σ H v u Q I r q => h.run p s σ H v u Q I r (w v σ H Q q)⟩
theorem dg_name (i : Nat) {x : Str} (hN : X.N.Nodup) (hi : X.N[i]? = some x := by rfl) (hx : Loc X.env.scope x := by first | exact Or.inl rfl | exact Or.inr rfl) (hf : X.fn x = true ∨ X.env.scope.names.lookup x = some .local := by first | exact .inl rfl | exact .inr rfl) : DG X N (.Name x pos) (asName i) [i] :=
  PG.imp (pg_name (i := i) hN hi hx hf) fun v σ H Q ⟨F, A, δ, μ, d, δ', R, rv, hf, k⟩ => by
    cases hf
    exact k _ (by show (σ.set i (some v)).set i none = σ.set i none; rw [List.set_set]) (R.set (s := .p d) rv)
def tGds (N : En) (fs : List As) (ix : List Nat) : TGs := fun vs σ H Q => ∃ F A δ μ ds δ', Rl N F A H σ δ μ ∧ Reps N.K F vs ds ∧ asAll fs ds δ = some δ' ∧ ∀ σ', wipe σ' ix = wipe σ ix → Rl N F A H σ' δ' μ → Q σ' H
def DGs (X : Cx) (N : En) (ts : List Expr) (fs : List As) (ix : List Nat) : Prop := PGs X ts (tGds N fs ix)
theorem dgs_nil : DGs X N [] [] [] := PGs.imp pgs_nil fun vs σ H Q ⟨F, A, δ, μ, ds, δ', R, rv, hf, k⟩ => by
  cases rv with
  | nil => cases hf; exact ⟨rfl, k σ rfl R⟩
  | cons _ _ => cases hf
theorem dgs_cons {ts : List Expr} {f : As} {fs : List As} {ix jx : List Nat} (h : DG X N e f ix) (h' : DGs X N ts fs jx) (hs : (assignEach (e :: ts) X.env).map (·.2) = assign e X.env :: (assignEach ts X.env).map (·.2) := by rfl) : DGs X N (e :: ts) (f :: fs) (ix ++ jx) :=
  PGs.imp (pgs_cons h h' hs) fun vs σ H Q ⟨F, A, δ, μ, ds, δ', R, rv, hf, k⟩ => by
    cases rv with
    | nil => cases hf
    | @cons v d vs ds r1 r2 =>
      have hf' : (f d δ).bind (fun δ' => asAll fs ds δ') = some δ' := hf
      cases hfd : f d δ with
      | none => rw [hfd] at hf'; cases hf'
      | some δ1 =>
        rw [hfd] at hf'
        exact ⟨v, vs, rfl, F, A, δ, μ, d, δ1, R, r1, hfd, fun σ1 w1 R1 => ⟨F, A, δ1, μ, ds, δ', R1, r2, hf', fun σ2 w2 R2 => k σ2 (wipe_trans w1 w2) R2⟩⟩
theorem asAll_len : ∀ {fs : List As} {ds : List D} {δ δ' : List (Option S)}, asAll fs ds δ = some δ' → ds.length = fs.length
  | [], [], _, _, _ => rfl
  | [], _ :: _, _, _, h => by cases h
  | _ :: _, [], _, _, h => by cases h
  | f :: fs, d :: ds, δ, δ', h => by
    have hf' : (f d δ).bind (fun δ' => asAll fs ds δ') = some δ' := h
    cases hfd : f d δ with
    | none => rw [hfd] at hf'; cases hf'
    | some δ1 =>
      rw [hfd] at hf'
      rw [List.length_cons, List.length_cons, asAll_len hf']
theorem dg_tup {ts : List Expr} {kk : Nat} {fs : List As} {ix : List Nat} (h : DGs X N ts fs ix) (hK : N.K = X.K) (hc : X.calm = true) (hn : (assignEach ts X.env).length = fs.length := by rfl) (hst : (assignEach ts X.env).findIdx? (·.1) = none := by rfl) : DG X N (.Tuple ts kk pos) (asTup fs) ix :=
  PG.imp (pg_tup hc h hn hst) fun v σ H Q ⟨F, A, δ, μ, d, δ', R, rv, hf, k⟩ => by
    cases d with
    | tup ds =>
      obtain ⟨a, vs, rfl, h1, h2⟩ := rep_tup rv
      refine ⟨a, vs, rfl, ?_, ?_, F, A, δ, μ, ds, δ', R, h2, hf, k⟩
      · rw [← hK]; exact same_sqT R.rc.sub h1
      · rw [h2.length]; exact asAll_len hf
    | _ => cases hf
/-- target = e, by a target's rule -/
theorem ds_asg {f : As} {ix : List Nat} (h : DE X N W δ μ e (.v (.p d)) μ1) (hg : DG X N tg f ix) (hf : f d δ = some δ1) (hs : swapsWithSole [tg] e pos.line X.env = pure false := by rfl) (hw : swappedStores [tg] e X.env = pure none := by rfl)
    (h1 : (assignEach [tg] X.env).map (·.2) = [assign tg X.env] := by rfl) : DS X N W δ μ (.Assign [tg] e pos) (.nx δ1 μ1) :=
  PS.imp (ps_asg h hg hs hw h1) fun K σ H ⟨F, A, R, k⟩ => ⟨F, A, R, fun v F1 A1 H1 e1 p1 R1 rv => ⟨F1, A1, δ, μ1, d, δ1, R1, rv, hf, fun σ' _ R' => k σ' F1 A1 H1 e1 p1 R'⟩⟩
/-! ## for -/
theorem ds_for {body : List Stmt} {f : As} {ix : List Nat} {o : Os} (g : Go X N W n) (hi : DI X N W δ μ tg iter ds μ1) (hg : DG X N tg f ix) (hl : Loop X N W f body ds δ μ1 o) (hs : ∀ x, foldedSetIterable iter X.env x = pure x := by intro _; rfl) : DS X N W δ μ (.For tg iter body [] pos) o := by
  have hb : PSs X body (fun K σ H => ∃ δt μt o1, DSs X N W δt μt body o1 ∧ tDS N W δt μt o1 K σ H) := ⟨fun p s σ H K I ⟨δt, μt, o1, hd, q⟩ => hd.run p s σ H K I q⟩
  refine PS.imp (ps_for g.po g.calm hi hg hb hs) fun K σ H ⟨F, A, R, k⟩ => ⟨F, A, R, fun J F1 A1 H1 e1 p1 R1 y => ?_⟩
  have k1 := k.to e1 p1
  refine ⟨fun i m σ' H' => i ≤ ds.length ∧ m = ds.length - i ∧ ∃ F' A' δ' μ', Same F1 F' ∧ A1 <+: A' ∧ Rl N F' A' H' σ' δ' μ' ∧ Loop X N W f body (ds.drop i) δ' μ' o, ⟨ds.length, Nat.zero_le _, by simp, F1, A1, δ, μ1, Same.refl _, List.prefix_refl _, R1, by simpa using hl⟩, ?_⟩
  rintro i m σ' H' ⟨hi, rfl, F', A', δ', μ', e', p', R', hL⟩
  have k2 := k1.to e' p'
  by_cases hlt : i < ds.length
  · refine .inr ⟨y.goes i H' hlt (e'.trans R'.rc.sub), fun σ2 H2 => ∃ F2 A2 δ2 μ2, Same F1 F2 ∧ A1 <+: A2 ∧ Rl N F2 A2 H2 σ2 δ2 μ2 ∧ Loop X N W f body (ds.drop (i + 1)) δ2 μ2 o, fun σ2 H2 ⟨F2, A2, δ2, μ2, a, b, c, d⟩ => ⟨ds.length - (i + 1), by omega, hlt, rfl, F2, A2, δ2, μ2, a, b, c, d⟩, fun x H2 hy => ?_⟩
    obtain ⟨d, hd, it⟩ := (y.mono e').yields i H' x H2 hlt R'.rc.sub hy
    obtain ⟨F2, e2, R2, rx⟩ := R'.item it
    rw [List.drop_eq_getElem_cons hlt] at hL
    have hd' : ds[i] = d := by
      rw [List.getElem?_eq_getElem hlt] at hd
      exact Option.some.inj hd
    rw [hd'] at hL
    have k3 := k2.to e2 (List.prefix_refl _)
    cases hL with
    | next hf hb hL => exact ⟨F2, A', δ', μ', d, _, R2, rx, hf, fun σ3 _ R3 => ⟨_, _, _, hb, F2, A', R3, fun σ4 F4 A4 H4 e4 p4 R4 => ⟨F4, A4, _, _, (e'.trans e2).trans e4, p'.trans p4, R4, hL⟩⟩⟩
    | cont hf hb hL => exact ⟨F2, A', δ', μ', d, _, R2, rx, hf, fun σ3 _ R3 => ⟨_, _, _, hb, F2, A', R3, fun σ4 F4 A4 H4 e4 p4 R4 => ⟨F4, A4, _, _, (e'.trans e2).trans e4, p'.trans p4, R4, hL⟩⟩⟩
    | brk hf hb => exact ⟨F2, A', δ', μ', d, _, R2, rx, hf, fun σ3 _ R3 => ⟨_, _, _, hb, F2, A', R3, fun σ4 F4 A4 H4 e4 p4 R4 => k3 σ4 F4 A4 H4 e4 p4 R4⟩⟩
    | ret hf hb => exact ⟨F2, A', δ', μ', d, _, R2, rx, hf, fun σ3 _ R3 => ⟨_, _, _, hb, F2, A', R3, k3⟩⟩
    | exc hf hb => exact ⟨F2, A', δ', μ', d, _, R2, rx, hf, fun σ3 _ R3 => ⟨_, _, _, hb, F2, A', R3, k3⟩⟩
  · have e : i = ds.length := by omega
    subst e
    refine .inl ⟨y.stops H' (e'.trans R'.rc.sub), ?_⟩
    rw [List.drop_length] at hL
    cases hL
    exact k2 σ' F' A' H' (Same.refl _) (List.prefix_refl _) R'
end
end Dl
set_option Elab.async false
set_option linter.all false
set_option maxRecDepth 100000
set_option maxHeartbeats 4000000
set_option autoImplicit false
namespace Dl
open PySem PySem.Spec PyProof.Rows L2
/-- an object that is neither frozen nor told is changed -/
theorem Rc.poke {N : En} {F : Hp} {A : List Addr} {H : Hp} {μ : List M} (r : Rc N F A H μ) {p : Addr} (hF : F p = none) (hA : p ∉ A) (h0 : N.H0 p = none) (o : HO) : Rc N F A (upd H p o) μ where
  sub := fun b x e => by
    have hb : b ≠ p := fun z => by rw [z, hF] at e; cases e
    rw [upd_ne hb]; exact r.sub b x e
  base := r.base
  new := r.new
  keep := fun a x e hA => by
    have hb : a ≠ p := fun z => by rw [z, h0] at e; cases e
    rw [upd_ne hb]; exact r.keep a x e hA
  pre := r.pre
  nd := r.nd
  len := r.len
  mus := fun j a m h1 h2 => (r.mus j a m h1 h2).mono (Same.refl _) (List.prefix_refl _) (upd_ne (ne_mem hA h1))
  fr := r.fr
/-- .. is frozen -/
theorem Rc.adopt {N : En} {F : Hp} {A : List Addr} {H : Hp} {μ : List M} (r : Rc N F A H μ) {p : Addr} (hF : F p = none) (hA : p ∉ A) (h0 : N.H0 p = none) {o : HO} (ho : H p = some o) : Rc N (upd F p o) A H μ where
  sub := fun b x e => by
    by_cases hb : b = p
    · subst hb; rw [upd_same] at e; cases e; exact ho
    · rw [upd_ne hb] at e; exact r.sub b x e
  base := r.base.trans (same_updN hF)
  new := fun a x e => by
    by_cases hb : a = p
    · subst hb; exact .inr h0
    · rw [upd_ne hb] at e; exact r.new a x e
  keep := r.keep
  pre := r.pre
  nd := r.nd
  len := r.len
  mus := fun j a m h1 h2 => (r.mus j a m h1 h2).mono (same_updN hF) (List.prefix_refl _) rfl
  fr := fun j a m h1 h2 h3 => by
    rw [upd_ne (ne_mem hA h1)]
    exact r.fr j a m h1 h2 h3
/-- .. is told as changing -/
theorem Rc.adoptM {N : En} {F : Hp} {A : List Addr} {H : Hp} {μ : List M} (r : Rc N F A H μ) {p : Addr} (hF : F p = none) (hA : p ∉ A) (h0 : N.H0 p = none) {m : M} (ok : MOk N.K F (A ++ [p]) H p m) : Rc N F (A ++ [p]) H (μ ++ [m]) where
  sub := r.sub
  base := r.base
  new := r.new
  keep := r.keep
  pre := by
    obtain ⟨B, rfl, hB⟩ := r.pre
    refine ⟨B ++ [p], List.append_assoc .., fun b hb => ?_⟩
    rcases List.mem_append.mp hb with hb | hb
    · exact hB b hb
    · rw [List.mem_singleton] at hb; subst hb; exact h0
  nd := List.nodup_append.mpr ⟨r.nd, by simp, fun a ha b hb => by
    rw [List.mem_singleton] at hb; subst hb
    intro z; subst z; exact hA ha⟩
  len := by simp [r.len]
  mus := fun j a m' h1 h2 => by
    by_cases hj : j < A.length
    · rw [List.getElem?_append_left hj] at h1
      rw [List.getElem?_append_left (by rw [← r.len]; exact hj)] at h2
      exact (r.mus j a m' h1 h2).mono (Same.refl _) (List.prefix_append _ _) rfl
    · rw [List.getElem?_append_right (by omega)] at h1
      rw [List.getElem?_append_right (by rw [← r.len]; omega), ← r.len] at h2
      have e : j - A.length = 0 := by
        have := (List.getElem?_eq_some_iff.mp h1).1
        simp at this; omega
      rw [e] at h1 h2
      simp at h1 h2
      subst h1 h2
      exact ok
  fr := fun j a m' h1 h2 h3 => by
    by_cases hj : j < A.length
    · rw [List.getElem?_append_left hj] at h1
      rw [List.getElem?_append_left (by rw [← r.len]; exact hj)] at h2
      exact r.fr j a m' h1 h2 h3
    · rw [List.getElem?_append_right (by omega)] at h1
      have e : j - A.length = 0 := by
        have := (List.getElem?_eq_some_iff.mp h1).1
        simp at this; omega
      rw [e] at h1
      simp at h1
      subst h1
      exact hF
def wipeD (δ : List (Option S)) : List Nat → List (Option S)
  | [] => δ
  | v :: vs => (wipeD δ vs).set v none
theorem wipeD_len (δ : List (Option S)) : ∀ vs : List Nat, (wipeD δ vs).length = δ.length
  | [] => rfl
  | v :: vs => by unfold wipeD; rw [List.length_set, wipeD_len δ vs]
theorem wipeD_some {δ : List (Option S)} {i : Nat} {x : S} : ∀ {vs : List Nat}, (wipeD δ vs)[i]? = some (some x) → δ[i]? = some (some x) ∧ i ∉ vs
  | [], h => ⟨h, by simp⟩
  | v :: vs, h => by
    unfold wipeD at h
    by_cases hi : v = i
    · subst hi
      by_cases hv : v < (wipeD δ vs).length
      · rw [List.getElem?_set_self hv] at h; cases h
      · rw [List.getElem?_eq_none (by simpa using hv)] at h; cases h
    · rw [List.getElem?_set_ne hi] at h
      obtain ⟨h1, h2⟩ := wipeD_some h
      exact ⟨h1, by simp only [List.mem_cons, not_or]; exact ⟨fun e => hi e.symm, h2⟩⟩
theorem Rl.wiped {N : En} {F : Hp} {A : List Addr} {H : Hp} {σ : L2.St} {δ : List (Option S)} {μ : List M} (R : Rl N F A H σ δ μ) (vs : List Nat) : Rl N F A H (wipe σ vs) (wipeD δ vs) μ :=
  ⟨R.rc, by rw [wipeD_len, wipe_length]; exact R.len, fun i s h => by
    obtain ⟨h1, h2⟩ := wipeD_some h
    obtain ⟨v, h3, h4⟩ := R.sl i s h1
    refine ⟨v, ?_, h4⟩
    rw [wipe_get, if_neg h2]
    exact h3⟩
abbrev W0 : WX := fun _ _ _ _ => False
abbrev blkX (X : Cx) (scope : Scope) (s : Shared) (H : Hp) (C : Addr) (cl : List (Str × Addr)) (fp : List Addr) : Cx := X.blk s H scope (compEnvC scope cl C X.env) fp
theorem takes00 {X : Cx} : Takes X W0 := fun _ _ x => by
  obtain ⟨_, _, _, _, _, _, _, _, _, _, _, _, _, _, _, _, z⟩ := x
  exact z.elim
theorem Go.blk {X : Cx} {N N' : En} {W : WX} {n : Nat} {scope : Scope} {s : Shared} {H : Hp} {C : Addr} {cl : List (Str × Addr)} {fp : List Addr} (g : Go X N W n) (h : N'.K = N.K) : Go (blkX X scope s H C cl fp) N' W0 n :=
  ⟨takes00, g.calm, h.trans g.hK, g.room, PassesOwn.never, g.nd⟩
inductive CmpL (P : List (Option S) → List M → Option D → List M → Prop) (f : As) (δ : List (Option S)) : List D → List M → List D → List M → Prop
  | nil {μ} : CmpL P f δ [] μ [] μ
  | keep {d ds δt μ y μ1 ys μ2} : f d δ = some δt → P δt μ (some y) μ1 → CmpL P f δ ds μ1 ys μ2 → CmpL P f δ (d :: ds) μ (y :: ys) μ2
  | drop {d ds δt μ μ1 ys μ2} : f d δ = some δt → P δt μ none μ1 → CmpL P f δ ds μ1 ys μ2 → CmpL P f δ (d :: ds) μ ys μ2
theorem CmpL.len {P : List (Option S) → List M → Option D → List M → Prop} {f : As} {δ : List (Option S)} {ds ys : List D} {μ μ' : List M} (h : CmpL P f δ ds μ ys μ') : ys.length ≤ ds.length := by
  induction h with
  | nil => exact Nat.le_refl _
  | keep _ _ _ ih => exact Nat.succ_le_succ ih
  | drop _ _ _ ih => exact Nat.le_succ_of_le ih
section
variable {X : Cx} {N : En} {W : WX} {n : Nat} {δ δ' δ1 δ2 : List (Option S)} {μ μ' μ1 μ2 μ3 : List M} {elt tg iter : Expr} {ifs : List Expr} {pos : Pos} {ds ys : List D} {scope : Scope} {own : List (Str × Nat)} {f : As} {ix : List Nat}
theorem lc_go {J : It} {F1 : Hp} {A1 : List Addr} {H1 : Hp} {σ : L2.St} {tt : TT} {te : TE} {D0 : Addr} {Qd : Hp → Prop} (hds : ds.length < sizeLine) (R1 : Rl N F1 A1 H1 σ δ μ1) (y : Yl N.K J F1 ds) (hD : H1 D0 = none) (hix : ∀ i ∈ ix, i ∈ own.map (·.2))
    (P : List (Option S) → List M → Option D → List M → Prop) (hl : CmpL P f (wipeD δ (own.map (·.2))) ds μ1 ys μ2)
    (hP : ∀ (N' : En) F A σ2 H2 δt μt r μu (Q : Option V → Hp → Prop), N'.K = N.K → Rl N' F A H2 σ2 δt μt → P δt μt r μu →
      (∀ v F' A' H', Same F F' → A <+: A' → Rl N' F' A' H' σ2 δt μu → (match r, v with | some y, some v => Rep N.K F' v y | none, none => True | _, _ => False) → Q v H') →
      tt σ2 H2 fun b H3 => if b = true then te σ2 H3 fun v H4 => Q (some v) H4 else Q none H3)
    (hq : ∀ F' A' H' vs, Same F1 F' → A1 <+: A' → Rc N F' A' H' μ2 → H' D0 = some (.lst vs) → F' D0 = none → D0 ∉ A' → Reps N.K F' vs ys → Qd H') :
    ∃ Wt : Nat → Nat → Hp → Prop, (∃ m, Wt 0 m (upd H1 D0 (.lst []))) ∧ ∀ i m H, Wt i m H →
      (J.stop i H ∧ Qd H) ∨ (J.go i H ∧ ∃ Nx : Hp → Prop, (∀ H', Nx H' → ∃ m', m' < m ∧ Wt (i + 1) m' H') ∧ ∀ x H', J.yld i H x H' → tGd N f ix x (wipe σ (own.map (·.2))) H' fun σ2 H2 => wipe σ2 (own.map (·.2)) = wipe σ (own.map (·.2)) ∧ tt σ2 H2 fun b H3 =>
        if b = true then te σ2 H3 fun y H4 => ∃ acc, H4 D0 = some (.lst acc) ∧ acc.length < sizeLine ∧ Nx (upd H4 D0 (.lst (acc ++ [y]))) else Nx H3) := by
  have h0 := R1.rc.fresh hD
  refine ⟨fun i m H => i ≤ ds.length ∧ m = ds.length - i ∧ ∃ F A μ vs acc rest, Same F1 F ∧ A1 <+: A ∧ Rc N F A H μ ∧ H D0 = some (.lst vs) ∧ F D0 = none ∧ D0 ∉ A ∧ Reps N.K F vs acc ∧ vs.length ≤ i ∧ CmpL P f (wipeD δ (own.map (·.2))) (ds.drop i) μ rest μ2 ∧ acc ++ rest = ys,
    ⟨ds.length, Nat.zero_le _, by simp, F1, A1, μ1, [], [], ys, Same.refl _, List.prefix_refl _, R1.rc.junk hD _, upd_same, h0.2.1, h0.2.2, .nil, Nat.le_refl _, by simpa using hl, rfl⟩, ?_⟩
  rintro i m H ⟨hi, rfl, F, A, μ, vs, acc, rest, e, p, R, hv, hF, hA, hr, hvl, hL, hy⟩
  by_cases hlt : i < ds.length
  · refine .inr ⟨y.goes i H hlt (e.trans R.sub), fun H' => ∃ F A μ vs acc rest, Same F1 F ∧ A1 <+: A ∧ Rc N F A H' μ ∧ H' D0 = some (.lst vs) ∧ F D0 = none ∧ D0 ∉ A ∧ Reps N.K F vs acc ∧ vs.length ≤ i + 1 ∧ CmpL P f (wipeD δ (own.map (·.2))) (ds.drop (i + 1)) μ rest μ2 ∧ acc ++ rest = ys,
      fun H' ⟨F, A, μ, vs, acc, rest, a⟩ => ⟨ds.length - (i + 1), by omega, hlt, rfl, F, A, μ, vs, acc, rest, a⟩, fun x H' hyd => ?_⟩
    obtain ⟨d, hd, it⟩ := (y.mono e).yields i H x H' hlt R.sub hyd
    have Rf : Rl N F A H σ δ μ := R1.to e p R
    have hH' : H' D0 = some (.lst vs) := by
      rcases it with ⟨rfl, _⟩ | ⟨T, ws, es, _, nT, rfl, _, _⟩
      · exact hv
      · rw [upd_ne (ne_of_none hv nT)]; exact hv
    have hF2 : ∀ F2, Rl N F2 A H' σ δ μ → True := fun _ _ => trivial
    obtain ⟨F2, e2, R2, rx, hF20⟩ : ∃ F', Same F F' ∧ Rl N F' A H' σ δ μ ∧ Rep N.K F' x d ∧ F' D0 = none := by
      rcases it with ⟨rfl, r⟩ | ⟨T, ws, es, rfl, nT, rfl, rfl, r⟩
      · exact ⟨F, Same.refl _, Rf, r, hF⟩
      · have sm := same_updN (o := .tup ws) (R.fresh nT).2.1
        exact ⟨_, sm, Rf.to sm (List.prefix_refl _) (R.frozen nT _), .tup (SqT.of upd_same) (r.mono sm), by rw [upd_ne (ne_of_none hv nT)]; exact hF⟩
    rw [List.drop_eq_getElem_cons hlt] at hL
    have hd' : ds[i] = d := by
      rw [List.getElem?_eq_getElem hlt] at hd
      exact Option.some.inj hd
    rw [hd'] at hL
    -- one element
    have key : ∀ (σ2 : L2.St) (δt : List (Option S)) (r : Option D) (μu : List M) (rest' : List D), Rl N F2 A H' σ2 δt μ → P δt μ r μu → CmpL P f (wipeD δ (own.map (·.2))) (ds.drop (i + 1)) μu rest' μ2 →
        (match r with | some y => acc ++ y :: rest' = ys | none => acc ++ rest' = ys) →
        tt σ2 H' fun b H3 => if b = true then te σ2 H3 fun y H4 => ∃ acc, H4 D0 = some (.lst acc) ∧ acc.length < sizeLine ∧ (∃ F A μ vs acc' rest, Same F1 F ∧ A1 <+: A ∧ Rc N F A (upd H4 D0 (.lst (acc ++ [y]))) μ ∧ (upd H4 D0 (.lst (acc ++ [y]))) D0 = some (.lst vs) ∧ F D0 = none ∧ D0 ∉ A ∧ Reps N.K F vs acc' ∧ vs.length ≤ i + 1 ∧ CmpL P f (wipeD δ (own.map (·.2))) (ds.drop (i + 1)) μ rest μ2 ∧ acc' ++ rest = ys)
          else ∃ F A μ vs acc rest, Same F1 F ∧ A1 <+: A ∧ Rc N F A H3 μ ∧ H3 D0 = some (.lst vs) ∧ F D0 = none ∧ D0 ∉ A ∧ Reps N.K F vs acc ∧ vs.length ≤ i + 1 ∧ CmpL P f (wipeD δ (own.map (·.2))) (ds.drop (i + 1)) μ rest μ2 ∧ acc ++ rest = ys := by
      intro σ2 δt r μu rest' R3 hPr hL' hys
      have R3' : Rl ⟨N.K, H', F2, A⟩ F2 A H' σ2 δt μ := ⟨R3.rc.entry, R3.len, R3.sl⟩
      refine hP ⟨N.K, H', F2, A⟩ F2 A σ2 H' δt μ r μu (fun v H4 => match v with
          | some v => ∃ acc, H4 D0 = some (.lst acc) ∧ acc.length < sizeLine ∧ (∃ F A μ vs acc' rest, Same F1 F ∧ A1 <+: A ∧ Rc N F A (upd H4 D0 (.lst (acc ++ [v]))) μ ∧ (upd H4 D0 (.lst (acc ++ [v]))) D0 = some (.lst vs) ∧ F D0 = none ∧ D0 ∉ A ∧ Reps N.K F vs acc' ∧ vs.length ≤ i + 1 ∧ CmpL P f (wipeD δ (own.map (·.2))) (ds.drop (i + 1)) μ rest μ2 ∧ acc' ++ rest = ys)
          | none => ∃ F A μ vs acc rest, Same F1 F ∧ A1 <+: A ∧ Rc N F A H4 μ ∧ H4 D0 = some (.lst vs) ∧ F D0 = none ∧ D0 ∉ A ∧ Reps N.K F vs acc ∧ vs.length ≤ i + 1 ∧ CmpL P f (wipeD δ (own.map (·.2))) (ds.drop (i + 1)) μ rest μ2 ∧ acc ++ rest = ys) rfl R3' hPr fun v F4 A4 H4 e4 p4 R4 rv => ?_
      have b4 : Rc N F4 A4 H4 μu := R3.rc.back R4.rc
      have k4 : H4 D0 = some (.lst vs) := R4.rc.keep D0 _ hH' hA
      have f4 : F4 D0 = none := by
        cases q : F4 D0 with
        | none => rfl
        | some o =>
          rcases R4.rc.new D0 o q with ⟨o', z⟩ | z
          · have z' : F2 D0 = some o' := z
            rw [hF20] at z'; cases z'
          · have z' : H' D0 = none := z
            rw [hH'] at z'; cases z'
      have a4 : D0 ∉ A4 := fun hm => by
        obtain ⟨B, eB, hB⟩ := R4.rc.pre
        rw [eB] at hm
        rcases List.mem_append.mp hm with z | z
        · exact hA z
        · have z' : H' D0 = none := hB _ z
          rw [hH'] at z'; cases z'
      have s4 : Same F1 F4 := (e.trans e2).trans e4
      have p4' : A1 <+: A4 := p.trans p4
      cases r with
      | some yv =>
        cases v with
        | some v =>
          refine ⟨vs, k4, by omega, F4, A4, μu, vs ++ [v], acc ++ [yv], rest', s4, p4', b4.poke f4 a4 h0.1 _, upd_same, f4, a4, ((hr.mono (e2.trans e4))).snoc rv, by simp; omega, hL', ?_⟩
          rw [List.append_assoc]
          exact hys
        | none => exact rv.elim
      | none =>
        cases v with
        | some v => exact rv.elim
        | none => exact ⟨F4, A4, μu, vs, acc, rest', s4, p4', b4, k4, f4, a4, hr.mono (e2.trans e4), by omega, hL', hys⟩
    have Rw := R2.wiped (own.map (·.2))
    cases hL with
    | keep hf hb hL' => exact ⟨F2, A, _, μ, d, _, Rw, rx, hf, fun σ2 w2 R3 => ⟨(wipe_sub hix w2).trans (by
        apply List.ext_getElem?
        intro j
        rw [wipe_get, wipe_get]
        by_cases hj : j ∈ own.map (·.2)
        · rw [if_pos hj, if_pos hj]; cases σ[j]? <;> rfl
        · rw [if_neg hj, if_neg hj]), key σ2 _ (some _) _ _ R3 hb hL' hy⟩⟩
    | drop hf hb hL' => exact ⟨F2, A, _, μ, d, _, Rw, rx, hf, fun σ2 w2 R3 => ⟨(wipe_sub hix w2).trans (by
        apply List.ext_getElem?
        intro j
        rw [wipe_get, wipe_get]
        by_cases hj : j ∈ own.map (·.2)
        · rw [if_pos hj, if_pos hj]; cases σ[j]? <;> rfl
        · rw [if_neg hj, if_neg hj]), key σ2 _ none _ _ R3 hb hL' hy⟩⟩
  · have hi' : i = ds.length := by omega
    subst hi'
    refine .inl ⟨y.stops H (e.trans R.sub), ?_⟩
    rw [List.drop_length] at hL
    cases hL
    rw [List.append_nil] at hy
    subst hy
    exact hq F A H vs e p R hv hF hA hr
end
end Dl
set_option Elab.async false
set_option linter.all false
set_option maxRecDepth 100000
set_option maxHeartbeats 4000000
set_option autoImplicit false
namespace Dl
open PySem PySem.Spec PyProof.Rows L2
section
variable {X : Cx} {N : En} {W : WX} {n : Nat} {δ δ' δ1 δ2 : List (Option S)} {μ μ' μ1 μ2 μ3 : List M} {elt tg iter c : Expr} {ifs : List Expr} {pos : Pos} {ds ys : List D} {scope : Scope} {own : List (Str × Nat)} {f : As} {ix : List Nat}
/-- in every block -/
abbrev DEB (X : Cx) (K : PySem.W.Frag) (n : Nat) (scope : Scope) (elt : Expr) (δ : List (Option S)) (μ : List M) (y : D) (μ1 : List M) : Prop :=
  ∀ s H C cl fp N', N'.K = K → Go (blkX X scope s H C cl fp) N' W0 n → DE (blkX X scope s H C cl fp) N' W0 δ μ elt (.v (.p y)) μ1
abbrev DTB (X : Cx) (K : PySem.W.Frag) (n : Nat) (scope : Scope) (c : Expr) (δ : List (Option S)) (μ : List M) (b : Bool) (μ1 : List M) : Prop :=
  ∀ s H C cl fp N', N'.K = K → Go (blkX X scope s H C cl fp) N' W0 n → DT (blkX X scope s H C cl fp) N' W0 δ μ c b μ1
def teB (X : Cx) (K : PySem.W.Frag) (n : Nat) (scope : Scope) (elt : Expr) : TE := fun σ H Q => ∃ (N' : En) (F : Hp) (A : List Addr) (δt : List (Option S)) (μt : List M) (y : D) (μu : List M), N'.K = K ∧ Rl N' F A H σ δt μt ∧ DEB X K n scope elt δt μt y μu ∧
  ∀ v F' A' H', Same F F' → A <+: A' → Rl N' F' A' H' σ δt μu → Rep K F' v y → Q v H'
def ttB (X : Cx) (K : PySem.W.Frag) (n : Nat) (scope : Scope) (c : Expr) : TT := fun σ H Q => ∃ (N' : En) (F : Hp) (A : List Addr) (δt : List (Option S)) (μt : List M) (b : Bool) (μu : List M), N'.K = K ∧ Rl N' F A H σ δt μt ∧ DTB X K n scope c δt μt b μu ∧
  ∀ F' A' H', Same F F' → A <+: A' → Rl N' F' A' H' σ δt μu → Q b H'
theorem pe_teB (g : Go X N W n) {s : Shared} {H : Hp} {C : Addr} {cl : List (Str × Addr)} {fp : List Addr} : PE (blkX X scope s H C cl fp) elt (teB X N.K n scope elt) :=
  ⟨fun pins s σ H Q I ⟨N', F, A, δt, μt, y, μu, hK, R, hd, k⟩ => (hd _ _ _ _ _ N' hK (g.blk hK)).run pins s σ H Q I ⟨F, A, R, fun v F' A' H' a b c d => k v F' A' H' a b c (by rw [← hK]; exact d)⟩⟩
theorem pt_ttB (g : Go X N W n) {s : Shared} {H : Hp} {C : Addr} {cl : List (Str × Addr)} {fp : List Addr} : PT (blkX X scope s H C cl fp) c (ttB X N.K n scope c) :=
  ⟨fun pins s σ H Q I ⟨N', F, A, δt, μt, y, μu, hK, R, hd, k⟩ => (hd _ _ _ _ _ N' hK (g.blk hK)).run pins s σ H Q I ⟨F, A, R, k⟩⟩
/-- an element without a test -/
def El0 (X : Cx) (K : PySem.W.Frag) (n : Nat) (scope : Scope) (elt : Expr) : List (Option S) → List M → Option D → List M → Prop := fun δt μt r μu => ∃ y, r = some y ∧ DEB X K n scope elt δt μt y μu
/-- an element with one -/
def El1 (X : Cx) (K : PySem.W.Frag) (n : Nat) (scope : Scope) (c elt : Expr) : List (Option S) → List M → Option D → List M → Prop := fun δt μt r μu => ∃ μ', DTB X K n scope c δt μt r.isSome μ' ∧
  match r with
  | some y => DEB X K n scope elt δt μ' y μu
  | none => μu = μ'
theorem lc_read (g : Go X N W n) (P : List (Option S) → List M → Option D → List M → Prop) {tt : TT} {te : TE} (hds : ds.length < sizeLine) (hix : ∀ i ∈ ix, i ∈ own.map (·.2)) (hl : CmpL P f (wipeD δ (own.map (·.2))) ds μ1 ys μ2)
    (hP : ∀ (N' : En) F A σ2 H2 δt μt r μu (Q : Option V → Hp → Prop), N'.K = N.K → Rl N' F A H2 σ2 δt μt → P δt μt r μu →
      (∀ v F' A' H', Same F F' → A <+: A' → Rl N' F' A' H' σ2 δt μu → (match r, v with | some y, some v => Rep N.K F' v y | none, none => True | _, _ => False) → Q v H') →
      tt σ2 H2 fun b H3 => if b = true then te σ2 H3 fun v H4 => Q (some v) H4 else Q none H3)
    {σ : L2.St} {H : Hp} {Q : VK} {F : Hp} {A : List Addr} (R : Rl N F A H σ δ μ)
    (hq : ∀ D0 F' A' H' vs, Same F F' → A <+: A' → Rc N F' A' H' μ2 → H' D0 = some (.lst vs) → F' D0 = none → D0 ∉ A' → N.H0 D0 = none → Reps N.K F' vs ys → Q (.ref D0) H') :
    tLc (tI N W δ μ ds μ1) (tGd N f ix) tt te (own.map (·.2)) σ H Q :=
  ⟨F, A, R, fun J F1 A1 H1 e1 p1 R1 y D0 hD => lc_go hds R1 y hD hix P hl hP fun F' A' H' vs e p r a b c d => hq D0 F' A' H' vs (e1.trans e) (p1.trans p) r a b c (R1.rc.fresh hD).1 d⟩
theorem hP0 (g : Go X N W n) : ∀ (N' : En) F A σ2 H2 δt μt r μu (Q : Option V → Hp → Prop), N'.K = N.K → Rl N' F A H2 σ2 δt μt → El0 X N.K n scope elt δt μt r μu →
      (∀ v F' A' H', Same F F' → A <+: A' → Rl N' F' A' H' σ2 δt μu → (match r, v with | some y, some v => Rep N.K F' v y | none, none => True | _, _ => False) → Q v H') →
      tYes σ2 H2 fun b H3 => if b = true then teB X N.K n scope elt σ2 H3 fun v H4 => Q (some v) H4 else Q none H3 := by
  intro N' F A σ2 H2 δt μt r μu Q hK R ⟨y, e, hd⟩ k
  subst e
  show if true = true then teB X N.K n scope elt σ2 H2 (fun v H4 => Q (some v) H4) else Q none H2
  exact iteT ⟨N', F, A, δt, μt, y, μu, hK, R, hd, fun v F' A' H' a b c d => k (some v) F' A' H' a b c d⟩
theorem hP1 (g : Go X N W n) : ∀ (N' : En) F A σ2 H2 δt μt r μu (Q : Option V → Hp → Prop), N'.K = N.K → Rl N' F A H2 σ2 δt μt → El1 X N.K n scope c elt δt μt r μu →
      (∀ v F' A' H', Same F F' → A <+: A' → Rl N' F' A' H' σ2 δt μu → (match r, v with | some y, some v => Rep N.K F' v y | none, none => True | _, _ => False) → Q v H') →
      ttB X N.K n scope c σ2 H2 fun b H3 => if b = true then teB X N.K n scope elt σ2 H3 fun v H4 => Q (some v) H4 else Q none H3 := by
  intro N' F A σ2 H2 δt μt r μu Q hK R ⟨μ', ht, hd⟩ k
  refine ⟨N', F, A, δt, μt, r.isSome, μ', hK, R, ht, fun F1 A1 H1 e1 p1 R1 => ?_⟩
  cases r with
  | some y => exact iteT ⟨N', F1, A1, δt, μ', y, μu, hK, R1, hd, fun v F' A' H' a b c d => k (some v) F' A' H' (e1.trans a) (p1.trans b) c d⟩
  | none =>
    have e : μu = μ' := hd
    subst e
    exact iteF (k none F1 A1 H1 e1 p1 R1 trivial)
/-- the new list is frozen -/
theorem lc_frz {σ : L2.St} {F : Hp} {A : List Addr} {H : Hp} {Q : VK} (R : Rl N F A H σ δ μ) (k : EndE N W σ δ F A μ2 Q (.v (.p (.lst ys)))) :
    ∀ D0 F' A' H' vs, Same F F' → A <+: A' → Rc N F' A' H' μ2 → H' D0 = some (.lst vs) → F' D0 = none → D0 ∉ A' → N.H0 D0 = none → Reps N.K F' vs ys → Q (.ref D0) H' := by
  intro D0 F' A' H' vs e p r a b c h0 d
  have sm := same_updN (o := .lst vs) b
  exact k (.ref D0) _ A' H' (e.trans sm) p (R.to (e.trans sm) p (r.adopt b c h0 a)) (.lst upd_same (d.mono sm))
/-- .. or goes on changing -/
theorem lc_mut {σ : L2.St} {F : Hp} {A : List Addr} {H : Hp} {Q : VK} (R : Rl N F A H σ δ μ) (k : EndE N W σ δ F A (μ2 ++ [.lst ys]) Q (.v (.l μ2.length))) :
    ∀ D0 F' A' H' vs, Same F F' → A <+: A' → Rc N F' A' H' μ2 → H' D0 = some (.lst vs) → F' D0 = none → D0 ∉ A' → N.H0 D0 = none → Reps N.K F' vs ys → Q (.ref D0) H' := by
  intro D0 F' A' H' vs e p r a b c h0 d
  have pp : A' <+: A' ++ [D0] := List.prefix_append _ _
  refine k (.ref D0) F' (A' ++ [D0]) H' e (p.trans pp) (R.to e (p.trans pp) (r.adoptM b c h0 ⟨vs, a, d⟩)) ⟨D0, rfl, ?_⟩
  rw [← r.len]; simp
theorem de_lc (g : Go X N W n) (own : List (Str × Nat)) (hi : DI X N W δ μ tg iter ds μ1) (hg : ∀ s H C cl fp, DG (blkX X scope s H C cl fp) N tg f ix) (hl : CmpL (El0 X N.K n scope elt) f (wipeD δ (own.map (·.2))) ds μ1 ys μ2)
    (ok : BlkOk X.N X.env.scope scope own := by exact blkOk_by (by decide +kernel)) (hds : ds.length < sizeLine := by first | (show _ < sizeLine; decide) | (simp; decide)) (hix : ∀ i ∈ ix, i ∈ own.map (·.2) := by decide) (hs : ∀ x, foldedSetIterable iter X.env x = pure x := by intro _; rfl) :
    DE X N W δ μ (.ListComp elt [⟨tg, iter, [], 0⟩] scope pos) (.v (.p (.lst ys))) μ2 :=
  PE.imp (pe_lc (own := own) g.calm g.nd hi ok hg (fun _ _ _ _ _ => pts_nil) (fun s H C cl fp => pe_teB g) hs) fun σ H Q ⟨F, A, R, k⟩ => lc_read g _ hds hix hl (hP0 g) R (lc_frz (W := W) R k)
theorem de_lcIf (g : Go X N W n) (own : List (Str × Nat)) (hi : DI X N W δ μ tg iter ds μ1) (hg : ∀ s H C cl fp, DG (blkX X scope s H C cl fp) N tg f ix) (hl : CmpL (El1 X N.K n scope c elt) f (wipeD δ (own.map (·.2))) ds μ1 ys μ2)
    (ok : BlkOk X.N X.env.scope scope own := by exact blkOk_by (by decide +kernel)) (hds : ds.length < sizeLine := by first | (show _ < sizeLine; decide) | (simp; decide)) (hix : ∀ i ∈ ix, i ∈ own.map (·.2) := by decide) (hs : ∀ x, foldedSetIterable iter X.env x = pure x := by intro _; rfl) :
    DE X N W δ μ (.ListComp elt [⟨tg, iter, [c], 0⟩] scope pos) (.v (.p (.lst ys))) μ2 :=
  PE.imp (pe_lc (own := own) g.calm g.nd hi ok hg (fun _ _ _ _ _ => pts_one (pt_ttB g)) (fun s H C cl fp => pe_teB g) hs) fun σ H Q ⟨F, A, R, k⟩ => lc_read g _ hds hix hl (hP1 g) R (lc_frz (W := W) R k)
end
end Dl
set_option Elab.async false
set_option linter.all false
set_option maxRecDepth 100000
set_option maxHeartbeats 4000000
set_option autoImplicit false
namespace Dl
open PySem PySem.Spec PyProof.Rows L2
/-! ### what type a datum has -/
/-- the type of a value -/
inductive TyD (K : PySem.W.Frag) : D → Value → Prop
  | non : TyD K .non (.type "NoneType")
  | bl (b) : TyD K (.bl b) (.type "bool")
  | int (i) : TyD K (.int i) (.type "int")
  | str (z) : TyD K (.str z) (.type "str")
  | tup (ds) : TyD K (.tup ds) (.type "tuple")
  | lst (ds) : TyD K (.lst ds) (.type "list")
  | dic (ks ds) : TyD K (.dic ks ds) (.type "dict")
  | ins (C ns ds) : TyD K (.ins C ns ds) (.ref C)
section
variable {X : Cx} {N : En} {W : WX} {n : Nat} {δ δ' δ1 δ2 : List (Option S)} {μ μ' μ1 μ2 μ3 : List M} {e a b c o : Expr} {es : List Expr} {ss : List S} {pos p apos : Pos} {d : D} {s s1 s2 : S} {r : Rx} {R : Rel} {k : Nat} {x m f : Str} {dd : List D} {C : Addr}
/-- two expressions, then what is done with both -/
theorem two_then {σ : L2.St} {H : Hp} {pins : List (Addr × Obj)} {sh : Shared} {F : Hp} {A : List Addr} {α : Type} {Q : α → Shared → Prop} {fn : Value → Value → Sem α} (ha : DE X N W δ μ a (.v s1) μ1) (hb : DE X N W δ μ1 b (.v s2) μ2) (I : Inv X pins σ H sh) (R0 : Rl N F A H σ δ μ)
    (h : ∀ v u s3 x y H2 F2 A2, Inv X pins σ H2 s3 → RelV x v → RelV y u → Same F F2 → A <+: A2 → Rl N F2 A2 H2 σ δ μ2 → RepS N.K F2 A2 x s1 → RepS N.K F2 A2 y s2 → wpAny (model X.prog X.w) X.A (fn v u) Q X.xe s3) :
    wpAny (model X.prog X.w) X.A (eval a X.env) (fun v s₁ => wpAny (model X.prog X.w) X.A (eval b X.env) (fun u s₂ => wpAny (model X.prog X.w) X.A (fn v u) Q X.xe s₂) X.xe s₁) X.xe sh :=
  bin ha hb (R := fun x y H2 => ∃ F2 A2, Same F F2 ∧ A <+: A2 ∧ Rl N F2 A2 H2 σ δ μ2 ∧ RepS N.K F2 A2 x s1 ∧ RepS N.K F2 A2 y s2) I
    ⟨F, A, R0, fun x F1 A1 H1 e1 p1 R1 rx => ⟨F1, A1, R1, fun y F2 A2 H2 e2 p2 R2 ry => ⟨F2, A2, e1.trans e2, p1.trans p2, R2, rx.mono e2 p2, ry⟩⟩⟩
    fun v u s3 x y H2 I2 rx ry ⟨F2, A2, e2, p2, R2, h1, h2⟩ => h v u s3 x y H2 F2 A2 I2 rx ry e2 p2 R2 h1 h2
theorem inst_at {pins : List (Addr × Obj)} {σ : L2.St} {H : Hp} {sh : Shared} {a C dx : Addr} {fs : List (Str × V)} (I : Inv X pins σ H sh) (e : H a = some (.ins C dx fs)) : ∃ od, PySem.W.InstAt sh.heap a (PySem.W.instObj C dx) C (some od) := by
  obtain ⟨mA, O, _⟩ := ins_get I.hok e
  obtain ⟨od, h, _⟩ := O.look
  exact ⟨od, h⟩
theorem back_of {pins : List (Addr × Obj)} {σ : L2.St} {Q : VK} {u : Value} {sh : Shared} (h : EP X pins σ Q u sh) : PySem.W.CmpBack (EP X pins σ Q) u sh := by
  obtain ⟨v, H', I, r, q⟩ := h
  cases v with
  | non => cases r; exact ⟨.non, H', I, rfl, q⟩
  | bl b => cases r; exact ⟨.bl b, H', I, rfl, q⟩
  | int i => obtain ⟨t, rfl⟩ := r; exact ⟨.int i, H', I, ⟨t, rfl⟩, q⟩
  | str i => obtain ⟨t, rfl⟩ := r; exact ⟨.str i, H', I, ⟨t, rfl⟩, q⟩
  | byt i => obtain ⟨t, rfl⟩ := r; exact ⟨.byt i, H', I, ⟨t, rfl⟩, q⟩
  | flt i => obtain ⟨t, rfl⟩ := r; exact ⟨.flt i, H', I, ⟨t, rfl⟩, q⟩
  | ref i => cases r; exact ⟨.ref i, H', I, rfl, q⟩
  | ty i => cases r; exact ⟨.ty i, H', I, rfl, q⟩
/-- a op b, both of the class at C, by its own method -/
theorem de_binOwn {op : Operator} {ns ms : List Str} {d1 d2 : List D} (g : Go X N W n) (cm : Cm X.prog X.w X.K X.mg X.base k C (PySem.dunder op.info.2) [] R) (sf : PySem.W.selfFirst X.K C = true)
    (ha : DE X N W δ μ a (.v (.p (.ins C ns d1))) μ1) (hb : DE X N W δ μ1 b (.v (.p (.ins C ms d2))) μ2) (hR : R [.p (.ins C ns d1), .p (.ins C ms d2)] μ2 r μ3) (hk : k ≤ n := by decide) : DE X N W δ μ (.BinOp a op b pos) r μ3 := by
  obtain ⟨f, fd, ps, ds, dvs, Fo, hme, hbi, hd, rd⟩ := cm.ex
  refine ⟨fun pins s σ H Q I ⟨F, A, R0, q⟩ => wpAny_BinOp (two_then ha hb I R0 fun v u s3 x y H2 F2 A2 I2 rx ry e2 p2 R2 h1 h2 => ?_)⟩
  obtain ⟨a1, dx1, fs1, rfl, g1, g2, g3⟩ := rep_ins h1
  obtain ⟨a2, dx2, fs2, rfl, g4, g5, g6⟩ := rep_ins h2
  cases rx
  cases ry
  obtain ⟨od1, J1⟩ := inst_at I2 (R2.rc.sub _ _ g1)
  obtain ⟨od2, J2⟩ := inst_at I2 (R2.rc.sub _ _ g4)
  obtain ⟨m', Fr'⟩ := I2.fr
  refine PySem.W.binop_K Fr' I2.mod.kin J1 J2.type sf hme.at_ hme.fn ?_
  exact wpAny_mono (call_fnD (us := [.ref a1, .ref a2]) (vs := [.ref a1, .ref a2]) (ss := [.p (.ins C ns d1), .p (.ins C ms d2)]) g hk Fo hbi hd rd I2 R2 (.cons h1 (.cons h2 .nil)) (.cons rfl (.cons rfl .nil)) hR (q.to e2 p2)) (fun _ _ h => back_of h) fun _ _ h => h
theorem sqT_cls {pins : List (Addr × Obj)} {σ : L2.St} {H : Hp} {sh : Shared} {a : Addr} {vs : List V} (I : Inv X pins σ H sh) (h : SqT X.K H a vs) : ∃ ob, sh.heap.get? a = some ob ∧ ob.cls = .type "tuple" := by
  obtain ⟨its, _, ⟨o, h1, h2, _⟩, _⟩ := I.tuple h
  exact ⟨o, h1, h2⟩
theorem type_of {pins : List (Addr × Obj)} {σ : L2.St} {H F : Hp} {sh : Shared} {v : V} {u t : Value} (I : Inv X pins σ H sh) (sm : Same F H) (ty : TyD X.K d t) (rp : Rep X.K F v d) (ru : RelV v u) {M : Model} : PySem.W.Looks M sh.heap (typeOf u) t := by
  cases ty with
  | non => cases rp; cases ru; exact .of_pure rfl
  | bl b => cases rp; cases ru; exact .of_pure rfl
  | int i => cases rp; obtain ⟨t, rfl⟩ := ru; exact .of_pure rfl
  | str i => cases rp; obtain ⟨t, rfl⟩ := ru; exact .of_pure rfl
  | tup ds =>
    obtain ⟨a, vs, rfl, h1, _⟩ := rep_tup rp
    cases ru
    obtain ⟨ob, h2, h3⟩ := sqT_cls I (same_sqT sm h1)
    exact fun A Q E s k q => wpAny_typeOf_ref (k _ _ h2) (by rw [h3]; exact q)
  | lst ds =>
    obtain ⟨a, vs, rfl, h1, _⟩ := rep_lst rp
    cases ru
    obtain ⟨z, its, n, _, e⟩ := (show ObjOk X.prog X.w H sh.heap a (.lst vs) from I.hok a _ (sm _ _ h1))
    exact fun A Q E s k q => wpAny_typeOf_ref (k _ _ e) q
  | dic ks ds =>
    generalize hd : D.dic ks ds = d' at rp
    cases rp with
    | @dic a kvs ds' h1 h2 =>
      cases ru
      obtain ⟨_, _, vs, _, o, es, ep, e, q, _⟩ := (show ObjOk X.prog X.w H sh.heap a (.dK kvs) from I.hok a _ (sm _ _ h1))
      exact fun A Q E s k hq => wpAny_typeOf_ref (k _ _ e) (by rw [q.1]; exact hq)
    | _ => cases hd
  | ins C ns ds =>
    obtain ⟨a, dx, fs, rfl, h1, _⟩ := rep_ins rp
    cases ru
    obtain ⟨od, J⟩ := inst_at I (sm _ _ h1)
    exact J.type
/-! ### == and != by an own __eq__ -/
theorem de_eqOwn {ns : List Str} {d1 : List D} {d2 : D} {t : Value} {q : Bool} (g : Go X N W n) (cm : Cm X.prog X.w X.K X.mg X.base k C "__eq__" [] R) (ty : TyD X.K d2 t) (nf : PySem.W.notFirst X.K C t = true)
    (ha : DE X N W δ μ a (.v (.p (.ins C ns d1))) μ1) (hb : DE X N W δ μ1 b (.v (.p d2)) μ2) (hR : R [.p (.ins C ns d1), .p d2] μ2 (.v (.p (.bl q))) μ3) (hk : k ≤ n := by decide) : DE X N W δ μ (.Compare a [.Eq] [b] pos) (.v (.p (.bl q))) μ3 := by
  obtain ⟨f, fd, ps, ds, dvs, Fo, hme, hbi, hd, rd⟩ := cm.ex
  refine ⟨fun pins s σ H Q I ⟨F, A, R0, q⟩ => wpAny_Compare1 (two_then ha hb I R0 fun v u s3 x y H2 F2 A2 I2 rx ry e2 p2 R2 h1 h2 => ?_) (nomark _)⟩
  obtain ⟨a1, dx1, fs1, rfl, g1, g2, g3⟩ := rep_ins h1
  cases rx
  obtain ⟨od1, J1⟩ := inst_at I2 (R2.rc.sub _ _ g1)
  obtain ⟨m', Fr'⟩ := I2.fr
  refine PySem.W.cmp_ofEq (PySem.W.cmp_K (g.room.units0) Fr' I2.mod.kin J1 (type_of I2 R2.rc.sub ty (by rw [← g.hK]; exact h2) ry) nf hme.at_ hme.fn ?_)
  exact wpAny_mono (call_fnD (us := [.ref a1, u]) (vs := [.ref a1, y]) (ss := [.p (.ins C ns d1), .p d2]) g hk Fo hbi hd rd I2 R2 (.cons h1 (.cons h2 .nil)) (.cons rfl (.cons ry .nil)) hR (q.to e2 p2)) (fun _ _ h => back_of h) fun _ _ h => h
open Builtin in
theorem obj_ne {A : Around} {E : Value → Shared → Prop} {sh : Shared} {K : PySem.W.Frag} {prog : Program} {w : World} {x C f : Addr} {ox : Obj} {od : Option Obj} {u : Value} {Q : Value → Shared → Prop} (hu : A.in1.units < cLine) (X : K.In sh.heap) (I : PySem.W.InstAt sh.heap x ox C od) (hm : PySem.W.mroIn K C (.type "object") = some true) (he : PySem.W.findIn K (.ref C) "__eq__" = some (some (.ref f))) (hf : PySem.W.isFn K (.ref f) = true)
    (h : wpAny (model prog w) A.in1 (call (.ref f) [.ref x, u]) (fun v s' => ∃ b, v = .bool b ∧ Q (.bool (!b)) s') E sh) : wpAny (model prog w) A (call (.builtin "object.__ne__") [.ref x, u]) Q E sh := by
  refine wpAny_call (codeAny_call_builtin PySem.F.cmp_object.ne.plain F.cmpEntry_ne (PySem.W.check_slot (i := "object.__ne__") (owner := "object") (n := "__ne__") (by decide +kernel) (by decide +kernel) (I.type.andThen (PySem.W.looks_mroIn X hm)) (F.cmpArgs_ne _ _) ?_))
  unfold Builtin.«object.__ne__»
  refine wpAny_bind (m := slotArgs "__ne__" 1 _) (wpAny_pure ?_)
  refine wpAny_bind (m := cRoomFor _ _) (wpAny_cRoomFor hu ?_)
  refine wpAny_bind (m := callSpecialIfBound? (.ref x) (Str.ofString "__eq__") _) (PySem.W.ifBound_K X I he hf (wpAny_mono h (fun r s' hq => ?_) fun _ _ y => y))
  obtain ⟨b, rfl, hq⟩ := hq
  exact wpAny_bind (m := truthy (.bool b)) (wpAny_truthy_bool (wpAny_pure hq))
theorem ifBound_b {A : Around} {E : Value → Shared → Prop} {sh : Shared} {K : PySem.W.Frag} {M : Model} {x C : Addr} {ox : Obj} {od : Option Obj} {id : String} {name : Str} {args : List Value} {Q : Option Value → Shared → Prop} (X : K.In sh.heap) (I : PySem.W.InstAt sh.heap x ox C od) (hs : PySem.W.findIn K (.ref C) name = some (some (.builtin id)))
    (hb : ∀ self, bindSpecial (.builtin id) self = pure (.builtin id, [self])) (h : wpAny M A (call (.builtin id) (.ref x :: args)) (fun v => Q (some v)) E sh) : wpAny M A (callSpecialIfBound? (.ref x) name args) Q E sh := by
  simp only [callSpecialIfBound?, bindSpecialIfBound?]
  refine wpAny_holding (wpAny_bind (wpAny_bind (wpAny_bind (I.type.here ((PySem.W.looks_findIn X hs).here ?_)))))
  refine wpAny_bind (wpAny_askSetting (wpAny_ite ?_))
  have fin : wpAny M A (call (.builtin id) ([.ref x] ++ args) >>= fun v => pure (some v)) Q E sh := wpAny_bind (wpAny_mono h (fun v s' h' => wpAny_pure h') fun _ _ h' => h')
  split
  · exact wpAny_bind ((PySem.W.Looks.of_pure (hb _)).here (wpAny_pure (by exact fin)))
  · exact wpAny_tryCatch (wpAny_bind ((PySem.W.Looks.of_pure (hb _)).here (wpAny_pure (by exact fin))))
theorem rich_ne {A : Around} {E : Value → Shared → Prop} {sh : Shared} {K : PySem.W.Frag} {prog : Program} {w : World} {x C f : Addr} {ox : Obj} {od : Option Obj} {u tb : Value} {Q : Value → Shared → Prop} (hu0 : A.units < cLine) (hu : A.in1.in1.units < cLine) (X : K.In sh.heap) (I : PySem.W.InstAt sh.heap x ox C od) (hb : PySem.W.Looks (model prog w) sh.heap (typeOf u) tb) (hn : PySem.W.notFirst K C tb = true)
    (hne : PySem.W.findIn K (.ref C) "__ne__" = some (some (.builtin "object.__ne__"))) (hm : PySem.W.mroIn K C (.type "object") = some true) (he : PySem.W.findIn K (.ref C) "__eq__" = some (some (.ref f))) (hf : PySem.W.isFn K (.ref f) = true)
    (h : wpAny (model prog w) A.in1 (call (.ref f) [.ref x, u]) (fun v s' => ∃ b, v = .bool b ∧ Q (.bool (!b)) s') E sh) : wpAny (model prog w) A (compareOp .NotEq (.ref x) u) Q E sh := by
  refine PySem.W.cmp_ofNotEq ?_
  have one : wpAny (model prog w) A (tryCompare (.ref x) "__ne__" u) (fun r s' => ∃ v, r = some v ∧ Q v s') E sh := by
    unfold tryCompare
    refine wpAny_bind (ifBound_b X I hne PySem.F.cmp_object.ne.bind (obj_ne (by exact Nat.lt_of_succ_lt hu) X I hm he hf (wpAny_mono h (fun v s' hv => ?_) fun _ _ e => e)))
    obtain ⟨b, rfl, hq⟩ := hv
    exact ⟨b, rfl, wpAny_pure ⟨_, rfl, hq⟩⟩
  unfold richCompare
  simp only [oneThing_ref]
  refine wpAny_holding (wpAny_bind (wpAny_cRoomFor hu0 ?_))
  refine wpAny_bind (I.type.here (wpAny_bind (hb.here ?_)))
  split
  · rename_i q
    have e : PySem.W.subIn K tb (.ref C) = some false := by
      rcases Bool.or_eq_true_iff.mp hn with e | e
      · rw [beq_iff_eq.mp e] at q; simp at q
      · exact beq_iff_eq.mp e
    refine wpAny_bind ((PySem.W.looks_subIn X e).here ?_)
    simp only [Bool.false_eq_true, if_false]
    refine wpAny_bind (wpAny_mono one (fun r s' z => ?_) fun _ _ e => e)
    obtain ⟨v, rfl, hq⟩ := z
    exact wpAny_pure hq
  · refine wpAny_bind (wpAny_pure ?_)
    simp only [Bool.false_eq_true, if_false]
    refine wpAny_bind (wpAny_mono one (fun r s' z => ?_) fun _ _ e => e)
    obtain ⟨v, rfl, hq⟩ := z
    exact wpAny_pure hq
/-- a def called where one level of the machine's own stands between -/
theorem call_in1 {pins : List (Addr × Obj)} {σ : L2.St} {H : Hp} {sh : Shared} {F : Hp} {A : List Addr} {Q : VK} {us : List Value} {vs dvs : List V} {ds : List Value} {f : Addr} {fd : FuncData} {ps : List Str} (g : Go X N W n) (hk : k + 1 ≤ n)
    (Fo : FnOk X.prog X.w X.K X.mg X.base (L2.CX X.prog X.w) k f fd ps (spD X.K R)) (hb : Binds X.K fd ps ds) (hd : Vals dvs ds) (rd : ∀ F, Reps X.K F dvs dd) (I : Inv X pins σ H sh) (R0 : Rl N F A H σ δ μ) (rv : RepSs N.K F A vs ss) (ru : Vals vs us)
    (hR : R (ss ++ dd.map S.p) μ r μ') (q : EndE N W σ δ F A μ' Q r) : wpAny (model X.prog X.w) X.A.in1 (call (.ref f) us) (EP X pins σ Q) X.xe sh := by
  have hK := g.hK
  have h : spD X.K R (vs ++ dvs) H Q (WE W σ) := by
    rw [← hK] at rd ⊢
    exact spD_in hR R0 (rv.append (of_reps (rd F))) q.wish
  have r2 : Vals (vs ++ dvs) (us ++ ds) := ru.append hd
  have hl : (us ++ ds).length = ps.length := by rw [← r2.length]; exact Fo.len _ _ _ _ h
  refine wpAny_call (codeAny_mono (Fo.run X.A.in1 X.stack sh H ⟨us, []⟩ (us ++ ds) (vs ++ dvs) Q (WE W σ) (g.room.mono hk).in1 I.env0.in1 (hb sh us I.kIn hl) r2 h) fun r s' hq => ?_)
  cases r with
  | error e => exact passAt g.tk σ pins H sh e s' I hq
  | ok fl =>
    cases fl with
    | ret u => exact I.after hq
    | next => exact False.elim hq
    | brk => exact False.elim hq
    | cont => exact False.elim hq
structure NeOk (K : PySem.W.Frag) (C : Addr) : Prop where
  ne : PySem.W.findIn K (.ref C) "__ne__" = some (some (.builtin "object.__ne__"))
  mro : PySem.W.mroIn K C (.type "object") = some true
theorem de_neOwn {ns : List Str} {d1 : List D} {d2 : D} {t : Value} {q : Bool} (g : Go X N W n) (cm : Cm X.prog X.w X.K X.mg X.base k C "__eq__" [] R) (nk : NeOk X.K C) (ty : TyD X.K d2 t) (nf : PySem.W.notFirst X.K C t = true)
    (ha : DE X N W δ μ a (.v (.p (.ins C ns d1))) μ1) (hb : DE X N W δ μ1 b (.v (.p d2)) μ2) (hR : R [.p (.ins C ns d1), .p d2] μ2 (.v (.p (.bl q))) μ3) (hk : k + 1 ≤ n := by decide) : DE X N W δ μ (.Compare a [.NotEq] [b] pos) (.v (.p (.bl (!q)))) μ3 := by
  obtain ⟨f, fd, ps, ds, dvs, Fo, hme, hbi, hd, rd⟩ := cm.ex
  refine ⟨fun pins s σ H Q I ⟨F, A, R0, qq⟩ => wpAny_Compare1 (two_then ha hb I R0 fun v u s3 x y H2 F2 A2 I2 rx ry e2 p2 R2 h1 h2 => ?_) (nomark _)⟩
  obtain ⟨a1, dx1, fs1, rfl, g1, g2, g3⟩ := rep_ins h1
  cases rx
  obtain ⟨od1, J1⟩ := inst_at I2 (R2.rc.sub _ _ g1)
  have hun := g.room.units
  refine rich_ne g.room.units0 (by show X.A.units + 1 + 1 < _; omega) I2.kIn J1 (type_of I2 R2.rc.sub ty (by rw [← g.hK]; exact h2) ry) nf nk.ne nk.mro hme.at_ hme.fn ?_
  refine wpAny_mono (call_in1 (us := [.ref a1, u]) (vs := [.ref a1, y]) (ss := [.p (.ins C ns d1), .p d2]) (Q := fun v H' => v = .bl q ∧ Q (.bl (!q)) H') g hk Fo hbi hd rd I2 R2 (.cons h1 (.cons h2 .nil)) (.cons rfl (.cons ry .nil)) hR (fun v F' A' H' e' p' R' rv => ?_)) (fun v s' h => ?_) fun _ _ h => h
  · have rv' : Rep N.K F' v (.bl q) := rv
    cases rv'
    exact ⟨rfl, qq (.bl (!q)) F' A' H' (e2.trans e') (p2.trans p') R' (.bl _)⟩
  · obtain ⟨w, H', I', rw', rfl, hq⟩ := h
    cases rw'
    exact ⟨q, rfl, .bl (!q), H', I', rfl, hq⟩
end
end Dl
set_option Elab.async false
set_option linter.all false
set_option maxRecDepth 100000
set_option maxHeartbeats 4000000
set_option autoImplicit false
namespace Dl
open PySem PySem.Spec PyProof.Rows L2
section
variable {K : PySem.W.Frag} {F : Hp} {A : List Addr} {v : V}
theorem rs_int {i : Int} (h : RepS K F A v (.p (.int i))) : v = .int i := by cases (show Rep K F v (.int i) from h); rfl
theorem rs_str {i : Str} (h : RepS K F A v (.p (.str i))) : v = .str i := by cases (show Rep K F v (.str i) from h); rfl
theorem rs_bl {i : Bool} (h : RepS K F A v (.p (.bl i))) : v = .bl i := by cases (show Rep K F v (.bl i) from h); rfl
theorem rs_adr {n : Addr} (h : RepS K F A v (.p (.adr n))) : v = .ref n := by cases (show Rep K F v (.adr n) from h); rfl
theorem reps_ints : ∀ {vs : List V} {ns : List Int}, Reps K F vs (ns.map D.int) → vs = ns.map V.int
  | _, [], .nil => rfl
  | _, n :: ns, .cons a b => by cases a; rw [reps_ints b]; rfl
theorem reps_bls : ∀ {vs : List V} {ns : List Bool}, Reps K F vs (ns.map D.bl) → vs = ns.map V.bl
  | _, [], .nil => rfl
  | _, n :: ns, .cons a b => by cases a; rw [reps_bls b]; rfl
theorem reps_strs : ∀ {vs : List V} {ns : List Str}, Reps K F vs (ns.map D.str) → vs = ns.map V.str
  | _, [], .nil => rfl
  | _, n :: ns, .cons a b => by cases a; rw [reps_strs b]; rfl
end
section
variable {X : Cx} {N : En} {W : WX} {n : Nat} {δ δ' δ1 δ2 : List (Option S)} {μ μ' μ1 μ2 μ3 : List M} {e a b c o : Expr} {es : List Expr} {ss : List S} {pos p apos : Pos} {d : D} {s s1 s2 : S} {r : Rx}
/-! ### ints -/
theorem o_int {f : Value → Value → Sem Value} {g : Int → Int → Int} (h : OpR X f (rI0 fun i j => .int (g i j))) {i j : Int} : OpOk X N W f μ (.p (.int i)) (.p (.int j)) (.v (.p (.int (g i j)))) μ :=
  ⟨_, h, fun σ δ F A H x y Q R rx ry k => ⟨i, j, rs_int rx, rs_int ry, k.here R (.int _)⟩⟩
theorem o_intC {f : Value → Value → Sem Value} {C : Int → Int → Prop} {g : Int → Int → Int} (h : OpR X f (rI C fun i j => .int (g i j))) {i j : Int} (hc : C i j) : OpOk X N W f μ (.p (.int i)) (.p (.int j)) (.v (.p (.int (g i j)))) μ :=
  ⟨_, h, fun σ δ F A H x y Q R rx ry k => ⟨i, j, rs_int rx, rs_int ry, hc, k.here R (.int _)⟩⟩
theorem o_cmp {f : Value → Value → Sem Value} {g : Int → Int → Bool} (h : OpR X f (rI0 fun i j => .bl (g i j))) {i j : Int} : OpOk X N W f μ (.p (.int i)) (.p (.int j)) (.v (.p (.bl (g i j)))) μ :=
  ⟨_, h, fun σ δ F A H x y Q R rx ry k => ⟨i, j, rs_int rx, rs_int ry, k.here R (.bl _)⟩⟩
theorem o_add {i j : Int} : OpOk X N W (binaryOp .Add) μ (.p (.int i)) (.p (.int j)) (.v (.p (.int (i + j)))) μ := o_int op_add
theorem o_sub {i j : Int} : OpOk X N W (binaryOp .Sub) μ (.p (.int i)) (.p (.int j)) (.v (.p (.int (i - j)))) μ := o_int op_sub
theorem o_mul {i j : Int} (hc : CMul i j) : OpOk X N W (binaryOp .Mult) μ (.p (.int i)) (.p (.int j)) (.v (.p (.int (i * j)))) μ := o_intC op_mul hc
theorem o_div {i j : Int} (hc : CDiv i j) : OpOk X N W (binaryOp .FloorDiv) μ (.p (.int i)) (.p (.int j)) (.v (.p (.int (i / j)))) μ := o_intC op_fdiv hc
theorem o_mod {i j : Int} (hc : 0 < j) : OpOk X N W (binaryOp .Mod) μ (.p (.int i)) (.p (.int j)) (.v (.p (.int (i % j)))) μ := o_intC op_mod hc
theorem op_powW : OpR X (binaryOp .Pow) (rI (fun i j => 0 ≤ j ∧ (Builtin.Int.intBits i : Int) * j ≤ 2 ^ 27) fun i j => .int (i ^ j.toNat)) := opI fun _ _ _ _ _ _ _ hc q => pow_int hc.1 hc.2 q
theorem o_pow {i j : Int} (hc : 0 ≤ j ∧ (Builtin.Int.intBits i : Int) * j ≤ 2 ^ 27) : OpOk X N W (binaryOp .Pow) μ (.p (.int i)) (.p (.int j)) (.v (.p (.int (i ^ j.toNat)))) μ := o_intC op_powW hc
theorem o_lt {i j : Int} : OpOk X N W (compareOp .Lt) μ (.p (.int i)) (.p (.int j)) (.v (.p (.bl (decide (i < j))))) μ := o_cmp op_lt
theorem o_le {i j : Int} : OpOk X N W (compareOp .LtE) μ (.p (.int i)) (.p (.int j)) (.v (.p (.bl (decide (i ≤ j))))) μ := o_cmp op_le
theorem o_gt {i j : Int} : OpOk X N W (compareOp .Gt) μ (.p (.int i)) (.p (.int j)) (.v (.p (.bl (decide (j < i))))) μ := o_cmp op_gt
theorem o_ge {i j : Int} : OpOk X N W (compareOp .GtE) μ (.p (.int i)) (.p (.int j)) (.v (.p (.bl (decide (j ≤ i))))) μ := o_cmp op_ge
theorem o_eqI {i j : Int} : OpOk X N W (compareOp .Eq) μ (.p (.int i)) (.p (.int j)) (.v (.p (.bl (decide (i = j))))) μ :=
  ⟨_, op_eq, fun σ δ F A H x y Q R rx ry k => by
    cases rs_int rx; cases rs_int ry
    exact ⟨rfl, k.here R (by rw [show decide (V.int i = V.int j) = decide (i = j) from by rw [dec_int]; exact Bool.beq_eq_decide_eq ..]; exact .bl _)⟩⟩
theorem o_neI {i j : Int} : OpOk X N W (compareOp .NotEq) μ (.p (.int i)) (.p (.int j)) (.v (.p (.bl (!decide (i = j))))) μ :=
  ⟨_, op_ne, fun σ δ F A H x y Q R rx ry k => by
    cases rs_int rx; cases rs_int ry
    exact ⟨rfl, k.here R (by rw [show decide (V.int i = V.int j) = decide (i = j) from by rw [dec_int]; exact Bool.beq_eq_decide_eq ..]; exact .bl _)⟩⟩
theorem o_eqS {i j : Str} : OpOk X N W (compareOp .Eq) μ (.p (.str i)) (.p (.str j)) (.v (.p (.bl (decide (i = j))))) μ :=
  ⟨_, op_eq, fun σ δ F A H x y Q R rx ry k => by
    cases rs_str rx; cases rs_str ry
    exact ⟨rfl, k.here R (by rw [show decide (V.str i = V.str j) = decide (i = j) from by rw [dec_str]; exact Bool.beq_eq_decide_eq ..]; exact .bl _)⟩⟩
theorem o_neS {i j : Str} : OpOk X N W (compareOp .NotEq) μ (.p (.str i)) (.p (.str j)) (.v (.p (.bl (!decide (i = j))))) μ :=
  ⟨_, op_ne, fun σ δ F A H x y Q R rx ry k => by
    cases rs_str rx; cases rs_str ry
    exact ⟨rfl, k.here R (by rw [show decide (V.str i = V.str j) = decide (i = j) from by rw [dec_str]; exact Bool.beq_eq_decide_eq ..]; exact .bl _)⟩⟩
theorem o_neB {i j : Bool} : OpOk X N W (compareOp .NotEq) μ (.p (.bl i)) (.p (.bl j)) (.v (.p (.bl (!decide (i = j))))) μ :=
  ⟨_, op_ne, fun σ δ F A H x y Q R rx ry k => by
    cases rs_bl rx; cases rs_bl ry
    exact ⟨rfl, k.here R (by rw [show decide (V.bl i = V.bl j) = decide (i = j) from by rw [dec_bl]; exact Bool.beq_eq_decide_eq ..]; exact .bl _)⟩⟩
theorem u_neg {i : Int} : UnOk X N W (unaryOp .USub) μ (.p (.int i)) (.v (.p (.int (-i)))) μ :=
  ⟨_, un_neg, fun σ δ F A H x Q R rx k => ⟨i, rs_int rx, k.here R (.int _)⟩⟩
/-! ### texts -/
theorem o_addS {i j : Str} (hl : i.length + j.length ≤ sizeLine) : OpOk X N W (binaryOp .Add) μ (.p (.str i)) (.p (.str j)) (.v (.p (.str (i ++ j)))) μ :=
  ⟨_, op_add_str, fun σ δ F A H x y Q R rx ry k => ⟨i, j, rs_str rx, rs_str ry, hl, k.here R (.str _)⟩⟩
theorem o_inS {c : Nat} {z : Str} : OpOk X N W (compareOp .In) μ (.p (.str ⟨#[c]⟩)) (.p (.str z)) (.v (.p (.bl (decide (c ∈ z.cps.toList))))) μ :=
  ⟨_, op_in_sign, fun σ δ F A H x y Q R rx ry k => ⟨c, z, rs_str rx, rs_str ry, k.here R (.bl _)⟩⟩
theorem op_mulS1 : OpR X (binaryOp .Mult) (fun x y H Q => ∃ (z : Str) (k : Bool), x = .str z ∧ y = .int (if k then 1 else 0) ∧ Q (.str (if k then z else Str.empty)) H) := by
  intro pins s σ H x y v u Q I rx ry h
  obtain ⟨z, k, rfl, rfl, q⟩ := h
  obtain ⟨t, rfl⟩ := rx
  obtain ⟨t', rfl⟩ := ry
  cases k with
  | false => exact PySem.P.mul_str_none (by decide) (by decide) ⟨.str _, H, I.tok _, ⟨_, rfl⟩, q⟩
  | true =>
    refine PySem.P.mul_str (by decide) (fun _ h => by simp at h) (fun _ h => by simp at h) ?_
    show (if (1 : Int) < 1 then _ else if ((1 : Int) == 1 || z.length == 0) = true then _ else _ : Made).post _ _
    rw [if_neg (by decide), if_pos (by simp)]
    exact ⟨.str z, H, I, ⟨t, rfl⟩, q⟩
theorem o_mulS {z : Str} {k : Bool} : OpOk X N W (binaryOp .Mult) μ (.p (.str z)) (.p (.int (if k then 1 else 0))) (.v (.p (.str (if k then z else Str.empty)))) μ :=
  ⟨_, op_mulS1, fun σ δ F A H x y Q R rx ry q => ⟨z, k, rs_str rx, rs_int ry, q.here R (.str _)⟩⟩
/-! ### builtins -/
theorem one_of {K : PySem.W.Frag} {F : Hp} {A : List Addr} {vs : List V} (h : RepSs K F A vs [s]) : ∃ v, vs = [v] ∧ RepS K F A v s := by
  cases h with
  | cons a b => cases b; exact ⟨_, rfl, a⟩
theorem two_of {K : PySem.W.Frag} {F : Hp} {A : List Addr} {vs : List V} (h : RepSs K F A vs [s1, s2]) : ∃ v w, vs = [v, w] ∧ RepS K F A v s1 ∧ RepS K F A w s2 := by
  cases h with
  | cons a b => cases b with
    | cons b c => cases c; exact ⟨_, _, rfl, a, b⟩
theorem c_int {i : Int} : CallOk X N W (.type "int") μ [.p (.int i)] (.v (.p (.int i))) μ :=
  ⟨_, call_int1, fun σ δ F A H vs Q R rv k => by
    obtain ⟨v, rfl, h⟩ := one_of rv
    exact .inl ⟨i, by rw [rs_int h], k.here R (.int _)⟩⟩
theorem c_intB {i : Bool} : CallOk X N W (.type "int") μ [.p (.bl i)] (.v (.p (.int (if i then 1 else 0)))) μ :=
  ⟨_, call_int1, fun σ δ F A H vs Q R rv k => by
    obtain ⟨v, rfl, h⟩ := one_of rv
    exact .inr ⟨i, by rw [rs_bl h], k.here R (.int _)⟩⟩
theorem c_abs {i : Int} : CallOk X N W (.builtin "abs") μ [.p (.int i)] (.v (.p (.int (if i < 0 then -i else i)))) μ :=
  ⟨_, call_abs, fun σ δ F A H vs Q R rv k => by
    obtain ⟨v, rfl, h⟩ := one_of rv
    exact ⟨i, by rw [rs_int h], k.here R (.int _)⟩⟩
theorem c_max2 (g : Go X N W n) {i j : Int} : CallOk X N W (.builtin "max") μ [.p (.int i), .p (.int j)] (.v (.p (.int (if j > i then j else i)))) μ :=
  ⟨_, call_max2 g.calm, fun σ δ F A H vs Q R rv k => by
    obtain ⟨v, w, rfl, h, h'⟩ := two_of rv
    exact ⟨i, j, by rw [rs_int h, rs_int h'], k.here R (.int _)⟩⟩
theorem c_min2 (g : Go X N W n) {i j : Int} : CallOk X N W (.builtin "min") μ [.p (.int i), .p (.int j)] (.v (.p (.int (if j < i then j else i)))) μ :=
  ⟨_, call_min2 g.calm, fun σ δ F A H vs Q R rv k => by
    obtain ⟨v, w, rfl, h, h'⟩ := two_of rv
    exact ⟨i, j, by rw [rs_int h, rs_int h'], k.here R (.int _)⟩⟩
theorem c_lenS {z : Str} (hl : z.length ≤ sizeLine) : CallOk X N W (.builtin "len") μ [.p (.str z)] (.v (.p (.int z.length))) μ :=
  ⟨_, call_len, fun σ δ F A H vs Q R rv k => by
    obtain ⟨v, rfl, h⟩ := one_of rv
    exact ⟨.str z, z.length, by rw [rs_str h], ⟨hl, rfl⟩, k.here R (.int _)⟩⟩
theorem c_lenT (g : Go X N W n) {ds : List D} : CallOk X N W (.builtin "len") μ [.p (.tup ds)] (.v (.p (.int ds.length))) μ :=
  ⟨_, call_len, fun σ δ F A H vs Q R rv k => by
    obtain ⟨v, rfl, h⟩ := one_of rv
    obtain ⟨a, ws, rfl, h1, h2⟩ := rep_tup h
    exact ⟨.ref a, ds.length, rfl, .inr ⟨ws, by rw [← g.hK]; exact same_sqT R.rc.sub h1, h2.length.symm⟩, k.here R (.int _)⟩⟩
theorem c_lenL (g : Go X N W n) {ds : List D} : CallOk X N W (.builtin "len") μ [.p (.lst ds)] (.v (.p (.int ds.length))) μ :=
  ⟨_, call_len, fun σ δ F A H vs Q R rv k => by
    obtain ⟨v, rfl, h⟩ := one_of rv
    obtain ⟨a, ws, rfl, h1, h2⟩ := rep_lst h
    exact ⟨.ref a, ds.length, rfl, .inl ⟨ws, SqL.of (R.rc.sub _ _ h1), h2.length.symm⟩, k.here R (.int _)⟩⟩
theorem c_lenM {j : Nat} {ds : List D} (hj : μ[j]? = some (.lst ds)) : CallOk X N W (.builtin "len") μ [.l j] (.v (.p (.int ds.length))) μ :=
  ⟨_, call_len, fun σ δ F A H vs Q R rv k => by
    obtain ⟨v, rfl, h⟩ := one_of rv
    obtain ⟨a, rfl, ha⟩ := h
    obtain ⟨ws, h1, h2⟩ := R.rc.mus j a _ ha hj
    exact ⟨.ref a, ds.length, rfl, .inl ⟨ws, SqL.of h1, h2.length.symm⟩, k.here R (.int _)⟩⟩
theorem c_sum (g : Go X N W n) {ns : List Int} : CallOk X N W (.builtin "sum") μ [.p (.lst (ns.map D.int))] (.v (.p (.int ns.sum))) μ :=
  ⟨_, cr_sum g.calm, fun σ δ F A H vs Q R rv k => by
    obtain ⟨v, rfl, h⟩ := one_of rv
    obtain ⟨a, ws, rfl, h1, h2⟩ := rep_lst h
    rw [reps_ints h2] at h1
    exact ⟨a, ns, rfl, SqL.of (R.rc.sub _ _ h1), k.here R (.int _)⟩⟩
theorem c_all (g : Go X N W n) {ns : List Bool} : CallOk X N W (.builtin "all") μ [.p (.lst (ns.map D.bl))] (.v (.p (.bl (ns.all id)))) μ :=
  ⟨_, cr_all g.calm, fun σ δ F A H vs Q R rv k => by
    obtain ⟨v, rfl, h⟩ := one_of rv
    obtain ⟨a, ws, rfl, h1, h2⟩ := rep_lst h
    rw [reps_bls h2] at h1
    exact ⟨a, ns, rfl, SqL.of (R.rc.sub _ _ h1), k.here R (.bl _)⟩⟩
/-! ### methods of texts -/
theorem m_removeprefix {z y : Str} (hl : z.length ≤ sizeLine) : MtOk X N W "str" "str.removeprefix" μ μ (.p (.str z)) [.p (.str y)] (.v (.p (.str (Txt.removeprefix z y)))) μ :=
  ⟨_, mt_removeprefix, fun σ δ F A H x R rx => by rw [rs_str rx]; rfl, fun σ δ F A H x vs Q R rx rv k => by
    obtain ⟨v, rfl, h⟩ := one_of rv
    exact ⟨z, y, rs_str rx, by rw [rs_str h], hl, k.here R (.str _)⟩⟩
theorem m_startswith {z y : Str} : MtOk X N W "str" "str.startswith" μ μ (.p (.str z)) [.p (.str y)] (.v (.p (.bl (Txt.startswith z y)))) μ :=
  ⟨_, mt_startswith, fun σ δ F A H x R rx => by rw [rs_str rx]; rfl, fun σ δ F A H x vs Q R rx rv k => by
    obtain ⟨v, rfl, h⟩ := one_of rv
    exact ⟨z, y, rs_str rx, by rw [rs_str h], k.here R (.bl _)⟩⟩
theorem m_join {z : Str} {ys : List Str} (hl : (ys.map (·.length)).sum + ys.length * z.length ≤ 16777216) : MtOk X N W "str" "str.join" μ μ1 (.p (.str z)) [.p (.lst (ys.map D.str))] (.v (.p (.str (Txt.join z ys)))) μ1 :=
  ⟨_, mt_join, fun σ δ F A H x R rx => by rw [rs_str rx]; rfl, fun σ δ F A H x vs Q R rx rv k => by
    obtain ⟨v, rfl, h⟩ := one_of rv
    obtain ⟨a, ws, rfl, h1, h2⟩ := rep_lst h
    rw [reps_strs h2] at h1
    exact ⟨z, a, ys, rs_str rx, rfl, .inl (SqL.of (R.rc.sub _ _ h1)), hl, k.here R (.str _)⟩⟩
/-! ### items -/
theorem atI_rep {K : PySem.W.Frag} {F : Hp} {vs : List V} {ds : List D} {i : Int} (r : Reps K F vs ds) (h : atI ds i = some d) : ∃ v, atI vs i = some v ∧ Rep K F v d := by
  unfold atI at h ⊢
  rw [r.length]
  obtain ⟨j, h1, h2⟩ := Option.bind_eq_some_iff.mp h
  obtain ⟨v, h3, h4⟩ := r.get h2
  exact ⟨v, by rw [h1]; exact h3, h4⟩
theorem i_lst (g : Go X N W n) {ds : List D} {i : Int} (h : atI ds i = some d) : IxOk X N W μ (.p (.lst ds)) (.p (.int i)) (.v (.p d)) μ :=
  ⟨_, ix_list, fun σ δ F A H x y Q R rx ry k => by
    obtain ⟨a, ws, rfl, h1, h2⟩ := rep_lst rx
    obtain ⟨v, h3, h4⟩ := atI_rep h2 h
    exact ⟨a, ws, i, v, rfl, rs_int ry, SqL.of (R.rc.sub _ _ h1), h3, k.here R h4⟩⟩
theorem i_tup (g : Go X N W n) {ds : List D} {i : Int} (h : atI ds i = some d) : IxOk X N W μ (.p (.tup ds)) (.p (.int i)) (.v (.p d)) μ :=
  ⟨_, ix_tup, fun σ δ F A H x y Q R rx ry k => by
    obtain ⟨a, ws, rfl, h1, h2⟩ := rep_tup rx
    obtain ⟨v, h3, h4⟩ := atI_rep h2 h
    exact ⟨a, ws, i, v, rfl, rs_int ry, by rw [← g.hK]; exact same_sqT R.rc.sub h1, h3, k.here R h4⟩⟩
theorem i_lstM {j : Nat} {ds : List D} {i : Int} (hj : μ[j]? = some (.lst ds)) (h : atI ds i = some d) : IxOk X N W μ (.l j) (.p (.int i)) (.v (.p d)) μ :=
  ⟨_, ix_list, fun σ δ F A H x y Q R rx ry k => by
    obtain ⟨a, rfl, ha⟩ := rx
    obtain ⟨ws, h1, h2⟩ := R.rc.mus j a _ ha hj
    obtain ⟨v, h3, h4⟩ := atI_rep h2 h
    exact ⟨a, ws, i, v, rfl, rs_int ry, SqL.of h1, h3, k.here R h4⟩⟩
theorem i_str {z : Str} {i : Int} {c : Nat} (hl : z.length ≤ sizeLine) (h : atI z.cps.toList i = some c) : IxOk X N W μ (.p (.str z)) (.p (.int i)) (.v (.p (.str ⟨#[c]⟩))) μ :=
  ⟨_, ix_str, fun σ δ F A H x y Q R rx ry k => ⟨z, i, c, rs_str rx, rs_int ry, hl, h, k.here R (.str _)⟩⟩
/-! ### lists that change -/
theorem ds_setM {j : Nat} {ds : List D} {i : Int} {k : Nat} (hv : DE X N W δ μ e (.v (.p d)) μ1) (ho : DE X N W δ μ1 o (.v (.l j)) μ1) (hb : DE X N W δ μ1 b (.v (.p (.int i))) μ1) (hj : μ1[j]? = some (.lst ds)) (hk : ixN ds.length i = some k)
    (hs : swapsWithSole [.Subscript o b p] e pos.line X.env = pure false := by rfl) (hw : swappedStores [.Subscript o b p] e X.env = pure none := by rfl)
    (h1 : (assignEach [.Subscript o b p] X.env).map (·.2) = [assign (.Subscript o b p) X.env] := by rfl)
    (ha : ∀ v, assign (.Subscript o b p) X.env v = (do
      let ov ← holding [v] (eval o X.env)
      let iv ← holding [v, ov] (eval b X.env)
      standAt p
      holding [v, ov, iv] (setItem ov iv v)
      release [v, ov, iv] []) := by intro _; rfl) : DS X N W δ μ (.Assign [.Subscript o b p] e pos) (.nx δ (μ1.set j (.lst (ds.set k d)))) :=
  PS.imp (ps_asg hv (pg_sub ho hb set_list ha) hs hw h1) fun K σ H ⟨F, A, R, q⟩ => ⟨F, A, R, fun v F1 A1 H1 e1 p1 R1 rv => ⟨F1, A1, R1, fun ov F2 A2 H2 e2 p2 R2 ro => ⟨F2, A2, R2, fun iv F3 A3 H3 e3 p3 R3 ri => by
    obtain ⟨a, rfl, ha⟩ := ro
    have rv3 : Rep N.K F3 v d := Rep.mono (e2.trans e3) rv
    have ha3 := getElem?_pre p3 ha
    obtain ⟨ws, h1, h2⟩ := R3.rc.mus j a _ ha3 hj
    refine ⟨a, ws, i, k, rfl, rs_int ri, h1, by rw [h2.length]; exact hk, ?_⟩
    exact q σ F3 A3 _ ((e1.trans e2).trans e3) ((p1.trans p2).trans p3) (R3.to (Same.refl _) (List.prefix_refl _) (R3.rc.write ha3 hj trivial ⟨_, upd_same, h2.set rv3 k⟩))⟩⟩⟩
end
end Dl
set_option Elab.async false
set_option linter.all false
set_option maxRecDepth 100000
set_option maxHeartbeats 4000000
set_option autoImplicit false
namespace Dl
open PySem PySem.Spec PyProof.Rows L2
section
variable {prog : Program} {w : World} {A : Around} {E : Value → Shared → Prop} {s : Shared}
theorem nextOf_ascii {it : Addr} {x : Str} {t : Tok} {i c : Nat} {Q : Value → Shared → Prop} (hit : s.heap.IsStrIter it "str_ascii_iterator" x t i) (hx : x.cps[i]? = some c)
    (hQ : ∀ h', h'.IsStrIter it "str_ascii_iterator" x t (i + 1) → Heap.SameBut it s.heap h' → Q (.str ⟨#[c]⟩ s.toks) { s with heap := h', toks := s.toks + 1 }) :
    wpAny (model prog w) A (Builtin.SmallTypes.nextOf (.ref it)) Q E s := by
  obtain ⟨o, ho, hc, hd⟩ := id hit
  unfold Builtin.SmallTypes.nextOf
  refine wpAny_bind (wpAny_callSpecial?_slot (name := Str.ofString "__next__") hit.typeIs F.slot_str_ascii_iterator_next
    (wpAny_call_entry F.slot_str_ascii_iterator_next hit.typeIs F.entry_str_ascii_iterator_next ?_ (F.args_str_ascii_iterator_next_1 _)))
  show wpAny _ _ (field (.ref it) 0 >>= _) _ _ s
  refine wpAny_bind (wpAny_field ho hd (x := .str x t) rfl ?_)
  show wpAny _ _ (field (.ref it) 1 >>= _) _ _ s
  refine wpAny_bind (wpAny_field ho hd (x := .int i 0) rfl ?_)
  simp only [Int.toNat_natCast, hx]
  refine wpAny_bind (wpAny_setField ho hd (by simp) (wpAny_bind (wpAny_mkStr (wpAny_pure ⟨_, rfl, wpAny_pure (hQ _ ?_ (Heap.SameBut.update ..))⟩) (by show 1 ≤ sizeLine; decide))))
  exact ⟨_, Heap.get?_update_self _ ho (Obj.isFreed_of_fields (Obj.data_mapFields hd _)), (Obj.cls_mapFields ..).trans hc, by
    rw [Obj.data_mapFields hd]; simp [rawInt]⟩
theorem nextOf_wide {it : Addr} {x : Str} {t : Tok} {i c : Nat} {Q : Value → Shared → Prop} (hit : s.heap.IsStrIter it "str_iterator" x t i) (hx : x.cps[i]? = some c)
    (hQ : ∀ h', h'.IsStrIter it "str_iterator" x t (i + 1) → Heap.SameBut it s.heap h' → Q (.str ⟨#[c]⟩ s.toks) { s with heap := h', toks := s.toks + 1 }) :
    wpAny (model prog w) A (Builtin.SmallTypes.nextOf (.ref it)) Q E s := by
  obtain ⟨o, ho, hc, hd⟩ := id hit
  unfold Builtin.SmallTypes.nextOf
  refine wpAny_bind (wpAny_callSpecial?_slot (name := Str.ofString "__next__") hit.typeIs F.slot_str_iterator_next
    (wpAny_call_entry F.slot_str_iterator_next hit.typeIs F.entry_str_iterator_next ?_ (F.args_str_iterator_next_1 _)))
  show wpAny _ _ (field (.ref it) 0 >>= _) _ _ s
  refine wpAny_bind (wpAny_field ho hd (x := .str x t) rfl ?_)
  show wpAny _ _ (field (.ref it) 1 >>= _) _ _ s
  refine wpAny_bind (wpAny_field ho hd (x := .int i 0) rfl ?_)
  simp only [Int.toNat_natCast, hx]
  refine wpAny_bind (wpAny_setField ho hd (by simp) (wpAny_bind (wpAny_mkStr (wpAny_pure ⟨_, rfl, wpAny_pure (hQ _ ?_ (Heap.SameBut.update ..))⟩) (by show 1 ≤ sizeLine; decide))))
  exact ⟨_, Heap.get?_update_self _ ho (Obj.isFreed_of_fields (Obj.data_mapFields hd _)), (Obj.cls_mapFields ..).trans hc, by
    rw [Obj.data_mapFields hd]; simp [rawInt]⟩
theorem nextOf_ascii_end {it : Addr} {x : Str} {t : Tok} {i : Nat} {Q : Value → Shared → Prop} (hh : A.handled = none) (hit : s.heap.IsStrIter it "str_ascii_iterator" x t i) (hx : x.cps[i]? = none)
    (hE : ∀ h' e, Heap.ExtBut it s.heap h' → (∃ o, h'.get? e = some o ∧ o.cls = .type "StopIteration") → E (.ref e) { s with heap := h' }) : wpAny (model prog w) A (Builtin.SmallTypes.nextOf (.ref it)) Q E s := by
  obtain ⟨o, ho, hc, hd⟩ := id hit
  unfold Builtin.SmallTypes.nextOf
  refine wpAny_bind (wpAny_callSpecial?_slot (name := Str.ofString "__next__") hit.typeIs F.slot_str_ascii_iterator_next
    (wpAny_call_entry F.slot_str_ascii_iterator_next hit.typeIs F.entry_str_ascii_iterator_next ?_ (F.args_str_ascii_iterator_next_1 _)))
  show wpAny _ _ (field (.ref it) 0 >>= _) _ _ s
  refine wpAny_bind (wpAny_field ho hd (x := .str x t) rfl ?_)
  show wpAny _ _ (field (.ref it) 1 >>= _) _ _ s
  refine wpAny_bind (wpAny_field ho hd (x := .int i 0) rfl ?_)
  simp only [Int.toNat_natCast, hx]
  refine wpAny_bind (wpAny_rule (wpAny_bind (wpAny_setField ho hd (by simp) (wpAny_bind (wpAny_letGo ?_)))))
  show wpAny _ _ (newExc (.type "StopIteration") [] >>= _) _ _ _
  refine wpAny_bind ?_
  simp only [newExc, newTuple]
  refine wpAny_bind (wpAny_newObj_type ?_ (by size_fits))
  refine wpAny_bind (m := firstArgMember _ _) (wpAny_of_eq (a := Value.none) (by first | rfl | (simp only [firstArgMember]; rfl)) ?_)
  refine wpAny_newObj_type ?_ (by size_fits)
  simp only [raiseNew]
  refine wpAny_bind (wpAny_handled ?_)
  rw [show A.in1.handled = none from hh]
  refine wpAny_bind (wpAny_pure (wpAny_throw ?_))
  exact hE _ _ (((Heap.SameBut.update ..).extBut.push _).push _) ⟨_, Heap.get?_push_size _ rfl, rfl⟩
theorem nextOf_wide_end {it : Addr} {x : Str} {t : Tok} {i : Nat} {Q : Value → Shared → Prop} (hh : A.handled = none) (hit : s.heap.IsStrIter it "str_iterator" x t i) (hx : x.cps[i]? = none)
    (hE : ∀ h' e, Heap.ExtBut it s.heap h' → (∃ o, h'.get? e = some o ∧ o.cls = .type "StopIteration") → E (.ref e) { s with heap := h' }) : wpAny (model prog w) A (Builtin.SmallTypes.nextOf (.ref it)) Q E s := by
  obtain ⟨o, ho, hc, hd⟩ := id hit
  unfold Builtin.SmallTypes.nextOf
  refine wpAny_bind (wpAny_callSpecial?_slot (name := Str.ofString "__next__") hit.typeIs F.slot_str_iterator_next
    (wpAny_call_entry F.slot_str_iterator_next hit.typeIs F.entry_str_iterator_next ?_ (F.args_str_iterator_next_1 _)))
  show wpAny _ _ (field (.ref it) 0 >>= _) _ _ s
  refine wpAny_bind (wpAny_field ho hd (x := .str x t) rfl ?_)
  show wpAny _ _ (field (.ref it) 1 >>= _) _ _ s
  refine wpAny_bind (wpAny_field ho hd (x := .int i 0) rfl ?_)
  simp only [Int.toNat_natCast, hx]
  refine wpAny_bind (wpAny_rule (wpAny_bind (wpAny_setField ho hd (by simp) (wpAny_bind (wpAny_letGo ?_)))))
  show wpAny _ _ (newExc (.type "StopIteration") [] >>= _) _ _ _
  refine wpAny_bind ?_
  simp only [newExc, newTuple]
  refine wpAny_bind (wpAny_newObj_type ?_ (by size_fits))
  refine wpAny_bind (m := firstArgMember _ _) (wpAny_of_eq (a := Value.none) (by first | rfl | (simp only [firstArgMember]; rfl)) ?_)
  refine wpAny_newObj_type ?_ (by size_fits)
  simp only [raiseNew]
  refine wpAny_bind (wpAny_handled ?_)
  rw [show A.in1.handled = none from hh]
  refine wpAny_bind (wpAny_pure (wpAny_throw ?_))
  exact hE _ _ (((Heap.SameBut.update ..).extBut.push _).push _) ⟨_, Heap.get?_push_size _ rfl, rfl⟩
end
/-- an iterator that a zip draws from: at it; what it leans on stands at dep; its i-th value -/
structure ItC (it : Addr) (dep : List Addr) (len : Nat) (val : Nat → Value → Prop) (tn : Nat → Heap → Prop) : Prop where
  obj : ∀ i h, tn i h → ∃ o, h.get? it = some o ∧ ∀ v, o.data ≠ .cell v
  keep : ∀ i h h', tn i h → (∀ b o, b = it ∨ b ∈ dep → h.get? b = some o → h'.get? b = some o) → tn i h'
  item : ∀ (prog : Program) (w : World) (A : Around) (E : Value → Shared → Prop) (s : Shared) (Q : Value → Shared → Prop) (i : Nat), i < len → tn i s.heap → (∀ x h' tk, val i x → tn (i + 1) h' → Heap.SameBut it s.heap h' → Q x { s with heap := h', toks := tk }) →
    wpAny (model prog w) A (Builtin.SmallTypes.nextOf (.ref it)) Q E s
  stop : ∀ (prog : Program) (w : World) (A : Around) (E : Value → Shared → Prop) (s : Shared) (Q : Value → Shared → Prop), A.handled = none → tn len s.heap → (∀ h' e, Heap.ExtBut it s.heap h' → (∃ o, h'.get? e = some o ∧ o.cls = .type "StopIteration") → E (.ref e) { s with heap := h' }) →
    wpAny (model prog w) A (Builtin.SmallTypes.nextOf (.ref it)) Q E s
theorem itc_list {it l : Addr} {its : List Value} : ItC it [l] its.length (fun i x => its[i]? = some x) (fun i h => h.IsListIter it l i ∧ h.IsList l its.toArray) where
  obj := fun i h ⟨⟨o, e, _, d⟩, _⟩ => ⟨o, e, fun v z => by rw [d] at z; cases z⟩
  keep := fun i h h' ⟨a, b⟩ k => ⟨a.at fun o e => k it o (.inl rfl) e, by
    obtain ⟨o, e, r⟩ := b
    exact ⟨o, k l o (.inr (by simp)) e, r⟩⟩
  item := fun prog w A E s Q i hi ⟨a, b⟩ hq => wpAny_nextOf_list_item a b (x := its[i]) (by simp [hi]) fun h' a' sb => hq _ h' s.toks (by simp [hi]) ⟨a', by
    obtain ⟨o, e, r⟩ := b
    have ne : l ≠ it := fun z => by
      obtain ⟨o', e', c', _⟩ := a
      rw [← z, e] at e'; cases e'
      obtain ⟨c, _⟩ := r
      rw [c] at c'
      exact absurd c' (by decide)
    exact ⟨o, (sb.2 l ne).trans e, r⟩⟩ sb
  stop := fun prog w A E s Q hh ⟨a, b⟩ he => wpAny_nextOf_list_end hh a b (by simp) he
theorem itc_tup {it l : Addr} {its : List Value} : ItC it [l] its.length (fun i x => its[i]? = some x) (fun i h => h.IsTupleIter it l i ∧ h.IsTuple l its.toArray) where
  obj := fun i h ⟨⟨o, e, _, d⟩, _⟩ => ⟨o, e, fun v z => by rw [d] at z; cases z⟩
  keep := fun i h h' ⟨a, b⟩ k => ⟨a.at fun o e => k it o (.inl rfl) e, by
    obtain ⟨o, e, r⟩ := b
    exact ⟨o, k l o (.inr (by simp)) e, r⟩⟩
  item := fun prog w A E s Q i hi ⟨a, b⟩ hq => RZ.nextOf_tuple_item a b (x := its[i]) (by simp [hi]) fun h' a' sb => hq _ h' s.toks (by simp [hi]) ⟨a', by
    obtain ⟨o, e, r⟩ := b
    have ne : l ≠ it := fun z => by
      obtain ⟨o', e', c', _⟩ := a
      rw [← z, e] at e'; cases e'
      obtain ⟨c, _⟩ := r
      rw [c] at c'
      exact absurd c' (by decide)
    exact ⟨o, (sb.2 l ne).trans e, r⟩⟩ sb
  stop := fun prog w A E s Q hh ⟨a, b⟩ he => RZ.nextOf_tuple_end hh a b (by simp) he
theorem itc_str {it : Addr} {z : Str} {t : Tok} {ty : String} (hty : ty = "str_ascii_iterator" ∨ ty = "str_iterator") : ItC it [] z.cps.size (fun i x => ∃ c u, z.cps[i]? = some c ∧ x = .str ⟨#[c]⟩ u) (fun i h => h.IsStrIter it ty z t i) where
  obj := fun i h ⟨o, e, _, d⟩ => ⟨o, e, fun v z => by rw [d] at z; cases z⟩
  keep := fun i h h' st k => let ⟨o, ho, r⟩ := st; ⟨o, k it o (.inl rfl) ho, r⟩
  item := fun prog w A E s Q i hi st hq => by
    rcases hty with e | e
    · subst e; exact nextOf_ascii st (c := z.cps[i]) (by simp [hi]) fun h' a' sb => hq _ h' _ ⟨_, _, by simp [hi], rfl⟩ a' sb
    · subst e; exact nextOf_wide st (c := z.cps[i]) (by simp [hi]) fun h' a' sb => hq _ h' _ ⟨_, _, by simp [hi], rfl⟩ a' sb
  stop := fun prog w A E s Q hh st he => by
    rcases hty with e | e
    · subst e; exact nextOf_ascii_end hh st (by simp) he
    · subst e; exact nextOf_wide_end hh st (by simp) he
/-- all of a zip's own objects and what it leans on stand apart -/
structure ZAp (z TI TO i1 i2 : Addr) (d1 d2 : List Addr) : Prop where
  TIz : TI ≠ z
  TOz : TO ≠ z
  i1z : i1 ≠ z
  i2z : i2 ≠ z
  TITO : TI ≠ TO
  TIi1 : TI ≠ i1
  TIi2 : TI ≠ i2
  TOi1 : TO ≠ i1
  TOi2 : TO ≠ i2
  i12 : i1 ≠ i2
  dz : ∀ b ∈ d1 ++ d2, b ≠ z ∧ b ≠ TO ∧ b ≠ i1 ∧ b ≠ i2
section
variable {prog : Program} {w : World} {A : Around} {E : Value → Shared → Prop} {s : Shared} {z TI TO i1 i2 : Addr} {d1 d2 : List Addr} {n1 n2 : Nat} {v1 v2 : Nat → Value → Prop} {t1 t2 : Nat → Heap → Prop} {a b : Value} {k : Nat}
theorem zip_itemG {Q : Value → Shared → Prop} (D : ZAp z TI TO i1 i2 d1 d2) (C1 : ItC i1 d1 n1 v1 t1) (C2 : ItC i2 d2 n2 v2 t2)
    (hz : IsZip s.heap z TI TO .none) (hTI : IsPair s.heap TI (.ref i1) (.ref i2)) (hTO : IsPair s.heap TO a b) (h1 : t1 k s.heap) (h2 : t2 k s.heap) (l1 : k < n1) (l2 : k < n2)
    (hQ : ∀ h' tk x y, v1 k x → v2 k y → IsZip h' z TI TO (rawInt s.heap.objs.size) → IsPair h' TO x y → t1 (k + 1) h' → t2 (k + 1) h' → IsPair h' s.heap.objs.size x y → h'.objs.size = s.heap.objs.size + 1 →
      (∀ c o, c ≠ z → c ≠ TO → c ≠ i1 → c ≠ i2 → s.heap.get? c = some o → h'.get? c = some o) → Q (.ref s.heap.objs.size) { s with heap := h', toks := tk }) :
    wpAny (model prog w) A (Builtin.«zip.__next__» ⟨[.ref z], []⟩) (fun fin s' => ∃ v, fin = .done (.ret v) ∧ Q v s') E s := by
  have dd1 : ∀ b ∈ d1, b ≠ z ∧ b ≠ TO ∧ b ≠ i1 ∧ b ≠ i2 := fun b h => D.dz b (List.mem_append_left _ h)
  have dd2 : ∀ b ∈ d2, b ≠ z ∧ b ≠ TO ∧ b ≠ i1 ∧ b ≠ i2 := fun b h => D.dz b (List.mem_append_right _ h)
  have K1 : ∀ {i h h' c}, t1 i h → Heap.ExtBut c h h' → c = z ∨ c = TO ∨ c = i2 → t1 i h' := fun {i h h' c} st hs hc => C1.keep i h h' st fun b o hb e => hs b o (by
    rcases hb with rfl | hb
    · rcases hc with rfl | rfl | rfl
      · exact D.i1z
      · exact D.TOi1.symm
      · exact D.i12
    · rcases hc with rfl | rfl | rfl
      · exact (dd1 b hb).1
      · exact (dd1 b hb).2.1
      · exact (dd1 b hb).2.2.2) e
  have K2 : ∀ {i h h' c}, t2 i h → Heap.ExtBut c h h' → c = z ∨ c = TO ∨ c = i1 → t2 i h' := fun {i h h' c} st hs hc => C2.keep i h h' st fun b o hb e => hs b o (by
    rcases hb with rfl | hb
    · rcases hc with rfl | rfl | rfl
      · exact D.i2z
      · exact D.TOi2.symm
      · exact D.i12.symm
    · rcases hc with rfl | rfl | rfl
      · exact (dd2 b hb).1
      · exact (dd2 b hb).2.1
      · exact (dd2 b hb).2.2.1) e
  show wpAny _ _ (field (.ref z) 2 >>= _) _ _ _
  refine wpAny_bind (wpAny_field hz rfl (x := .bool false) rfl ?_)
  show wpAny _ _ (field (.ref z) 3 >>= _) _ _ _
  refine wpAny_bind (wpAny_field hz rfl (x := .ref TI) rfl ?_)
  refine wpAny_bind (wpAny_seqItems hTI rfl ?_)
  show wpAny _ _ (Builtin.SmallTypes.ownedTupleIsFree (.ref z) >>= _) _ _ _
  refine wpAny_bind ?_
  unfold Builtin.SmallTypes.ownedTupleIsFree
  refine wpAny_bind (wpAny_field hz rfl (x := .none) rfl (wpAny_pure ?_))
  simp only [if_true]
  refine wpAny_bind (wpAny_rule ?_)
  refine wpAny_bind (wpAny_field hz rfl (x := .ref TO) rfl ?_)
  refine wpAny_bind (wpAny_setField_rec hz (by simp) fun h₁ hz₁ hs₁ => ?_)
  replace hz₁ : IsZip h₁ z TI TO .ellipsis := hz₁
  refine wpAny_bind ?_
  simp only [List.zipIdx_cons, List.zipIdx_nil, List.forIn_cons, List.forIn_nil]
  refine wpAny_bind (wpAny_bind (wpAny_onRaise ?_))
  show wpAny _ _ (Builtin.SmallTypes.nextOf (.ref i1) >>= _) _ _ _
  refine wpAny_bind (C1.item prog w _ _ { s with heap := h₁ } _ k l1 (K1 h1 hs₁.extBut (.inl rfl)) fun x h₂ tk₂ hx h1₂ hs₂ => wpAny_pure ?_)
  have hTO₂ : IsPair h₂ TO a b := hs₂.extBut _ _ D.TOi1 (hs₁.extBut _ _ D.TOz hTO)
  refine wpAny_bind (wpAny_seqItems hTO₂ rfl ?_)
  refine wpAny_bind (wpAny_updateSeq_pair hTO₂ fun h₃ hTO₃ hs₃ => ?_)
  replace hTO₃ : IsPair h₃ TO x b := hTO₃
  refine wpAny_bind (wpAny_letGo (wpAny_pure ?_))
  refine wpAny_bind (wpAny_bind (wpAny_onRaise ?_))
  show wpAny _ _ (Builtin.SmallTypes.nextOf (.ref i2) >>= _) _ _ _
  refine wpAny_bind (C2.item prog w _ _ { s with heap := h₃, toks := tk₂ } _ k l2 (K2 (K2 (K2 h2 hs₁.extBut (.inl rfl)) hs₂.extBut (.inr (.inr rfl))) hs₃.extBut (.inr (.inl rfl))) fun y h₄ tk₄ hy h2₄ hs₄ => wpAny_pure ?_)
  have hTO₄ : IsPair h₄ TO x b := hs₄.extBut _ _ D.TOi2 hTO₃
  refine wpAny_bind (wpAny_seqItems hTO₄ rfl ?_)
  refine wpAny_bind (wpAny_updateSeq_pair hTO₄ fun h₅ hTO₅ hs₅ => ?_)
  replace hTO₅ : IsPair h₅ TO x y := hTO₅
  refine wpAny_bind (wpAny_letGo (wpAny_pure (wpAny_pure ?_)))
  refine wpAny_bind (wpAny_seqItems hTO₅ rfl ?_)
  refine wpAny_bind (wpAny_newTuple ?_)
  have hsz : h₅.objs.size = s.heap.objs.size := by rw [hs₅.1, hs₄.1, hs₃.1, hs₂.1, hs₁.1]
  have hz₅ : IsZip h₅ z TI TO .ellipsis := hs₅.extBut _ _ D.TOz.symm (hs₄.extBut _ _ D.i2z.symm (hs₃.extBut _ _ D.TOz.symm (hs₂.extBut _ _ D.i1z.symm hz₁)))
  have hk₅ : ∀ c o, c ≠ z → c ≠ TO → c ≠ i1 → c ≠ i2 → s.heap.get? c = some o → h₅.get? c = some o := fun c o c1 c2 c3 c4 e =>
    hs₅.extBut _ _ c2 (hs₄.extBut _ _ c4 (hs₃.extBut _ _ c2 (hs₂.extBut _ _ c3 (hs₁.extBut _ _ c1 e))))
  have h1₅ : t1 (k + 1) h₅ := K1 (K1 (K1 h1₂ hs₃.extBut (.inr (.inl rfl))) hs₄.extBut (.inr (.inr rfl))) hs₅.extBut (.inr (.inl rfl))
  have h2₅ : t2 (k + 1) h₅ := K2 h2₄ hs₅.extBut (.inr (.inl rfl))
  have hzlt : z < h₅.objs.size := Heap.lt_size hz₅
  show wpAny _ _ (Builtin.SmallTypes.ownedTupleHandOut (.ref z) (.ref h₅.objs.size) >>= _) _ _ _
  refine wpAny_bind ?_
  unfold Builtin.SmallTypes.ownedTupleHandOut
  have hz₆ : IsZip (h₅.push { cls := .type "tuple", data := .seq #[x, y] }) z TI TO .ellipsis := Heap.get?_push_of_some _ hz₅
  refine wpAny_bind (wpAny_setField_rec hz₆ (by simp) fun h₇ hz₇ hs₇ => ?_)
  replace hz₇ : IsZip h₇ z TI TO (rawInt h₅.objs.size) := hz₇
  refine wpAny_setField_rec hz₇ (by simp) fun h₈ hz₈ hs₈ => ?_
  replace hz₈ : IsZip h₈ z TI TO (rawInt h₅.objs.size) := hz₈
  have up : ∀ c o, c ≠ z → h₅.get? c = some o → h₈.get? c = some o := fun c o c1 e => hs₈.extBut _ _ c1 (hs₇.extBut _ _ c1 (Heap.get?_push_of_some _ e))
  have hT₈ : IsPair h₈ h₅.objs.size x y := hs₈.extBut _ _ (Nat.ne_of_gt hzlt) (hs₇.extBut _ _ (Nat.ne_of_gt hzlt) (Heap.get?_push_size _ rfl))
  have hz8 : h₈.objs.size = h₅.objs.size + 1 := by rw [hs₈.1, hs₇.1, Heap.size_push]
  rw [hsz] at hz₈ hT₈ hz8
  refine wpAny_pure ⟨_, rfl, ?_⟩
  show Q (.ref h₅.objs.size) _
  rw [hsz]
  exact hQ h₈ tk₄ x y hx hy hz₈ (up _ _ D.TOz hTO₅) (K1 h1₅ (c := z) (fun c o c1 e => up c o c1 e) (.inl rfl)) (K2 h2₅ (c := z) (fun c o c1 e => up c o c1 e) (.inl rfl)) hT₈ hz8 fun c o c1 c2 c3 c4 e => up c o c1 (hk₅ c o c1 c2 c3 c4 e)
theorem zip_endG {Q : Fin → Shared → Prop} (hh : A.handled = none) (D : ZAp z TI TO i1 i2 d1 d2) (C1 : ItC i1 d1 n1 v1 t1) (C2 : ItC i2 d2 n2 v2 t2)
    (hz : IsZip s.heap z TI TO .none) (hTI : IsPair s.heap TI (.ref i1) (.ref i2)) (hTO : IsPair s.heap TO a b) (h1 : t1 k s.heap) (h2 : t2 k s.heap) (hend : k = n1 ∨ (k < n1 ∧ k = n2))
    (hE : ∀ h' tk e, (∀ c o, c ≠ z → c ≠ TO → c ≠ i1 → c ≠ i2 → s.heap.get? c = some o → h'.get? c = some o) → (∃ o, h'.get? e = some o ∧ o.cls = .type "StopIteration") → E (.ref e) { s with heap := h', toks := tk }) :
    wpAny (model prog w) A (Builtin.«zip.__next__» ⟨[.ref z], []⟩) Q E s := by
  have dd1 : ∀ b ∈ d1, b ≠ z ∧ b ≠ TO ∧ b ≠ i1 ∧ b ≠ i2 := fun b h => D.dz b (List.mem_append_left _ h)
  have dd2 : ∀ b ∈ d2, b ≠ z ∧ b ≠ TO ∧ b ≠ i1 ∧ b ≠ i2 := fun b h => D.dz b (List.mem_append_right _ h)
  have K1 : ∀ {i h h' c}, t1 i h → Heap.ExtBut c h h' → c = z ∨ c = TO ∨ c = i2 → t1 i h' := fun {i h h' c} st hs hc => C1.keep i h h' st fun b o hb e => hs b o (by
    rcases hb with rfl | hb
    · rcases hc with rfl | rfl | rfl
      · exact D.i1z
      · exact D.TOi1.symm
      · exact D.i12
    · rcases hc with rfl | rfl | rfl
      · exact (dd1 b hb).1
      · exact (dd1 b hb).2.1
      · exact (dd1 b hb).2.2.2) e
  have K2 : ∀ {i h h' c}, t2 i h → Heap.ExtBut c h h' → c = z ∨ c = TO ∨ c = i1 → t2 i h' := fun {i h h' c} st hs hc => C2.keep i h h' st fun b o hb e => hs b o (by
    rcases hb with rfl | hb
    · rcases hc with rfl | rfl | rfl
      · exact D.i2z
      · exact D.TOi2.symm
      · exact D.i12.symm
    · rcases hc with rfl | rfl | rfl
      · exact (dd2 b hb).1
      · exact (dd2 b hb).2.1
      · exact (dd2 b hb).2.2.1) e
  show wpAny _ _ (field (.ref z) 2 >>= _) _ _ _
  refine wpAny_bind (wpAny_field hz rfl (x := .bool false) rfl ?_)
  show wpAny _ _ (field (.ref z) 3 >>= _) _ _ _
  refine wpAny_bind (wpAny_field hz rfl (x := .ref TI) rfl ?_)
  refine wpAny_bind (wpAny_seqItems hTI rfl ?_)
  show wpAny _ _ (Builtin.SmallTypes.ownedTupleIsFree (.ref z) >>= _) _ _ _
  refine wpAny_bind ?_
  unfold Builtin.SmallTypes.ownedTupleIsFree
  refine wpAny_bind (wpAny_field hz rfl (x := .none) rfl (wpAny_pure ?_))
  simp only [if_true]
  refine wpAny_bind (wpAny_rule ?_)
  refine wpAny_bind (wpAny_field hz rfl (x := .ref TO) rfl ?_)
  refine wpAny_bind (wpAny_setField_rec hz (by simp) fun h₁ hz₁ hs₁ => ?_)
  replace hz₁ : IsZip h₁ z TI TO .ellipsis := hz₁
  refine wpAny_bind ?_
  simp only [List.zipIdx_cons, List.zipIdx_nil, List.forIn_cons, List.forIn_nil]
  refine wpAny_bind (wpAny_bind (wpAny_onRaise ?_))
  show wpAny _ _ (Builtin.SmallTypes.nextOf (.ref i1) >>= _) _ _ _
  rcases hend with hk | ⟨l1, hk⟩
  · subst hk
    refine wpAny_bind (C1.stop prog w _ _ { s with heap := h₁ } _ hh (K1 h1 hs₁.extBut (.inl rfl)) fun h₂ e hs₂ he => ?_)
    obtain ⟨oe, hoe, hce⟩ := he
    have hz₂ : IsZip h₂ z TI TO .ellipsis := hs₂ _ _ D.i1z.symm hz₁
    have hez : e ≠ z := fun x => by subst x; rw [hz₂] at hoe; cases hoe; simp at hce
    refine wpAny_setField_rec hz₂ (by simp) fun h₃ _ hs₃ => hE h₃ s.toks e (fun c o c1 _ c3 _ x => hs₃.extBut _ _ c1 (hs₂ _ _ c3 (hs₁.extBut _ _ c1 x))) ⟨oe, hs₃.extBut _ _ hez hoe, hce⟩
  · subst hk
    refine wpAny_bind (C1.item prog w _ _ { s with heap := h₁ } _ _ l1 (K1 h1 hs₁.extBut (.inl rfl)) fun x h₂ tk₂ hx h1₂ hs₂ => wpAny_pure ?_)
    have hTO₂ : IsPair h₂ TO a b := hs₂.extBut _ _ D.TOi1 (hs₁.extBut _ _ D.TOz hTO)
    refine wpAny_bind (wpAny_seqItems hTO₂ rfl ?_)
    refine wpAny_bind (wpAny_updateSeq_pair hTO₂ fun h₃ hTO₃ hs₃ => ?_)
    refine wpAny_bind (wpAny_letGo (wpAny_pure ?_))
    refine wpAny_bind (wpAny_bind (wpAny_onRaise ?_))
    show wpAny _ _ (Builtin.SmallTypes.nextOf (.ref i2) >>= _) _ _ _
    refine wpAny_bind (C2.stop prog w _ _ { s with heap := h₃, toks := tk₂ } _ hh (K2 (K2 (K2 h2 hs₁.extBut (.inl rfl)) hs₂.extBut (.inr (.inr rfl))) hs₃.extBut (.inr (.inl rfl))) fun h₄ e hs₄ he => ?_)
    obtain ⟨oe, hoe, hce⟩ := he
    have hz₄ : IsZip h₄ z TI TO .ellipsis := hs₄ _ _ D.i2z.symm (hs₃.extBut _ _ D.TOz.symm (hs₂.extBut _ _ D.i1z.symm hz₁))
    have hez : e ≠ z := fun x => by subst x; rw [hz₄] at hoe; cases hoe; simp at hce
    refine wpAny_setField_rec hz₄ (by simp) fun h₅ _ hs₅ => hE h₅ tk₂ e (fun c o c1 c2 c3 c4 x => hs₅.extBut _ _ c1 (hs₄ _ _ c4 (hs₃.extBut _ _ c2 (hs₂.extBut _ _ c3 (hs₁.extBut _ _ c1 x))))) ⟨oe, hs₅.extBut _ _ hez hoe, hce⟩
theorem pyNext_zipG {Q : Option Value → Shared → Prop} (D : ZAp z TI TO i1 i2 d1 d2) (C1 : ItC i1 d1 n1 v1 t1) (C2 : ItC i2 d2 n2 v2 t2)
    (hz : IsZip s.heap z TI TO .none) (hTI : IsPair s.heap TI (.ref i1) (.ref i2)) (hTO : IsPair s.heap TO a b) (h1 : t1 k s.heap) (h2 : t2 k s.heap) (l1 : k < n1) (l2 : k < n2)
    (hQ : ∀ h' tk x y, v1 k x → v2 k y → IsZip h' z TI TO (rawInt s.heap.objs.size) → IsPair h' TO x y → t1 (k + 1) h' → t2 (k + 1) h' → IsPair h' s.heap.objs.size x y → h'.objs.size = s.heap.objs.size + 1 →
      (∀ c o, c ≠ z → c ≠ TO → c ≠ i1 → c ≠ i2 → s.heap.get? c = some o → h'.get? c = some o) → Q (some (.ref s.heap.objs.size)) { s with heap := h', toks := tk }) :
    wpAny (model prog w) A (pyNext (.ref z)) Q E s := by
  have hT : s.TypeIs (.ref z) "zip" := ⟨_, hz, rfl⟩
  unfold pyNext
  exact wpAny_bind (wpAny_attempt (wpAny_callSpecial?_slot (name := Str.ofString "__next__") hT F.slot_zip_next
    (wpAny_call_entry F.slot_zip_next hT F.entry_zip_next
      (zip_itemG D C1 C2 hz hTI hTO h1 h2 l1 l2 fun h' tk x y hx hy a1 a2 a3 a4 a5 a6 a7 => wpAny_pure (hQ h' tk x y hx hy a1 a2 a3 a4 a5 a6 a7)) (F.args_zip_next_1 _))))
theorem pyNext_zipG_end {Q : Option Value → Shared → Prop} (hh : A.handled = none) (D : ZAp z TI TO i1 i2 d1 d2) (C1 : ItC i1 d1 n1 v1 t1) (C2 : ItC i2 d2 n2 v2 t2)
    (hz : IsZip s.heap z TI TO .none) (hTI : IsPair s.heap TI (.ref i1) (.ref i2)) (hTO : IsPair s.heap TO a b) (h1 : t1 k s.heap) (h2 : t2 k s.heap) (hend : k = n1 ∨ (k < n1 ∧ k = n2))
    (hQ : ∀ h' tk, (∀ c o, c ≠ z → c ≠ TO → c ≠ i1 → c ≠ i2 → s.heap.get? c = some o → h'.get? c = some o) → Q none { s with heap := h', toks := tk }) : wpAny (model prog w) A (pyNext (.ref z)) Q E s := by
  have hT : s.TypeIs (.ref z) "zip" := ⟨_, hz, rfl⟩
  unfold pyNext
  refine wpAny_bind (wpAny_attempt (wpAny_callSpecial?_slot (name := Str.ofString "__next__") hT F.slot_zip_next
    (wpAny_call_entry F.slot_zip_next hT F.entry_zip_next (zip_endG hh D C1 C2 hz hTI hTO h1 h2 hend fun h' tk e hk he => ?_) (F.args_zip_next_1 _))))
  obtain ⟨o, ho, hc⟩ := he
  refine wpAny_bind (wpAny_isInstance (T := "StopIteration") (b := true) ⟨o, ho, hc⟩ isSubtype_stop ?_)
  exact wpAny_pure (hQ _ _ hk)
/-! ### a zip is made -/
/-- pyIter of u: one new object -/
structure Mki (u : Value) (o : Obj) (c : Heap → Prop) : Prop where
  run : ∀ (prog : Program) (w : World) (A : Around) (E : Value → Shared → Prop) (s : Shared) (Q : Value → Shared → Prop), c s.heap → Q (.ref s.heap.objs.size) { s with heap := s.heap.push o } → wpAny (model prog w) A (pyIter u) Q E s
  push : ∀ h o', c h → c (h.push o')
  nf : o.isFreed = false
theorem mki_str {x : Str} {t : Tok} : ∃ ty, (ty = "str_ascii_iterator" ∨ ty = "str_iterator") ∧ Mki (.str x t) { cls := .type ty, data := .fields #[.str x t, .int 0 0] } (fun _ => True) := by
  cases ha : x.cps.all (· < 128)
  · exact ⟨"str_iterator", .inr rfl, ⟨fun prog w A E s Q _ h => wpAny_pyIter_wide ha h, fun _ _ _ => trivial, rfl⟩⟩
  · exact ⟨"str_ascii_iterator", .inl rfl, ⟨fun prog w A E s Q _ h => wpAny_pyIter_ascii ha h, fun _ _ _ => trivial, rfl⟩⟩
theorem mki_list {l : Addr} {items : Array Value} : Mki (.ref l) { cls := .type "list_iterator", data := .fields #[.ref l, .int 0 0] } (fun h => h.IsList l items) :=
  ⟨fun prog w A E s Q c h => wpAny_pyIter_list c h, fun h o c => c.push o, rfl⟩
theorem mki_tup {l : Addr} {items : Array Value} : Mki (.ref l) { cls := .type "tuple_iterator", data := .fields #[.ref l, .int 0 0] } (fun h => h.IsTuple l items) :=
  ⟨fun prog w A E s Q c h => wpAny_pyIter_tuple c h, fun h o c => by
    obtain ⟨ob, e, r⟩ := c
    exact ⟨ob, Heap.get?_push_of_some _ e, r⟩, rfl⟩
abbrev zH2 (h : Heap) (o1 o2 : Obj) : Heap := (h.push o1).push o2
abbrev zH3 (h : Heap) (o1 o2 : Obj) : Heap := (zH2 h o1 o2).push { cls := .type "tuple", data := .seq #[.ref h.objs.size, .ref (h.push o1).objs.size] }
abbrev zH4 (h : Heap) (o1 o2 : Obj) : Heap := (zH3 h o1 o2).push { cls := .type "tuple", data := .seq #[.none, .none] }
abbrev zH5 (h : Heap) (o1 o2 : Obj) : Heap := (zH4 h o1 o2).push { cls := .type "zip", data := .fields #[.none, .bool false, .bool false, .ref (zH2 h o1 o2).objs.size, .ref (zH3 h o1 o2).objs.size] }
theorem meets_zipG {u1 u2 : Value} {o1 o2 : Obj} {c1 c2 : Heap → Prop} (m1 : Mki u1 o1 c1) (m2 : Mki u2 o2 c2) :
    Meets (Builtin.«zip.__new__» ⟨[.type "zip", u1, u2], []⟩) (fun _ R s => c1 s.heap ∧ c2 s.heap ∧ R (.ok (.ret (.ref (zH4 s.heap o1 o2).objs.size))) { s with heap := zH5 s.heap o1 o2 }) :=
  .of_wp fun prog w A R s h => by
    obtain ⟨hp, g, d, tk, os⟩ := s
    obtain ⟨hl1, hl2, h⟩ := h
    have hsub := sub_zip
    have hL2 : c2 (hp.push o1) := m2.push _ _ hl2
    wp_walk using m1.run _ _ _ _ _ _ hl1, m2.run _ _ _ _ _ _ hL2
    exact ⟨_, rfl, h⟩
end
end Dl
set_option Elab.async false
set_option linter.all false
set_option maxRecDepth 100000
set_option maxHeartbeats 4000000
set_option autoImplicit false
namespace Dl
open PySem PySem.Spec PyProof.Rows L2
theorem dep_ne {X : Cx} {pins : List (Addr × Obj)} {σ : L2.St} {H : Hp} {sh : Shared} {l b : Addr} {vs : List V} (I : Inv X pins σ H sh) (h : SqT X.K H l vs) (f : FpOk X pins H b) : l ≠ b := by
  rintro rfl
  rcases h with h | ⟨o, its, n, hk, _⟩
  · rcases h with h | ⟨o, h⟩ <;> (rw [f.1] at h; cases h)
  · have e := I.mod.kin l o hk
    have e0 := (I.ok.bs l o e).1
    rcases f.2.2.2.1 with q | q
    · exact I.ok.noex l o e q
    · exact absurd (Nat.lt_of_lt_of_le (Heap.lt_size e0) q) (Nat.lt_irrefl _)
/-- one side of a zip: the iterator at it, over the items ds -/
structure Src (K : PySem.W.Frag) (F : Hp) (it : Addr) (ds : List D) (st : Nat → Heap → Prop) : Prop where
  obj : ∀ i h, st i h → ∃ o, h.get? it = some o ∧ ∀ v, o.data ≠ .cell v
  keep : ∀ i h h', st i h → (∀ o, h.get? it = some o → h'.get? it = some o) → st i h'
  here : ∀ (X : Cx) (pins : List (Addr × Obj)) (σ : L2.St) (H : Hp) (s : Shared), X.K = K → Inv X pins σ H s → Same F H → ∃ (dep : List Addr) (val : Nat → Value → Prop) (c : Heap → Prop), c s.heap ∧ ItC it dep ds.length val (fun i h => st i h ∧ c h) ∧
    (∀ b ∈ dep, ∀ b', FpOk X pins H b' → b ≠ b') ∧ ∀ i x, val i x → ∃ v d, RelV v x ∧ ds[i]? = some d ∧ Rep K F v d
theorem src_str {K : PySem.W.Frag} {F : Hp} {it : Addr} {z : Str} {t : Tok} {ty : String} (hty : ty = "str_ascii_iterator" ∨ ty = "str_iterator") : Src K F it (chars z) (fun i h => h.IsStrIter it ty z t i) where
  obj := (itc_str hty).obj
  keep := fun i h h' st k => let ⟨o, ho, r⟩ := st; ⟨o, k o ho, r⟩
  here := fun X pins σ H s hK I sm => by
    have C := itc_str (it := it) (z := z) (t := t) hty
    refine ⟨[], fun i x => ∃ c u, z.cps[i]? = some c ∧ x = .str ⟨#[c]⟩ u, fun _ => True, trivial, ⟨fun i h st => C.obj i h st.1, fun i h h' st k => ⟨C.keep i h h' st.1 k, trivial⟩, ?_, ?_⟩, (fun b hb => nomatch hb), fun i x ⟨c, u, h1, h2⟩ => ⟨.str ⟨#[c]⟩, .str ⟨#[c]⟩, ⟨u, h2⟩, ?_, .str _⟩⟩
    · intro prog w A E s Q i hi st hq
      exact C.item prog w A E s Q i (by simpa [chars] using hi) st.1 fun x h' tk hv st' sb => hq x h' tk hv ⟨st', trivial⟩ sb
    · intro prog w A E s Q hh st he
      refine C.stop prog w A E s Q hh ?_ he
      have := st.1
      rwa [show (chars z).length = z.cps.size from by simp [chars]] at this
    · rw [chars, List.getElem?_map, Array.getElem?_toList, h1]; rfl
theorem src_tup {K : PySem.W.Frag} {F : Hp} {it l : Addr} {vs : List V} {ds : List D} (h1 : SqT K F l vs) (h2 : Reps K F vs ds) : Src K F it ds (fun i h => h.IsTupleIter it l i) where
  obj := fun i h ⟨o, e, _, d⟩ => ⟨o, e, fun v z => by rw [d] at z; cases z⟩
  keep := fun i h h' st k => st.at fun o e => k o e
  here := fun X pins σ H s hK I sm => by
    subst hK
    have h3 := same_sqT sm h1
    obtain ⟨its, rv, p, _⟩ := I.tuple h3
    have hl : its.length = ds.length := by rw [← h2.length, ← rv.length]
    have C := itc_tup (it := it) (l := l) (its := its)
    refine ⟨[l], fun i x => its[i]? = some x, fun h => h.IsTuple l its.toArray, p, ?_, fun b hb b' hf => ?_, fun i x hx => ?_⟩
    · rw [← hl]; exact C
    · rw [List.mem_singleton] at hb; subst hb; exact dep_ne I h3 hf
    · have hi := (List.getElem?_eq_some_iff.mp hx).1
      have hv : i < vs.length := by rw [rv.length]; exact hi
      obtain ⟨u, hu, ru⟩ := rv.get (List.getElem?_eq_getElem hv)
      rw [hx] at hu; cases hu
      obtain ⟨d, hd, rd⟩ := h2.get' (List.getElem?_eq_getElem hv)
      exact ⟨vs[i], d, ru, hd, rd⟩
theorem src_lst {K : PySem.W.Frag} {F : Hp} {it l : Addr} {vs : List V} {ds : List D} (h1 : F l = some (.lst vs)) (h2 : Reps K F vs ds) : Src K F it ds (fun i h => h.IsListIter it l i) where
  obj := fun i h ⟨o, e, _, d⟩ => ⟨o, e, fun v z => by rw [d] at z; cases z⟩
  keep := fun i h h' st k => st.at fun o e => k o e
  here := fun X pins σ H s hK I sm => by
    subst hK
    have h3 := sm _ _ h1
    obtain ⟨its, rv, p, _⟩ := I.list (SqL.of h3)
    have hl : its.length = ds.length := by rw [← h2.length, ← rv.length]
    have C := itc_list (it := it) (l := l) (its := its)
    refine ⟨[l], fun i x => its[i]? = some x, fun h => h.IsList l its.toArray, p.isList, ?_, fun b hb b' hf => ?_, fun i x hx => ?_⟩
    · rw [← hl]; exact C
    · rw [List.mem_singleton] at hb; subst hb
      rintro rfl
      rw [hf.1] at h3; cases h3
    · have hi := (List.getElem?_eq_some_iff.mp hx).1
      have hv : i < vs.length := by rw [rv.length]; exact hi
      obtain ⟨u, hu, ru⟩ := rv.get (List.getElem?_eq_getElem hv)
      rw [hx] at hu; cases hu
      obtain ⟨d, hd, rd⟩ := h2.get' (List.getElem?_eq_getElem hv)
      exact ⟨vs[i], d, ru, hd, rd⟩
/-- pairs of the items of both -/
def ItzG (K : PySem.W.Frag) (F : Hp) (ds es : List D) : It :=
  ⟨fun i H => Same F H ∧ i < ds.length ∧ i < es.length,
   fun i H v H' => ∃ T x y d e, v = .ref T ∧ H T = none ∧ H' = upd H T (.tup [x, y]) ∧ ds[i]? = some d ∧ es[i]? = some e ∧ Rep K F x d ∧ Rep K F y e,
   fun i H => Same F H ∧ (i = ds.length ∨ (i < ds.length ∧ i = es.length))⟩
theorem turn_zipG {P : Program} {w : World} {K : PySem.W.Frag} {F : Hp} {ds es : List D} {elts : List Expr} {kk : Nat} {tpos : Pos} {z TI TO i1 i2 : Addr} {st1 st2 : Nat → Heap → Prop} (hTIz : TI ≠ z) (hTOz : TO ≠ z) (hi1z : i1 ≠ z) (hi2z : i2 ≠ z) (hTITO : TI ≠ TO) (hTIi1 : TI ≠ i1) (hTIi2 : TI ≠ i2) (hTOi1 : TO ≠ i1) (hTOi2 : TO ≠ i2) (hi12 : i1 ≠ i2)
    (S1 : Src K F i1 ds st1) (S2 : Src K F i2 es st2) :
    Turn P w K (.Tuple elts kk tpos) (ItzG K F ds es) [z, TI, TO, i1, i2] z (fun i h => IsZip h z TI TO .none ∧ IsPair h TI (.ref i1) (.ref i2) ∧ (∃ x y, IsPair h TO x y) ∧ st1 i h ∧ st2 i h) where
  mem := by simp
  obj := fun i h st c hc => by
    obtain ⟨hz, hTI, ⟨x, y, hTO⟩, h1, h2⟩ := st
    have e' : c = z ∨ c = TI ∨ c = TO ∨ c = i1 ∨ c = i2 := by simpa using hc
    rcases e' with q | q | q | q | q
    · rw [q]; exact ⟨_, hz, fun v q => nomatch q⟩
    · rw [q]; exact ⟨_, hTI, fun v q => nomatch q⟩
    · rw [q]; exact ⟨_, hTO, fun v q => nomatch q⟩
    · rw [q]; exact S1.obj i h h1
    · rw [q]; exact S2.obj i h h2
  keep := fun i h h' st k => by
    obtain ⟨hz, hTI, ⟨x, y, hTO⟩, h1, h2⟩ := st
    exact ⟨k z (by simp) _ hz, k TI (by simp) _ hTI, ⟨x, y, k TO (by simp) _ hTO⟩, S1.keep i h h' h1 fun o q => k i1 (by simp) o q, S2.keep i h h' h2 fun o q => k i2 (by simp) o q⟩
  item := by
    intro X hP hw hK hc i pins s σ H E I hf st hg
    subst hP hw hK
    obtain ⟨hz, hTI, ⟨x0, y0, hTO⟩, h1, h2⟩ := st
    obtain ⟨sm, l1, l2⟩ := hg
    obtain ⟨dep1, val1, c1, hc1, C1, n1, r1⟩ := S1.here X pins σ H s rfl I sm
    obtain ⟨dep2, val2, c2, hc2, C2, n2, r2⟩ := S2.here X pins σ H s rfl I sm
    have Dz : ZAp z TI TO i1 i2 dep1 dep2 := ⟨hTIz, hTOz, hi1z, hi2z, hTITO, hTIi1, hTIi2, hTOi1, hTOi2, hi12, fun b hb => by
      have key : ∀ b', FpOk X pins H b' → b ≠ b' := fun b' hf' => (List.mem_append.mp hb).elim (fun q => n1 b q b' hf') fun q => n2 b q b' hf'
      exact ⟨key z (hf z (by simp)), key TO (hf TO (by simp)), key i1 (hf i1 (by simp)), key i2 (hf i2 (by simp))⟩⟩
    have hzl : z < s.heap.objs.size := Heap.lt_size hz
    refine pyNext_zipG Dz C1 C2 hz hTI hTO ⟨h1, hc1⟩ ⟨h2, hc2⟩ l1 l2 fun h' tk x y hx hy z' TO' h1' h2' hT hsz hk => ?_
    obtain ⟨v1, d1, rv1, hd1, rp1⟩ := r1 i x hx
    obtain ⟨v2, d2, rv2, hd2, rp2⟩ := r2 i y hy
    refine ⟨_, rfl, wpAny_letOwnedTupleGo_zip (s := { s with heap := h', toks := tk }) z' fun h'' z'' sb => ?_⟩
    have hT2 : h''.get? s.heap.objs.size = some { cls := .type "tuple", data := .seq #[x, y] } := (sb.2 _ (Nat.ne_of_gt hzl)).trans hT
    have new : ObjOk X.prog X.w (upd H s.heap.objs.size (.tup [v1, v2])) h'' s.heap.objs.size (.tup [v1, v2]) :=
      ⟨by show 2 ≤ sizeLine; decide, [x, y], .cons rv1 (.cons rv2 .nil), ⟨_, hT2, rfl, _, rfl⟩⟩
    have I1 : Inv X pins σ (upd H s.heap.objs.size (.tup [v1, v2])) { s with heap := h'', toks := tk } :=
      I.turnedNew (t' := tk) (ch := [z, TI, TO, i1, i2]) (fun c o hb q => (sb.2 c (fun q' => hb (by simp [q']))).trans (hk c o (fun q' => hb (by simp [q'])) (fun q' => hb (by simp [q'])) (fun q' => hb (by simp [q'])) (fun q' => hb (by simp [q'])) q)) hf (Nat.le_refl _) new
    refine ⟨.ref s.heap.objs.size, _, I1, rfl, ⟨_, v1, v2, d1, d2, rfl, I.hok.fresh (Nat.le_refl _), rfl, hd1, hd2, rp1, rp2⟩, ⟨z'', ?_, ⟨x, y, ?_⟩, ?_, ?_⟩, fun c hcm => ?_⟩
    · exact (sb.2 _ hTIz).trans (hk _ _ hTIz hTITO hTIi1 hTIi2 hTI)
    · exact (sb.2 _ hTOz).trans TO'
    · exact S1.keep _ _ _ h1'.1 fun o q => (sb.2 _ hi1z).trans q
    · exact S2.keep _ _ _ h2'.1 fun o q => (sb.2 _ hi2z).trans q
    · have hlt : c < s.heap.objs.size := by
        have e' : c = z ∨ c = TI ∨ c = TO ∨ c = i1 ∨ c = i2 := by simpa using hcm
        rcases e' with q | q | q | q | q
        · rw [q]; exact hzl
        · rw [q]; exact Heap.lt_size hTI
        · rw [q]; exact Heap.lt_size hTO
        · rw [q]; obtain ⟨_, e1, _⟩ := S1.obj i _ h1; exact Heap.lt_size e1
        · rw [q]; obtain ⟨_, e2, _⟩ := S2.obj i _ h2; exact Heap.lt_size e2
      rw [upd_ne (Nat.ne_of_lt hlt)]
      exact (hf c hcm).1
  done := by
    intro X hP hw hK hc i pins s σ H E I hf st hg
    subst hP hw hK
    obtain ⟨hz, hTI, ⟨x0, y0, hTO⟩, h1, h2⟩ := st
    obtain ⟨sm, hend⟩ := hg
    obtain ⟨dep1, val1, c1, hc1, C1, n1, r1⟩ := S1.here X pins σ H s rfl I sm
    obtain ⟨dep2, val2, c2, hc2, C2, n2, r2⟩ := S2.here X pins σ H s rfl I sm
    have Dz : ZAp z TI TO i1 i2 dep1 dep2 := ⟨hTIz, hTOz, hi1z, hi2z, hTITO, hTIi1, hTIi2, hTOi1, hTOi2, hi12, fun b hb => by
      have key : ∀ b', FpOk X pins H b' → b ≠ b' := fun b' hf' => (List.mem_append.mp hb).elim (fun q => n1 b q b' hf') fun q => n2 b q b' hf'
      exact ⟨key z (hf z (by simp)), key TO (hf TO (by simp)), key i1 (hf i1 (by simp)), key i2 (hf i2 (by simp))⟩⟩
    exact pyNext_zipG_end (I.ok.hd hc) Dz C1 C2 hz hTI hTO ⟨h1, hc1⟩ ⟨h2, hc2⟩ hend fun h' tk hk => ⟨rfl, I.turnedL (t' := tk) (ch := [z, TI, TO, i1, i2]) (fun c o hb q =>
      hk c o (fun q' => hb (by simp [q'])) (fun q' => hb (by simp [q'])) (fun q' => hb (by simp [q'])) (fun q' => hb (by simp [q'])) q) hf⟩
  self := fun A i s Q E st h => wpAny_pyIter_zip st.1 h
/-- what may stand in a zip: its items -/
inductive ZSrc : D → List D → Prop
  | str (z) : ZSrc (.str z) (chars z)
  | tup (ds) : ZSrc (.tup ds) ds
  | lst (ds) : ZSrc (.lst ds) ds
theorem zsrc_here {X : Cx} {pins : List (Addr × Obj)} {σ : L2.St} {H F : Hp} {sh : Shared} {d : D} {ds : List D} {v : V} {u : Value} (zs : ZSrc d ds) (I : Inv X pins σ H sh) (sm : Same F H) (rp : Rep X.K F v d) (ru : RelV v u) :
    ∃ (o : Obj) (c : Heap → Prop), Mki u o c ∧ c sh.heap ∧ ∀ it : Addr, ∃ st, Src X.K F it ds st ∧ ∀ h : Heap, h.get? it = some o → st 0 h := by
  cases zs with
  | str z =>
    cases rp
    obtain ⟨t, rfl⟩ := ru
    obtain ⟨ty, hty, m⟩ := mki_str (x := z) (t := t)
    exact ⟨_, _, m, trivial, fun it => ⟨_, src_str hty, fun h e => ⟨_, e, rfl, rfl⟩⟩⟩
  | tup ds =>
    obtain ⟨a, vs, rfl, h1, h2⟩ := rep_tup rp
    cases ru
    obtain ⟨its, _, p, _⟩ := I.tuple (same_sqT sm h1)
    exact ⟨_, _, mki_tup (l := a) (items := its.toArray), p, fun it => ⟨_, src_tup h1 h2, fun h e => ⟨_, e, rfl, rfl⟩⟩⟩
  | lst ds =>
    obtain ⟨a, vs, rfl, h1, h2⟩ := rep_lst rp
    cases ru
    obtain ⟨its, _, p, _⟩ := I.list (SqL.of (sm _ _ h1))
    exact ⟨_, _, mki_list (l := a) (items := its.toArray), p.isList, fun it => ⟨_, src_lst h1 h2, fun h e => ⟨_, e, rfl, rfl⟩⟩⟩
theorem yl_zip {K : PySem.W.Frag} {F : Hp} {ds es : List D} : Yl K (ItzG K F ds es) F (ds.zipWith (fun a b => .tup [a, b]) es) := by
  refine ⟨fun i H hi h => ⟨h, ?_⟩, fun H h => ⟨h, ?_⟩, fun i H x H' hi h y => ?_⟩
  · rw [List.length_zipWith] at hi; omega
  · rw [List.length_zipWith]; omega
  · obtain ⟨T, a, b, d, e, h1, h2, h3, h4, h5, h6, h7⟩ := y
    exact ⟨.tup [d, e], by rw [List.getElem?_zipWith, h4, h5], .inr ⟨T, [a, b], [d, e], h1, h2, h3, rfl, .cons h6 (.cons h7 .nil)⟩⟩
theorem nn {a b c : Nat} (h : b ≠ c) : (a + b : Nat) ≠ a + c := fun z => h (Nat.add_left_cancel z)
theorem n0 {a c : Nat} (h : 0 ≠ c) : (a : Nat) ≠ a + c := fun z => h (Nat.add_left_cancel (n := a) (by rw [Nat.add_zero]; exact z))
theorem call_zipG {prog : Program} {w : World} {A : Around} {E : Value → Shared → Prop} {s : Shared} {u1 u2 : Value} {o1 o2 : Obj} {c1 c2 : Heap → Prop} (m1 : Mki u1 o1 c1) (m2 : Mki u2 o2 c2) {Q : Value → Shared → Prop} (hl1 : c1 s.heap) (hl2 : c2 s.heap)
    (h : ∀ h', IsZip h' (s.heap.objs.size + 4) (s.heap.objs.size + 2) (s.heap.objs.size + 3) .none → IsPair h' (s.heap.objs.size + 2) (.ref s.heap.objs.size) (.ref (s.heap.objs.size + 1)) →
      IsPair h' (s.heap.objs.size + 3) .none .none → (o1.isFreed = false → h'.get? s.heap.objs.size = some o1) → (o2.isFreed = false → h'.get? (s.heap.objs.size + 1) = some o2) → h'.objs.size = s.heap.objs.size + 5 →
      (∀ c o, s.heap.get? c = some o → h'.get? c = some o) → Q (.ref (s.heap.objs.size + 4)) { s with heap := h' }) :
    wpAny (model prog w) A (call (.type "zip") [u1, u2]) Q E s := by
  refine callType_new F.called_zip (by decide) (F.typeCall_zip_2 _ _) (F.newCall_zip_2 _ _) (fun obj => F.args_object_init_3 obj _ _) F.entry_zip_new
    (meets_zipG m1 m2) ⟨hl1, hl2, ?_⟩
  have z1 : (s.heap.push o1).objs.size = s.heap.objs.size + 1 := Heap.size_push ..
  have z2 : (zH2 s.heap o1 o2).objs.size = s.heap.objs.size + 2 := by rw [Heap.size_push, z1]
  have z3 : (zH3 s.heap o1 o2).objs.size = s.heap.objs.size + 3 := by rw [Heap.size_push, z2]
  have z4 : (zH4 s.heap o1 o2).objs.size = s.heap.objs.size + 4 := by rw [Heap.size_push, z3]
  have z5 : (zH5 s.heap o1 o2).objs.size = s.heap.objs.size + 5 := by rw [Heap.size_push, z4]
  have g5 : (zH5 s.heap o1 o2).get? (zH4 s.heap o1 o2).objs.size = some _ := Heap.get?_push_size _ rfl
  have g4 : (zH5 s.heap o1 o2).get? (zH3 s.heap o1 o2).objs.size = some _ := Heap.get?_push_of_some _ (Heap.get?_push_size _ rfl)
  have g3 : (zH5 s.heap o1 o2).get? (zH2 s.heap o1 o2).objs.size = some _ := Heap.get?_push_of_some _ (Heap.get?_push_of_some _ (Heap.get?_push_size _ rfl))
  have g2 : o2.isFreed = false → (zH5 s.heap o1 o2).get? (s.heap.push o1).objs.size = some _ := fun hf => Heap.get?_push_of_some _ (Heap.get?_push_of_some _ (Heap.get?_push_of_some _ (Heap.get?_push_size _ hf)))
  have g1 : o1.isFreed = false → (zH5 s.heap o1 o2).get? s.heap.objs.size = some _ := fun hf => Heap.get?_push_of_some _ (Heap.get?_push_of_some _ (Heap.get?_push_of_some _ (Heap.get?_push_of_some _ (Heap.get?_push_size _ hf))))
  show _ ∧ _
  rw [z2, z3, z4] at g5
  rw [z1, z2] at g3
  rw [z3] at g4
  rw [z1] at g2
  rw [z4]
  exact ⟨⟨_, g5, rfl⟩, h _ g5 g3 g4 g1 g2 z5 fun c o x => Heap.get?_push_of_some _ (Heap.get?_push_of_some _ (Heap.get?_push_of_some _ (Heap.get?_push_of_some _ (Heap.get?_push_of_some _ x))))⟩
section
variable {X : Cx} {N : En} {W : WX} {n : Nat} {δ : List (Option S)} {μ μ1 : List M} {e e2 : Expr} {d1 d2 : D} {ds es : List D} {elts : List Expr} {kk : Nat} {p pos tpos : Pos}
theorem di_zip (g : Go X N W n) (ha : DA X N W δ μ [e, e2] [.p d1, .p d2] μ1) (z1 : ZSrc d1 ds) (z2 : ZSrc d2 es) (hm : X.mg "zip" = none) (hg : Gl X "zip" := by rfl)
    (hs : starEach [e, e2] X.env = (false, eval e X.env) :: starEach [e2] X.env := by rfl) (hpl : (backTo pos (starEach [e2] X.env)).any (·.1) = false := by rfl) :
    DI X N W δ μ (.Tuple elts kk tpos) (.Call (.Name "zip" p) [e, e2] [] pos) (ds.zipWith (fun a b => .tup [a, b]) es) μ1 := by
  refine ⟨fun pins s σ H Rk I ⟨F, A, R0, k⟩ => ?_⟩
  refine Call_ (ld_blt I hg hm PyProof.Rows.boot_zip (PyProof.Rows.callWith_type1 (thn (ha.run pos pins s σ H (fun vs H' => ∃ F' A', Same F F' ∧ A <+: A' ∧ Rl N F' A' H' σ δ μ1 ∧ RepSs N.K F' A' vs [.p d1, .p d2]) I ⟨F, A, R0, fun vs F' A' H' h1 h2 h3 h4 => ⟨F', A', h1, h2, h3, h4⟩⟩) fun us s1 ⟨vs, H1, I1, r1, F1, A1, e1, p1, R1, rv⟩ => ?_) hs hpl))
  obtain ⟨v, u, rfl, rp1, rp2⟩ := two_of rv
  have hK := g.hK
  rw [hK] at rp1 rp2
  cases r1 with
  | cons ru1 rr =>
    cases rr with
    | cons ru2 rr =>
      cases rr
      obtain ⟨o1, c1, m1, h1, q1⟩ := zsrc_here z1 I1 R1.rc.sub (show Rep X.K F1 v d1 from rp1) ru1
      obtain ⟨o2, c2, m2, h2, q2⟩ := zsrc_here z2 I1 R1.rc.sub (show Rep X.K F1 u d2 from rp2) ru2
      refine call_zipG m1 m2 h1 h2 fun h' hz hTI hTO f1 f2 hsz hk => wpAny_pyIter_zip hz ?_
      have I2 : Inv X pins σ H1 { s1 with heap := h' } := I1.kept (t' := s1.toks) hk
      obtain ⟨st1, S1, b1⟩ := q1 s1.heap.objs.size
      obtain ⟨st2, S2, b2⟩ := q2 (s1.heap.objs.size + 1)
      have g1 := f1 m1.nf
      have g2 := f2 m2.nf
      have st10 := b1 h' g1
      have st20 := b2 h' g2
      have T := turn_zipG (P := X.prog) (w := X.w) (K := X.K) (F := F1) (ds := ds) (es := es) (elts := elts) (kk := kk) (tpos := tpos) (z := s1.heap.objs.size + 4) (TI := s1.heap.objs.size + 2) (TO := s1.heap.objs.size + 3) (i1 := s1.heap.objs.size) (i2 := s1.heap.objs.size + 1)
        (nn (by decide)) (nn (by decide)) (n0 (by decide)) (nn (by decide)) (nn (by decide)) (n0 (by decide)).symm (nn (by decide)) (n0 (by decide)).symm (nn (by decide)) (n0 (by decide)) S1 S2
      refine ⟨s1.heap.objs.size + 4, [s1.heap.objs.size + 4, s1.heap.objs.size + 2, s1.heap.objs.size + 3, s1.heap.objs.size, s1.heap.objs.size + 1], _, _, H1, rfl, I2, T, ⟨hz, hTI, ⟨_, _, hTO⟩, st10, st20⟩, fun c hcm => ?_, ?_⟩
      · have e' : c = s1.heap.objs.size + 4 ∨ c = s1.heap.objs.size + 2 ∨ c = s1.heap.objs.size + 3 ∨ c = s1.heap.objs.size ∨ c = s1.heap.objs.size + 1 := by simpa using hcm
        have hle : s1.heap.objs.size ≤ c := by
          rcases e' with z | z | z | z | z
          · rw [z]; exact Nat.le_add_right _ _
          · rw [z]; exact Nat.le_add_right _ _
          · rw [z]; exact Nat.le_add_right _ _
          · rw [z]; exact Nat.le_refl _
          · rw [z]; exact Nat.le_add_right _ _
        exact I1.fpOk hle (I1.hok.fresh hle)
      · have y := yl_zip (K := X.K) (F := F1) (ds := ds) (es := es)
        rw [← hK] at y ⊢
        exact k _ F1 A1 H1 e1 p1 R1 y
end
end Dl
set_option Elab.async false
set_option linter.all false
set_option maxRecDepth 100000
set_option maxHeartbeats 4000000
set_option autoImplicit false
namespace Dl
open PySem PySem.Spec PyProof.Rows L2
/-! ## isinstance -/
structure ClsI (K : PySem.W.Frag) (C : Addr) : Prop where
  cl : Cls K C
  ha : PySem.W.findIn K (.ref C) "__class__" = some (some (.builtin "object.__class__"))
  hn : PySem.W.specialIn K (.builtin "object.__class__") "__get__" = some (some (.builtin "getset_descriptor.__get__"))
  ht : PySem.W.takesIn K (.builtin "object.__class__") = some true
  hm : PySem.W.mroIn K C (.type "object") = some true
inductive TyI (K : PySem.W.Frag) : D → Value → Prop
  | non : TyI K .non (.type "NoneType")
  | bl (b) : TyI K (.bl b) (.type "bool")
  | int (i) : TyI K (.int i) (.type "int")
  | str (z) : TyI K (.str z) (.type "str")
  | tup (ds) : TyI K (.tup ds) (.type "tuple")
  | lst (ds) : TyI K (.lst ds) (.type "list")
  | dic (ks ds) : TyI K (.dic ks ds) (.type "dict")
  | ins (C ns ds) : ClsI K C → TyI K (.ins C ns ds) (.ref C)
inductive ClsD : D → Value → Prop
  | ty (n) : ClsD (.ty n) (.type n)
  | adr (C) : ClsD (.adr C) (.ref C)
theorem tyX_of {K : PySem.W.Frag} {F H : Hp} {v : V} {d : D} {t : Value} (sm : Same F H) (ty : TyI K d t) (rp : Rep K F v d) : TyX K H v t := by
  cases ty with
  | non => cases rp; exact .base .non
  | bl b => cases rp; exact .base (.bl b)
  | int b => cases rp; exact .base (.int b)
  | str b => cases rp; exact .base (.str b)
  | tup ds =>
    obtain ⟨a, vs, rfl, h1, _⟩ := rep_tup rp
    rcases same_sqT sm h1 with (h | ⟨o, h⟩) | ⟨o, its, n, hk, hc, _⟩
    · exact .base (.tup h)
    · exact .fTuple h
    · exact .kTuple hk hc
  | lst ds =>
    obtain ⟨a, vs, rfl, h1, _⟩ := rep_lst rp
    exact .base (.lst (sm _ _ h1))
  | dic ks ds =>
    generalize hd : D.dic ks ds = d' at rp
    cases rp with
    | dic h1 h2 => exact .base (.dK (sm _ _ h1))
    | _ => cases hd
  | ins C ns ds c =>
    obtain ⟨a, dx, fs, rfl, h1, _⟩ := rep_ins rp
    exact .base (.ins (sm _ _ h1) c.cl c.ha c.hn c.ht c.hm)
section
variable {X : Cx} {N : En} {W : WX} {n : Nat} {δ δ' δ1 δ2 : List (Option S)} {μ μ' μ1 μ2 μ3 : List M} {e a b c o : Expr} {es : List Expr} {ss : List S} {pos p apos : Pos} {d : D} {s s1 s2 : S} {r : Rx} {R : Rel} {k : Nat} {x m f : Str} {dd : List D} {C : Addr}
theorem c_isi (g : Go X N W n) {d c : D} {t u : Value} {q : Bool} (ty : TyI X.K d t) (cl : ClsD c u) (h : PySem.W.kitOne X.K t u = some q) : CallOk X N W (.builtin "isinstance") μ [.p d, .p c] (.v (.p (.bl q))) μ :=
  ⟨_, call_isi, fun σ δ F A H vs Q R rv k => by
    obtain ⟨v, w, rfl, h1, h2⟩ := two_of rv
    have hK := g.hK
    have h1' : Rep X.K F v d := by rw [← hK]; exact h1
    have h2' : Rep X.K F w c := by rw [← hK]; exact h2
    refine ⟨v, w, t, u, q, rfl, ?_, tyX_of R.rc.sub ty h1', h, k.here R (.bl _)⟩
    cases cl with
    | ty n => cases h2'; exact .ty n
    | adr C => cases h2'; exact .own C⟩
/-- a builtin type by its name -/
theorem de_ty {x : Str} {T : String} (hm : X.mg x = none) (hv : bootBuiltins x = some (.type T)) (hg : Gl X x := by rfl) (hn : x ≠ "__name__" := by decide) (hd : (x == ("__debug__" : Str)) = false := by decide) : DE X N W δ μ (.Name x pos) (.v (.p (.ty T))) μ :=
  de_c (pe_bltn (v := .ty T) hg hm hv rfl hn hd) fun _ _ => .ty T
/-! ## chains -/
theorem de_chn {op op' : CmpOp} {s3 : S} {k k' : Bool} (ha : DE X N W δ μ a (.v s1) μ1) (hb : DE X N W δ μ1 b (.v s2) μ2) (h : OpOk X N W (compareOp op) μ2 s1 s2 (.v (.p (.bl k))) μ2)
    (hc : k = true → DE X N W δ μ2 c (.v s3) μ2) (h' : k = true → OpOk X N W (compareOp op') μ2 s2 s3 (.v (.p (.bl k'))) μ2) (hm : lastMarks [op, op'] [b, c] = false := by with_unfolding_all rfl) : DE X N W δ μ (.Compare a [op, op'] [b, c] pos) (.v (.p (.bl (k && k')))) μ2 := by
  obtain ⟨rr, ho, hr⟩ := h
  cases k with
  | false =>
    refine PE.imp (pe_chain (op' := op') (r' := fun _ _ _ _ => False) ho (fun _ _ _ _ _ _ _ _ _ _ _ _ z => z.elim) ha hb (pe_no (X := X) (e := c)) hm) fun σ H Q ⟨F, A, R, q⟩ => ⟨F, A, R, fun x F1 A1 H1 e1 p1 R1 rx => ⟨F1, A1, R1, fun y F2 A2 H2 e2 p2 R2 ry => hr σ δ F2 A2 H2 x y _ R2 (rx.mono e2 p2) ry fun v F3 A3 H3 e3 p3 R3 rv => ?_⟩⟩
    have rv' : Rep N.K F3 v (.bl false) := rv
    cases rv'
    exact ⟨false, rfl, iteF (q _ F3 A3 H3 ((e1.trans e2).trans e3) ((p1.trans p2).trans p3) R3 (.bl _))⟩
  | true =>
    obtain ⟨rr', ho', hr'⟩ := h' rfl
    refine PE.imp (pe_chain ho ho' ha hb (hc rfl) hm) fun σ H Q ⟨F, A, R, q⟩ => ⟨F, A, R, fun x F1 A1 H1 e1 p1 R1 rx => ⟨F1, A1, R1, fun y F2 A2 H2 e2 p2 R2 ry => hr σ δ F2 A2 H2 x y _ R2 (rx.mono e2 p2) ry fun v F3 A3 H3 e3 p3 R3 rv => ?_⟩⟩
    have rv' : Rep N.K F3 v (.bl true) := rv
    cases rv'
    exact ⟨true, rfl, iteT ⟨F3, A3, R3, fun z F4 A4 H4 e4 p4 R4 rz => hr' σ δ F4 A4 H4 y z Q R4 ((ry.mono e3 p3).mono e4 p4) rz (EndE.to (((e1.trans e2).trans e3).trans e4) (((p1.trans p2).trans p3).trans p4) q)⟩⟩
/-! ## written dicts with text keys -/
theorem de_kdIx {es : Array DictEntry} {m : Nat} {z : Str} {ad : Addr} {u : Value} (Dk : KDict X.K X.w ad es m) (ha : DE X N W δ μ a (.v (.p (.adr ad))) μ1) (hb : DE X N W δ μ1 b (.v (.p (.str z))) μ2) (h : PySem.W.nsIn X.K ad z = some (some u)) {v : V} (ru : RelV v u) (rp : ∀ K F, Rep K F v d) (hs : PlainIx b := by exact fun _ _ => rfl) :
    DE X N W δ μ (.Subscript a b pos) (.v (.p d)) μ2 := by
  refine ⟨fun pins s σ H Q I ⟨F, A, R0, q⟩ => ?_⟩
  refine Subscript_ (two_then ha hb I R0 (fn := fun v u => subscriptTail a b v u) fun v' u' s3 x y H2 F2 A2 I2 rx ry e2 p2 R2 h1 h2 => ?_)
  cases rs_adr h1
  cases rs_str h2
  cases rx
  obtain ⟨t, rfl⟩ := ry
  refine tail_any (kd_type Dk I2) PySem.F.slot_dict_getitem.lookup (op_item_kd Dk pins s3 σ H2 (.ref ad) (.str z) (.ref ad) (.str z t) Q I2 rfl ⟨t, rfl⟩ ⟨z, u, v, rfl, rfl, h, ru, q v F2 A2 H2 e2 p2 R2 (rp _ _)⟩) (by first | exact hs _ _ | with_unfolding_all rfl)
theorem de_kdGet {es : Array DictEntry} {m : Nat} {z : Str} {ad : Addr} {dflt : D} {u : Option Value} {e1 e2 : Expr} (Dk : KDict X.K X.w ad es m) (ho : DE X N W δ μ o (.v (.p (.adr ad))) μ1) (h1 : DE X N W δ μ1 e1 (.v (.p (.str z))) μ2) (h2 : DE X N W δ μ2 e2 (.v (.p dflt)) μ3) (h : PySem.W.nsIn X.K ad z = some u)
    (hd : match u with | some u => ∃ v, RelV v u ∧ ∀ K F, Rep K F v d | none => d = dflt) (mm : M2 X o "get" apos e1 e2 pos) : DE X N W δ μ (.Call (.Attribute o "get" apos) [e1, e2] [] pos) (.v (.p d)) μ3 := by
  refine ⟨fun pins s σ H Q I ⟨F, A, R0, q⟩ => ?_⟩
  refine wpAny_Call_method mm.base mm.few mm.line PySem.F.plainAttrs_dict PySem.F.slot_dict_get PySem.F.type_dict_get (thn (ho.run pins s σ H (fun v H' => ∃ F' A', Same F F' ∧ A <+: A' ∧ Rl N F' A' H' σ δ μ1 ∧ RepS N.K F' A' v (.p (.adr ad))) I ⟨F, A, R0, fun v F' A' H' h1 h2 h3 h4 => ⟨F', A', h1, h2, h3, h4⟩⟩) fun uo s1 ⟨x, H1, I1, rx, F1, A1, e1', p1', R1, h4⟩ => ?_)
  cases rs_adr h4
  obtain rfl : uo = Value.ref ad := rx
  refine ⟨kd_type Dk I1, fun b q => ?_, ?_⟩
  · cases q
    exact ⟨_, I1.kIn _ _ Dk.at_, rfl⟩
  rw [mm.trees]
  refine Calls.callWith_builtin rfl (Calls.evalArgs_plain (Calls.spliced_cons (thn (h1.run pins s1 σ H1 (fun v H' => ∃ F' A', Same F1 F' ∧ A1 <+: A' ∧ Rl N F' A' H' σ δ μ2 ∧ RepS N.K F' A' v (.p (.str z))) I1 ⟨F1, A1, R1, fun v F' A' H' h1 h2 h3 h4 => ⟨F', A', h1, h2, h3, h4⟩⟩) fun iv s2 ⟨y, H2, I2, ry, F2, A2, e2', p2', R2, h5⟩ =>
    Calls.spliced_cons (thn (h2.run pins s2 σ H2 (fun v H' => ∃ F' A', Same F2 F' ∧ A2 <+: A' ∧ Rl N F' A' H' σ δ μ3 ∧ RepS N.K F' A' v (.p dflt)) I2 ⟨F2, A2, R2, fun v F' A' H' h1 h2 h3 h4 => ⟨F', A', h1, h2, h3, h4⟩⟩) fun fv s3 ⟨w, H3, I3, rw', F3, A3, e3', p3', R3, h6⟩ => Calls.spliced_nil ?_))))
  cases rs_str h5
  obtain ⟨t, rfl⟩ := ry
  have mo := PySem.W.mapOf_K (prog := X.prog) (w := X.w) I3.kIn Dk.at_ Dk.lit
  refine call_meetsIn PySem.F.slot_dict_get (kd_type Dk I3) PySem.F.entry_dict_get (PySem.F.args_dict_get_3 _ _ _) (meets_dict_get_default (PySem.strKind X.prog X.w) ad (PySem.strKind_is X.prog X.w z t) Dk.low fv) ⟨_, mo, ?_⟩
  rw [PySem.W.find_K Dk.at_ h]
  cases u with
  | some u0 =>
    obtain ⟨v0, r0, rp⟩ := hd
    exact ⟨v0, H3, I3.tok _, r0, q v0 F3 A3 H3 ((e1'.trans e2').trans e3') ((p1'.trans p2').trans p3') R3 (rp _ _)⟩
  | none =>
    have hd' : d = dflt := hd
    subst hd'
    exact ⟨w, H3, I3.tok _, rw', q w F3 A3 H3 ((e1'.trans e2').trans e3') ((p1'.trans p2').trans p3') R3 h6⟩
end
end Dl
set_option Elab.async false
set_option linter.all false
set_option maxRecDepth 100000
set_option maxHeartbeats 4000000
set_option autoImplicit false
namespace Dl
open PySem PySem.Spec PyProof.Rows L2
/-! ## own errors that keep their only argument -/
/-- what __init__ of such a class does with an exception that is being made -/
def spErr (K : PySem.W.Frag) : Sp := fun vs H Q _ => ∃ (a C : Addr) (y : V), vs = [.ref a, y] ∧ OexC K C ∧ PySem.W.findIn K (.ref C) "value" = some none ∧ H a = some (exo a C none) ∧
  ∀ dx, H dx = none → dx ≠ a → Q .non (upd (upd H dx (exd dx [("value", y)])) a (exo a C (some dx)))
/-- an own error class of the text, by its name -/
structure Ce (P : Program) (w : World) (K : PySem.W.Frag) (mg : Str → Option Value) (base : Heap) (k : Nat) (C : Addr) (x : Str) : Prop where
  at_ : mg x = some (.ref C)
  oc : OexC K C
  nv : PySem.W.findIn K (.ref C) "value" = some none
  ex : ∃ (f : Addr) (fd : FuncData) (ps : List Str), FnOk P w K mg base (L2.CX P w) k f fd ps (spErr K) ∧ PySem.W.findIn K (.ref C) "__init__" = some (some (.ref f)) ∧ PySem.W.typeIn K (.ref f) = some (.type "function") ∧ Binds K fd ps []
section
variable {X : Cx} {N : En} {W : WX} {n : Nat} {δ δ' δ1 δ2 : List (Option S)} {μ μ' μ1 μ2 μ3 : List M} {e a b c o : Expr} {es : List Expr} {ss : List S} {pos p apos : Pos} {d : D} {s s1 s2 : S} {r : Rx} {R : Rel} {k : Nat} {x m f : Str} {dd : List D} {C : Addr}
theorem ds_raise (g : Go X N W n) (ce : Ce X.prog X.w X.K X.mg X.base k C x) (ha : DE X N W δ μ e (.v (.p d)) μ1) (hk : k + 1 ≤ n := by decide) (hg : Gl X x := by rfl) (hdb : (x == ("__debug__" : Str)) = false := by decide) (hs : starEach (e :: []) X.env = (false, eval e X.env) :: starEach [] X.env := by rfl) (hpl : (backTo p (starEach [] X.env)).any (·.1) = false := by rfl) :
    DS X N W δ μ (.Raise (some (.Call (.Name x apos) [e] [] p)) none pos) (.xx C d δ μ1) := by
  obtain ⟨f, fd, ps, Fo, hi, ht, hb⟩ := ce.ex
  have hx : Passes (L2.CX X.prog X.w) X (fun _ _ _ => False) := fun _ _ _ _ _ _ _ c => by
    obtain ⟨_, _, _, _, _, _, _, _, _, _, _, _, z⟩ := c
    exact z.elim
  refine PS.imp (ps_raise g.calm g.tk (pmk_oex ce.oc hi ht Fo (g.room.mono hk) hb .nil hx hg ce.at_ (da_cons ha da_nil hs) hdb hs hpl)) fun K σ H ⟨F, A, R0, q⟩ => ?_
  refine ⟨F, A, R0, fun vs F1 A1 H1 e1 p1 R1 rv => ?_⟩
  obtain ⟨v, rfl, rp⟩ := one_of rv
  refine ⟨by show 1 ≤ 1000; decide, fun a na => ?_⟩
  refine ⟨a, C, v, rfl, ce.oc, ce.nv, upd_same, fun dx ndx ne => ⟨rfl, dx, [("value", v)], upd_same, ?_, ?_, ?_⟩⟩
  · rw [upd_ne ne, upd_same]
  · rw [upd_ne ne] at ndx; exact ndx
  · have ndx' : H1 dx = none := by rw [upd_ne ne] at ndx; exact ndx
    have e : upd (del (upd (upd (upd H1 a (exo a C none)) dx (exd dx [("value", v)])) a (exo a C (some dx))) a) dx (.xd [("value", v)]) = upd H1 dx (.xd [("value", v)]) := by
      funext b
      by_cases hb : b = dx
      · subst hb; rw [upd_same, upd_same]
      · rw [upd_ne hb, upd_ne hb]
        by_cases ha : b = a
        · subst ha; rw [del_same]; exact na.symm
        · rw [del_ne ha, upd_ne ha, upd_ne hb, upd_ne ha]
    rw [e]
    have sm := same_updN (o := .xd [("value", v)]) (R1.rc.fresh ndx').2.1
    exact q σ dx v _ A1 _ (e1.trans sm) p1 (R1.to sm (List.prefix_refl _) (R1.rc.frozen ndx' _)) upd_same (Rep.mono sm rp)
/-! ## statements with an expression that raises -/
theorem ds_exprX (h : DE X N W δ μ e (.x C d) μ1) (hs : swapsWith e none pos.line X.env = pure false := by rfl) : DS X N W δ μ (.Expr e pos) (.xx C d δ μ1) :=
  PS.imp (ps_expr h hs) fun K σ H ⟨F, A, R, k⟩ => ⟨F, A, R, fun dx v F' A' H' e p R' h1 h2 => k σ dx v F' A' H' e p R' h1 h2⟩
/-! ## lists that change, by their methods -/
theorem m_append {j : Nat} {ds : List D} (hj : μ[j]? = some (.lst ds)) (hj0 : μ1[j]? = some (.lst ds)) (hl : ds.length < sizeLine) : MtOk X N W "list" "list.append" μ μ1 (.l j) [.p d] (.v (.p .non)) (μ1.set j (.lst (ds ++ [d]))) :=
  ⟨_, mt_append, fun σ δ F A H x R rx => by
    obtain ⟨a, rfl, ha⟩ := rx
    obtain ⟨ws, h1, h2⟩ := R.rc.mus j a _ ha hj
    exact .inl ⟨rfl, ws, SqL.of h1⟩, fun σ δ F A H x vs Q R rx rv k => by
    obtain ⟨v, rfl, h⟩ := one_of rv
    obtain ⟨a, rfl, ha⟩ := rx
    obtain ⟨ws, h1, h2⟩ := R.rc.mus j a _ ha hj0
    refine ⟨a, ws, v, rfl, rfl, h1, by rw [h2.length]; exact hl, ?_⟩
    exact k .non F A _ (Same.refl _) (List.prefix_refl _) (R.to (Same.refl _) (List.prefix_refl _) (R.rc.write ha hj0 trivial ⟨_, upd_same, h2.snoc h⟩)) .non⟩
theorem m_extend {j : Nat} {ds es : List D} (hj : μ[j]? = some (.lst ds)) (hj0 : μ1[j]? = some (.lst ds)) (hl : ds.length + es.length ≤ sizeLine) : MtOk X N W "list" "list.extend" μ μ1 (.l j) [.p (.lst es)] (.v (.p .non)) (μ1.set j (.lst (ds ++ es))) :=
  ⟨_, mt_extend, fun σ δ F A H x R rx => by
    obtain ⟨a, rfl, ha⟩ := rx
    obtain ⟨ws, h1, h2⟩ := R.rc.mus j a _ ha hj
    exact .inl ⟨rfl, ws, SqL.of h1⟩, fun σ δ F A H x vs Q R rx rv k => by
    obtain ⟨v, rfl, h⟩ := one_of rv
    obtain ⟨a, rfl, ha⟩ := rx
    obtain ⟨ws, h1, h2⟩ := R.rc.mus j a _ ha hj0
    obtain ⟨b, us, rfl, h3, h4⟩ := rep_lst h
    refine ⟨a, b, ws, us, rfl, rfl, h1, R.rc.sub _ _ h3, by rw [h2.length, h4.length]; exact hl, ?_⟩
    exact k .non F A _ (Same.refl _) (List.prefix_refl _) (R.to (Same.refl _) (List.prefix_refl _) (R.rc.write ha hj0 trivial ⟨_, upd_same, h2.append h4⟩)) .non⟩
theorem Reps.eraseIdx {K : PySem.W.Frag} {F : Hp} : ∀ {vs : List V} {ds : List D} (i : Nat), Reps K F vs ds → Reps K F (vs.eraseIdx i) (ds.eraseIdx i)
  | _, _, _, .nil => .nil
  | _, _, 0, .cons _ t => t
  | _, _, i + 1, .cons r t => .cons r (Reps.eraseIdx i t)
theorem m_popAt {j : Nat} {ds : List D} {i : Int} {q : Nat} (hj : μ[j]? = some (.lst ds)) (hj0 : μ1[j]? = some (.lst ds)) (hi : -(2 ^ 63) ≤ i ∧ i < 2 ^ 63) (hq : seqIndex? i ds.length = some q) (hd : ds[q]? = some d) : MtOk X N W "list" "list.pop" μ μ1 (.l j) [.p (.int i)] (.v (.p d)) (μ1.set j (.lst (ds.eraseIdx q))) :=
  ⟨_, mt_popAt, fun σ δ F A H x R rx => by
    obtain ⟨a, rfl, ha⟩ := rx
    obtain ⟨ws, h1, h2⟩ := R.rc.mus j a _ ha hj
    exact .inl ⟨rfl, ws, SqL.of h1⟩, fun σ δ F A H x vs Q R rx rv k => by
    obtain ⟨v, rfl, h⟩ := one_of rv
    obtain ⟨a, rfl, ha⟩ := rx
    obtain ⟨ws, h1, h2⟩ := R.rc.mus j a _ ha hj0
    obtain ⟨y, h3, h4⟩ := h2.get hd
    refine ⟨a, ws, i, q, y, rfl, by rw [rs_int h], h1, hi.1, hi.2, by rw [h2.length]; exact hq, h3, ?_⟩
    exact k y F A _ (Same.refl _) (List.prefix_refl _) (R.to (Same.refl _) (List.prefix_refl _) (R.rc.write ha hj0 trivial ⟨_, upd_same, h2.eraseIdx q⟩)) h4⟩
/-! ## lists and tuples put together -/
theorem o_catL {ds es : List D} (hl : ds.length + es.length ≤ sizeLine) : OpOk X N W (binaryOp .Add) μ (.p (.lst ds)) (.p (.lst es)) (.v (.p (.lst (ds ++ es)))) μ :=
  ⟨_, op_cat, fun σ δ F A H x y Q R rx ry k => by
    obtain ⟨a, ws, rfl, h1, h2⟩ := rep_lst rx
    obtain ⟨b, us, rfl, h3, h4⟩ := rep_lst ry
    refine ⟨a, b, ws, us, rfl, rfl, R.rc.sub _ _ h1, R.rc.sub _ _ h3, by rw [h2.length, h4.length]; exact hl, fun p np => ?_⟩
    have sm := same_updN (o := .lst (ws ++ us)) (R.rc.fresh np).2.1
    exact k (.ref p) _ A _ sm (List.prefix_refl _) (R.to sm (List.prefix_refl _) (R.rc.frozen np _)) (.lst upd_same ((h2.append h4).mono sm))⟩
/-- a list is frozen from here on -/
theorem dss_freeze {j : Nat} {ds : List D} {rest : List Stmt} {o : Os} (hj : μ[j]? = some (.lst ds)) (hA : N.A0.length ≤ j) (i : Nat) (hi : δ[i]? = some (some (.l j))) (h : DSs X N W (δ.set i (some (.p (.lst ds)))) (μ.set j .gone) rest o) : DSs X N W δ μ rest o :=
  PSs.imp h fun K σ H ⟨F, A, R, k⟩ => by
    obtain ⟨v, hv, a, rfl, ha⟩ := R.sl i _ hi
    obtain ⟨ws, h1, h2⟩ := R.rc.mus j a _ ha hj
    obtain ⟨r1, sm⟩ := R.rc.freeze ha hj trivial hA h1
    refine ⟨_, A, ⟨r1, by simp [R.len], fun i' s' e => ?_⟩, k.to sm (List.prefix_refl _)⟩
    by_cases hi' : i' = i
    · subst hi'
      have hl : i' < δ.length := (List.getElem?_eq_some_iff.mp hi).1
      rw [List.getElem?_set_self hl] at e
      cases e
      exact ⟨.ref a, hv, .lst upd_same (h2.mono sm)⟩
    · rw [List.getElem?_set_ne (Ne.symm hi')] at e
      obtain ⟨w, h3, h4⟩ := R.sl i' s' e
      exact ⟨w, h3, h4.mono sm (List.prefix_refl _)⟩
end
/-! ## the one __init__ -/
theorem fn_err {P : Program} {w : World} {K : PySem.W.Frag} {mg : Str → Option Value} {base : Heap} {st : Stmt} {f : Addr} {fd : FuncData} {x qual : Str} {p1 p2 p3 p4 : Pos} (F : Fun K x qual st f fd) (Sc : FnScope ["self", "value"] ["self", "value"] (defScope st))
    (hb : defBody st = [.Assign [.Attribute (.Name "self" p1) "value" p2] (.Name "value" p3) p4]) (hv1 : (defScope st).names.lookup ("self" : Str) = some NameKind.local) (hv2 : (defScope st).names.lookup ("value" : Str) = some NameKind.local) : FnOk P w K mg base (L2.CX P w) 1 f fd ["self", "value"] (spErr K) := by
  refine F.okX Sc (fun vs H Q E h => ?_) (fun cdv A outer s H vs Q E hr h => ?_)
  · obtain ⟨a, C, y, rfl, _⟩ := h
    rfl
  · obtain ⟨a, C, y, rfl, hC, hn, ha, k⟩ := h
    rw [hb]
    refine ⟨_, pss_one (ps_ost (pv 0 rfl (.inl hv1)) (pv 1 rfl (.inl hv2))), y, rfl, .ref a, rfl, a, C, rfl, hC, hn, .inl ⟨ha, fun dx ndx ne => k dx ndx ne⟩⟩
end Dl
set_option Elab.async false
set_option linter.all false
set_option maxRecDepth 100000
set_option maxHeartbeats 4000000
set_option autoImplicit false
namespace Dl
open PySem PySem.Spec PyProof.Rows L2
/-! ## len of own objects; a text n times; list(range(n)) -/
section
variable {X : Cx} {N : En} {W : WX} {n : Nat} {δ δ' δ1 δ2 : List (Option S)} {μ μ' μ1 μ2 μ3 : List M} {e a b c o : Expr} {es : List Expr} {ss : List S} {pos p apos : Pos} {d : D} {s s1 s2 : S} {r : Rx} {R : Rel} {k : Nat} {x m f : Str} {dd : List D} {C : Addr}
theorem c_lenOwn {ns : List Str} {d1 : List D} {q : Int} (g : Go X N W n) (cm : Cm X.prog X.w X.K X.mg X.base k C "__len__" [] R) (hR : R [.p (.ins C ns d1)] μ (.v (.p (.int q))) μ') (hq : 0 ≤ q ∧ q < 2 ^ 63) (hk : k + 1 ≤ n := by decide) : CallOk X N W (.builtin "len") μ [.p (.ins C ns d1)] (.v (.p (.int q))) μ' := by
  obtain ⟨f, fd, ps, ds, dvs, Fo, hme, hb, hd, rd⟩ := cm.ex
  refine ⟨fun xs H Q => ∃ a dx fs, xs = [.ref a] ∧ H a = some (.ins C dx fs) ∧ spD X.K R (xs ++ dvs) H (fun v H' => v = .int q ∧ Q (.int q) H') (fun _ _ _ => False), fun pins s σ H xs us Q I r ⟨a, dx, fs, e, ha, h⟩ => ?_, fun σ δ F A H vs Q R0 rv k0 => ?_⟩
  · subst e
    cases r with
    | cons r1 r2 =>
      cases r2
      cases r1
      obtain ⟨od, J⟩ := inst_at I ha
      obtain ⟨m', Fr'⟩ := I.fr
      refine PySem.W.len_K Fr' I.mod.kin J hme.at_ hme.fn ?_
      have r2 : Vals ([V.ref a] ++ dvs) ([Value.ref a] ++ ds) := L2.Vals.append (show L2.Vals [V.ref a] [Value.ref a] from .cons rfl .nil) hd
      have hl : ([Value.ref a] ++ ds).length = ps.length := by rw [← r2.length]; exact Fo.len _ _ _ _ h
      refine wpAny_call (codeAny_mono (Fo.run X.A.in1 X.stack s H ⟨[.ref a], []⟩ ([.ref a] ++ ds) ([.ref a] ++ dvs) _ (WE W0 σ) (g.room.mono hk).in1 I.env0.in1 (hb s [.ref a] I.kIn hl) r2 h) fun r s' hq' => ?_)
      cases r with
      | error e => exact passAt (W := W0) takes00 σ pins H s e s' I hq'
      | ok fl =>
        cases fl with
        | ret u =>
          obtain ⟨v, H', I', rv, ev, q'⟩ := I.after hq'
          subst ev
          obtain ⟨t, rfl⟩ := rv
          exact ⟨hq, .int q, H', I'.tok _, ⟨_, rfl⟩, q'⟩
        | next => exact False.elim hq'
        | brk => exact False.elim hq'
        | cont => exact False.elim hq'
  · obtain ⟨v, rfl, h1⟩ := one_of rv
    have h1' : Rep N.K F v (.ins C ns d1) := h1
    obtain ⟨a, dx, fs, rfl, g1, g2, g3⟩ := rep_ins h1'
    refine ⟨a, dx, fs, rfl, R0.rc.sub _ _ g1, ?_⟩
    have hK := g.hK
    rw [← hK] at rd ⊢
    refine spD_in (N := N) (σ := σ) (δ := δ) (F := F) (A := A) (ss := [.p (.ins C ns d1)] ++ ([] : List D).map S.p) (r := .v (.p (.int q))) hR R0 (RepSs.append (.cons h1 .nil) (of_reps (rd F))) ?_
    intro v F' A' H' e' p' R' rv'
    have e2 : v = .int q := rs_int rv'
    subst e2
    exact ⟨rfl, k0 _ F' A' H' e' p' R' rv'⟩
theorem de_listRg {i : Int} {p2 pos2 : Pos} (g : Go X N W n) (ha : DE X N W δ μ a (.v (.p (.int i))) μ1) (hm : X.mg "list" = none) (hm2 : X.mg "range" = none) (hi : 0 ≤ i ∧ i ≤ 16777216) (hg : Gl X "list" := by rfl) (hg2 : Gl X "range" := by rfl)
    (hs : starEach [a] X.env = (false, eval a X.env) :: starEach [] X.env := by rfl) (hs2 : starEach [.Call (.Name "range" p2) [a] [] pos2] X.env = (false, eval (.Call (.Name "range" p2) [a] [] pos2) X.env) :: starEach [] X.env := by rfl) :
    DE X N W δ μ (.Call (.Name "list" p) [.Call (.Name "range" p2) [a] [] pos2] [] pos) (.v (.p (.lst (rangeD 0 i.toNat)))) μ1 :=
  PE.imp (pe_listRg g.calm hg hm (prg_1 hg2 hm2 ha hs) hs2) fun σ H Q ⟨F, A, R0, k⟩ => ⟨F, A, R0, fun x F1 A1 H1 e1 p1 R1 rx => by
    have ex : x = .int i := rs_int rx
    subst ex
    refine ⟨i, rfl, RgOk.of_le (by omega) (by omega) (by omega) (by omega), fun q nq => ?_⟩
    have sm := same_updN (o := .lst (rgV 0 i)) (R1.rc.fresh nq).2.1
    refine k (.ref q) _ A1 _ (e1.trans sm) p1 (R1.to sm (List.prefix_refl _) (R1.rc.frozen nq _)) (.lst upd_same (Reps.mono sm ?_))
    unfold rgV rangeD
    rw [Int.sub_zero]
    generalize List.range i.toNat = l
    induction l with
    | nil => exact .nil
    | cons y ys ih => exact .cons (.int _) ih⟩
end
end Dl
set_option Elab.async false
set_option linter.all false
set_option maxRecDepth 100000
set_option maxHeartbeats 4000000
set_option autoImplicit false
namespace Dl
open PySem PySem.Spec PyProof.Rows L2
section
variable {X : Cx} {N : En} {W : WX} {n : Nat} {δ δ' δ1 δ2 : List (Option S)} {μ μ' μ1 μ2 μ3 : List M} {e a b c o : Expr} {es : List Expr} {ss : List S} {pos p apos : Pos} {d d' : D} {s s1 s2 : S} {r r' : Rx} {R : Rel} {k k' : Bool} {x m f : Str} {dd : List D} {C : Addr}
theorem dt_of (h : DT X N W δ μ e k μ1) (q : k = k') : DT X N W δ μ e k' μ1 := q ▸ h
theorem de_of (h : DE X N W δ μ e (.v (.p d)) μ1) (q : d = d') : DE X N W δ μ e (.v (.p d')) μ1 := q ▸ h
theorem dss_ifT {A B rest : List Stmt} {o oa : Os} (h : DT X N W δ μ c true μ1) (ha : DSs X N W δ μ1 A oa) (ca : Cont X N W rest oa o) : DSs X N W δ μ (.If c A B pos :: rest) o :=
  dss_cons (ds_if h (fun _ => ha) nofun) ca
theorem dss_ifF {A B rest : List Stmt} {o oa : Os} (h : DT X N W δ μ c false μ1) (ha : DSs X N W δ μ1 B oa) (ca : Cont X N W rest oa o) : DSs X N W δ μ (.If c A B pos :: rest) o :=
  dss_cons (ds_if h nofun (fun _ => ha)) ca
theorem dss_skip {A rest : List Stmt} {o : Os} (h : DT X N W δ μ c false μ1) (ca : DSs X N W δ μ1 rest o) : DSs X N W δ μ (.If c A [] pos :: rest) o :=
  dss_ifF h dss_nil ca
theorem dss_ret (h : DE X N W δ μ e (.v s) μ1) {rest : List Stmt} : DSs X N W δ μ (.Return (some e) pos :: rest) (.rt s μ1) := dss_cons (ds_ret h) cr
theorem di_of {tg iter : Expr} {ds ds' : List D} (h : DI X N W δ μ tg iter ds μ1) (q : ds = ds') : DI X N W δ μ tg iter ds' μ1 := q ▸ h
theorem of_maps {α : Type} {nn : Nat} {scope : Scope} {elt : Expr} {f : As} {gd fy : α → D} : ∀ {l : List α}, (∀ a ∈ l, ∃ δt, f (gd a) δ = some δt ∧ DEB X N.K nn scope elt δt μ (fy a) μ) → CmpL (El0 X N.K nn scope elt) f δ (l.map gd) μ (l.map fy) μ
  | [], _ => .nil
  | a :: l, h => by
    obtain ⟨δt, h1, h2⟩ := h a List.mem_cons_self
    exact .keep h1 ⟨_, rfl, h2⟩ (of_maps fun d hd => h d (List.mem_cons_of_mem _ hd))
theorem c_allm {α : Type} {l : List α} {q : α → Bool} (g : Go X N W n) : CallOk X N W (.builtin "all") μ [.p (.lst (l.map fun a => .bl (q a)))] (.v (.p (.bl (l.all q)))) μ := by
  have h := c_all (μ := μ) g (ns := l.map q)
  rw [List.map_map, List.all_map] at h
  exact h
theorem c_summ {α : Type} {l : List α} {q : α → Int} (g : Go X N W n) : CallOk X N W (.builtin "sum") μ [.p (.lst (l.map fun a => .int (q a)))] (.v (.p (.int (l.map q).sum))) μ := by
  have h := c_sum (μ := μ) g (ns := l.map q)
  rw [List.map_map] at h
  exact h
theorem join_one {α : Type} {q : α → Nat} : ∀ l : List α, Str.join (Str.ofString "") (l.map fun a => (⟨#[q a]⟩ : Str)) = ⟨(l.map q).toArray⟩
  | [] => rfl
  | [_] => rfl
  | a :: b :: r => by
    show (⟨#[q a]⟩ : Str) ++ Str.ofString "" ++ Str.join (Str.ofString "") (List.map (fun a => (⟨#[q a]⟩ : Str)) (b :: r)) = _
    rw [join_one (b :: r)]
    show Str.append (Str.append _ _) _ = _
    have e0 : (Str.ofString "").cps = #[] := rfl
    simp [Str.append, e0]
theorem m_joinm {α : Type} {l : List α} {q : α → Nat} (hl : l.length ≤ 100) : MtOk X N W "str" "str.join" μ μ1 (.p (.str (Str.ofString ""))) [.p (.lst (l.map fun a => .str ⟨#[q a]⟩))] (.v (.p (.str ⟨(l.map q).toArray⟩))) μ1 := by
  have h := m_join (X := X) (N := N) (W := W) (μ := μ) (μ1 := μ1) (z := Str.ofString "") (ys := l.map fun a => (⟨#[q a]⟩ : Str)) (by
    have e0 : (Str.ofString "").length = 0 := rfl
    rw [e0, Nat.mul_zero, Nat.add_zero, List.map_map]
    have : ∀ l : List α, (l.map ((fun x : Str => x.length) ∘ fun a => (⟨#[q a]⟩ : Str))).sum = l.length := by
      intro l
      induction l with
      | nil => rfl
      | cons a l ih => rw [List.map_cons, List.sum_cons, ih, List.length_cons]; show 1 + _ = _; omega
    rw [this]; omega)
  rw [List.map_map] at h
  have e : Txt.join (Str.ofString "") (l.map fun a => (⟨#[q a]⟩ : Str)) = ⟨(l.map q).toArray⟩ := by
    rw [TL.join_eq]
    exact join_one l
  rw [e] at h
  exact h
end
/-! ## words, in plain terms -/
def st (L : List Nat) : Str := ⟨L.toArray⟩
def IXYZ : List Nat := [73, 88, 89, 90]
def third (a b : Nat) : Nat := if a = b then 73 else if a = 73 then b else if b = 73 then a else if a + b = 177 then 90 else if a + b = 178 then 89 else 88
def qt (a b : Nat) : Int := if (a = 88 ∧ b = 89) ∨ (a = 89 ∧ b = 90) ∨ (a = 90 ∧ b = 88) then 1 else if (a = 89 ∧ b = 88) ∨ (a = 90 ∧ b = 89) ∨ (a = 88 ∧ b = 90) then -1 else 0
def mk (a b : List Nat) : List Nat := List.zipWith third a b
def qs (a b : List Nat) : Int := (List.zipWith qt a b).sum
structure okL (L : List Nat) : Prop where
  one : 1 ≤ L.length
  four : L.length ≤ 4
  all : ∀ c ∈ L, c ∈ IXYZ
def sgn (L : List Nat) (s : Int) : Str := st (if s < 0 then 45 :: L else L)
def wd (C : Addr) (L : List Nat) (s : Int) : D := .ins C ["letters", "sign"] [.str (st L), .int s]
def bes (s t q : Int) : Int := if q % 4 ≠ 0 then -(s * t) else s * t
theorem st_len (L : List Nat) : (st L).length = L.length := by simp [st, Str.length]
theorem chars_st (L : List Nat) : chars (st L) = L.map fun c => D.str ⟨#[c]⟩ := by simp [chars, st]
theorem st_inj {L M : List Nat} : st L = st M ↔ L = M := by
  constructor
  · intro h
    have := congrArg (fun z : Str => z.cps.toList) h
    simpa [st] using this
  · rintro rfl; rfl
theorem st_app (L M : List Nat) : st L ++ st M = st (L ++ M) := by
  show Str.append _ _ = _
  simp [Str.append, st]
theorem size4 {n : Nat} (h : n ≤ 100) : n ≤ sizeLine := by rw [sizeLine_eq]; omega
theorem size4' {n : Nat} (h : n ≤ 100) : n < sizeLine := by rw [sizeLine_eq]; omega
theorem th_ok {a b : Nat} (ha : a ∈ IXYZ) (hb : b ∈ IXYZ) : third a b ∈ IXYZ := by
  simp only [IXYZ, List.mem_cons, List.not_mem_nil, or_false] at ha hb ⊢
  rcases ha with rfl | rfl | rfl | rfl <;> rcases hb with rfl | rfl | rfl | rfl <;> decide
theorem mk_len {a b : List Nat} (h : a.length = b.length) : (mk a b).length = a.length := by simp [mk, h]
theorem mk_all : ∀ {a b : List Nat}, (∀ c ∈ a, c ∈ IXYZ) → (∀ c ∈ b, c ∈ IXYZ) → ∀ c ∈ mk a b, c ∈ IXYZ
  | [], _, _, _, c, h => by simp [mk] at h
  | _ :: _, [], _, _, c, h => by simp [mk] at h
  | x :: xs, y :: ys, h1, h2, c, h => by
    simp only [mk, List.zipWith_cons_cons, List.mem_cons] at h
    rcases h with rfl | h
    · exact th_ok (h1 x (by simp)) (h2 y (by simp))
    · exact mk_all (fun c hc => h1 c (by simp [hc])) (fun c hc => h2 c (by simp [hc])) c h
theorem mk_ok {a b : List Nat} (ha : okL a) (hb : okL b) (h : a.length = b.length) : okL (mk a b) :=
  ⟨by rw [mk_len h]; exact ha.one, by rw [mk_len h]; exact ha.four, mk_all ha.all hb.all⟩
theorem bes_pm {s t q : Int} (hs : s = 1 ∨ s = -1) (ht : t = 1 ∨ t = -1) : bes s t q = 1 ∨ bes s t q = -1 := by
  unfold bes
  rcases hs with rfl | rfl <;> rcases ht with rfl | rfl <;> split <;> simp
end Dl
set_option Elab.async false
set_option linter.all false
set_option maxRecDepth 100000
set_option maxHeartbeats 4000000
set_option autoImplicit false
namespace Dl
/-! ## letters by threes -/
theorem ind3 {P : List Nat → List Nat → List Nat → Prop} (h0 : P [] [] []) (h1 : ∀ a b c A B C, a ∈ IXYZ → b ∈ IXYZ → c ∈ IXYZ → P A B C → P (a :: A) (b :: B) (c :: C)) :
    ∀ A B C, (∀ x ∈ A, x ∈ IXYZ) → (∀ x ∈ B, x ∈ IXYZ) → (∀ x ∈ C, x ∈ IXYZ) → A.length = B.length → B.length = C.length → P A B C
  | [], [], [], _, _, _, _, _ => h0
  | a :: A, b :: B, c :: C, ha, hb, hc, l1, l2 =>
    h1 a b c A B C (ha a (by simp)) (hb b (by simp)) (hc c (by simp)) (ind3 h0 h1 A B C (fun x hx => ha x (by simp [hx])) (fun x hx => hb x (by simp [hx])) (fun x hx => hc x (by simp [hx])) (by simpa using l1) (by simpa using l2))
  | [], [], _ :: _, _, _, _, _, l => by simp at l
  | [], _ :: _, _, _, _, _, l, _ => by simp at l
  | _ :: _, [], _, _, _, _, l, _ => by simp at l
  | _ :: _, _ :: _, [], _, _, _, _, l => by simp at l
theorem th_self (a : Nat) : third a a = 73 := if_pos rfl
theorem th_comm (a b : Nat) : third a b = third b a := by
  unfold third
  repeat' split
  all_goals first | rfl | omega
theorem qt_anti (a b : Nat) : qt b a = -qt a b := by
  unfold qt
  repeat' split
  all_goals first | rfl | omega
theorem t1 : ∀ a ∈ IXYZ, third 73 a = a ∧ qt 73 a = 0 := by decide
theorem t2 : ∀ a ∈ IXYZ, ∀ b ∈ IXYZ, third (third a b) b = a ∧ qt (third a b) b = -qt a b := by decide
theorem t3 : ∀ a ∈ IXYZ, ∀ b ∈ IXYZ, ∀ c ∈ IXYZ, third (third a b) c = third a (third b c) ∧ (qt a b + qt (third a b) c - qt b c - qt a (third b c)) % 4 = 0 ∧ (qt (third a b) c - qt a c - qt b c) % 2 = 0 := by decide +kernel
theorem mk_cons (a b : Nat) (A B : List Nat) : mk (a :: A) (b :: B) = third a b :: mk A B := rfl
theorem qs_cons (a b : Nat) (A B : List Nat) : qs (a :: A) (b :: B) = qt a b + qs A B := by simp [qs]
theorem mk_self : ∀ L : List Nat, mk L L = List.replicate L.length 73
  | [] => rfl
  | a :: L => by rw [mk_cons, th_self, mk_self L]; rfl
theorem mk_comm : ∀ A B : List Nat, mk A B = mk B A
  | [], [] => rfl
  | [], _ :: _ => rfl
  | _ :: _, [] => rfl
  | a :: A, b :: B => by rw [mk_cons, mk_cons, th_comm, mk_comm A B]
theorem qs_anti : ∀ A B : List Nat, qs B A = -qs A B
  | [], [] => rfl
  | [], _ :: _ => rfl
  | _ :: _, [] => rfl
  | a :: A, b :: B => by rw [qs_cons, qs_cons, qt_anti a b, qs_anti A B]; omega
theorem mk_I : ∀ L : List Nat, (∀ c ∈ L, c ∈ IXYZ) → mk (List.replicate L.length 73) L = L ∧ qs (List.replicate L.length 73) L = 0
  | [], _ => ⟨rfl, rfl⟩
  | a :: L, h => by
    obtain ⟨h1, h2⟩ := mk_I L fun c hc => h c (by simp [hc])
    obtain ⟨h3, h4⟩ := t1 a (h a (by simp))
    rw [List.length_cons, List.replicate_succ, mk_cons, qs_cons, h1, h2, h3, h4]
    exact ⟨rfl, rfl⟩
section
variable {A B C : List Nat}
theorem mk_back (hA : okL A) (hB : okL B) (l : A.length = B.length) : mk (mk A B) B = A ∧ qs (mk A B) B = -qs A B := by
  refine ind3 (P := fun A B _ => mk (mk A B) B = A ∧ qs (mk A B) B = -qs A B) ⟨rfl, rfl⟩ (fun a b c A B C ha hb _ h => ?_) A B B hA.all hB.all hB.all l rfl
  obtain ⟨h1, h2⟩ := t2 a ha b hb
  rw [mk_cons, mk_cons, qs_cons, qs_cons, h1, h2, h.1, h.2]
  exact ⟨rfl, by omega⟩
theorem mk_assoc (hA : okL A) (hB : okL B) (hC : okL C) (l : A.length = B.length) (l2 : B.length = C.length) : mk (mk A B) C = mk A (mk B C) ∧ (qs A B + qs (mk A B) C - qs B C - qs A (mk B C)) % 4 = 0 ∧ (qs (mk A B) C - qs A C - qs B C) % 2 = 0 := by
  refine ind3 (P := fun A B C => mk (mk A B) C = mk A (mk B C) ∧ (qs A B + qs (mk A B) C - qs B C - qs A (mk B C)) % 4 = 0 ∧ (qs (mk A B) C - qs A C - qs B C) % 2 = 0) ⟨rfl, by decide, by decide⟩ (fun a b c A B C ha hb hc h => ?_) A B C hA.all hB.all hC.all l l2
  obtain ⟨h1, h2, h3⟩ := t3 a ha b hb c hc
  obtain ⟨h4, h5, h6⟩ := h
  simp only [mk_cons, qs_cons]
  rw [h1, h4]
  exact ⟨rfl, by omega, by omega⟩
end
/-! ## signs -/
def sg (q : Int) : Int := if q % 4 = 0 then 1 else -1
theorem bes_eq (s t q : Int) : bes s t q = s * t * sg q := by
  unfold bes sg
  by_cases h : q % 4 = 0
  · rw [if_neg (fun z => z h), if_pos h, Int.mul_one]
  · rw [if_pos h, if_neg h, Int.mul_neg, Int.mul_one]
theorem sg_add {p q : Int} (hp : p % 2 = 0) (hq : q % 2 = 0) : sg p * sg q = sg (p + q) := by
  unfold sg
  repeat' split
  all_goals first | rfl | omega
theorem sg_congr {p q : Int} (h : (p - q) % 4 = 0) : sg p = sg q := by
  unfold sg
  repeat' split
  all_goals first | rfl | omega
theorem pm_sq {s : Int} (h : s = 1 ∨ s = -1) : s * s = 1 := by
  rcases h with rfl | rfl <;> rfl
end Dl
set_option Elab.async false
set_option linter.all false
set_option maxRecDepth 100000
set_option maxHeartbeats 4000000
set_option autoImplicit false
namespace Dl
open PySem PySem.Spec PyProof.Rows L2
/-! ## the script itself -/
theorem rep_sc {K : PySem.W.Frag} {F : Hp} {v : V} {ns : List Int} (h : Rep K F v (.sc ns)) : ∃ a, v = .ref a ∧ SqL K F a (ns.map V.int) := by
  generalize hd : D.sc ns = d at h
  cases h with
  | sc h1 => cases hd; exact ⟨_, rfl, h1⟩
  | _ => cases hd
section
variable {X : Cx} {N : En} {W : WX} {n : Nat} {δ : List (Option S)} {μ : List M} {ns : List Int}
theorem c_lenSc (g : Go X N W n) : CallOk X N W (.builtin "len") μ [.p (.sc ns)] (.v (.p (.int ns.length))) μ :=
  ⟨_, call_len_seq, fun σ δ F A H vs Q R rv k => by
    obtain ⟨v, rfl, h⟩ := one_of rv
    have h' : Rep N.K F v (.sc ns) := h
    obtain ⟨a, rfl, h1⟩ := rep_sc h'
    refine ⟨a, ns.map V.int, rfl, .inl (by rw [← g.hK]; exact same_sqL R.rc.sub h1), ?_⟩
    rw [List.length_map]
    exact k.here R (.int _)⟩
theorem i_sc (g : Go X N W n) {i : Nat} {c : Int} (h : ns[i]? = some c) : IxOk X N W μ (.p (.sc ns)) (.p (.int (i : Int))) (.v (.p (.int c))) μ :=
  ⟨_, ix_list, fun σ δ F A H x y Q R rx ry k => by
    have rx' : Rep N.K F x (.sc ns) := rx
    obtain ⟨a, rfl, h1⟩ := rep_sc rx'
    exact ⟨a, ns.map V.int, (i : Int), .int c, rfl, rs_int ry, by rw [← g.hK]; exact same_sqL R.rc.sub h1, atI_nat (by rw [List.getElem?_map, h]; rfl), k.here R (.int _)⟩⟩
end
end Dl
set_option Elab.async false
set_option linter.all false
set_option maxRecDepth 100000
set_option maxHeartbeats 4000000
set_option autoImplicit false
namespace Dl
open PySem PySem.Spec PyProof.Rows L2
/-! ## == and != of own objects, as tests -/
section
variable {X : Cx} {N : En} {W : WX} {n : Nat} {δ δ' δ1 δ2 : List (Option S)} {μ μ' μ1 μ2 μ3 : List M} {e a b c o : Expr} {es : List Expr} {ss : List S} {pos p apos : Pos} {d : D} {s s1 s2 : S} {r : Rx} {R : Rel} {k : Nat} {x m f : Str} {dd : List D} {C : Addr}
theorem dt_eqOwn {ns : List Str} {d1 : List D} {d2 : D} {t : Value} {q : Bool} (g : Go X N W n) (cm : Cm X.prog X.w X.K X.mg X.base k C "__eq__" [] R) (ty : TyD X.K d2 t) (nf : PySem.W.notFirst X.K C t = true)
    (ha : DE X N W δ μ a (.v (.p (.ins C ns d1))) μ1) (hb : DE X N W δ μ1 b (.v (.p d2)) μ2) (hR : R [.p (.ins C ns d1), .p d2] μ2 (.v (.p (.bl q))) μ3) (hk : k ≤ n := by decide) : DT X N W δ μ (.Compare a [.Eq] [b] pos) q μ3 := by
  obtain ⟨f, fd, ps, ds, dvs, Fo, hme, hbi, hd, rd⟩ := cm.ex
  refine ⟨fun pins s σ H Q I ⟨F, A, R0, qq⟩ => wpAny_isTrue_Compare1 (two_then ha hb I R0 fun v u s3 x y H2 F2 A2 I2 rx ry e2 p2 R2 h1 h2 => ?_) (nomark _)⟩
  obtain ⟨a1, dx1, fs1, rfl, g1, g2, g3⟩ := rep_ins h1
  cases rx
  obtain ⟨od1, J1⟩ := inst_at I2 (R2.rc.sub _ _ g1)
  obtain ⟨m', Fr'⟩ := I2.fr
  refine PySem.W.cmp_ofEq (PySem.W.cmp_K (g.room.units0) Fr' I2.mod.kin J1 (type_of I2 R2.rc.sub ty (by rw [← g.hK]; exact h2) ry) nf hme.at_ hme.fn ?_)
  refine wpAny_mono (call_fnD (us := [.ref a1, u]) (vs := [.ref a1, y]) (ss := [.p (.ins C ns d1), .p d2]) (Q := fun v H' => v = .bl q ∧ Q q H') g hk Fo hbi hd rd I2 R2 (.cons h1 (.cons h2 .nil)) (.cons rfl (.cons ry .nil)) hR (fun v F' A' H' e' p' R' rv => ?_)) (fun v s' h => ?_) fun _ _ h => h
  · have rv' : Rep N.K F' v (.bl q) := rv
    cases rv'
    exact ⟨rfl, qq F' A' H' (e2.trans e') (p2.trans p') R'⟩
  · obtain ⟨w, H', I', rw', rfl, hq⟩ := h
    cases rw'
    exact wpAny_truthy_bool ⟨H', I', hq⟩
theorem dt_neOwn {ns : List Str} {d1 : List D} {d2 : D} {t : Value} {q : Bool} (g : Go X N W n) (cm : Cm X.prog X.w X.K X.mg X.base k C "__eq__" [] R) (nk : NeOk X.K C) (ty : TyD X.K d2 t) (nf : PySem.W.notFirst X.K C t = true)
    (ha : DE X N W δ μ a (.v (.p (.ins C ns d1))) μ1) (hb : DE X N W δ μ1 b (.v (.p d2)) μ2) (hR : R [.p (.ins C ns d1), .p d2] μ2 (.v (.p (.bl q))) μ3) (hk : k + 1 ≤ n := by decide) : DT X N W δ μ (.Compare a [.NotEq] [b] pos) (!q) μ3 := by
  obtain ⟨f, fd, ps, ds, dvs, Fo, hme, hbi, hd, rd⟩ := cm.ex
  refine ⟨fun pins s σ H Q I ⟨F, A, R0, qq⟩ => wpAny_isTrue_Compare1 (two_then ha hb I R0 fun v u s3 x y H2 F2 A2 I2 rx ry e2 p2 R2 h1 h2 => ?_) (nomark _)⟩
  obtain ⟨a1, dx1, fs1, rfl, g1, g2, g3⟩ := rep_ins h1
  cases rx
  obtain ⟨od1, J1⟩ := inst_at I2 (R2.rc.sub _ _ g1)
  have hun := g.room.units
  refine rich_ne g.room.units0 (by show X.A.units + 1 + 1 < _; omega) I2.kIn J1 (type_of I2 R2.rc.sub ty (by rw [← g.hK]; exact h2) ry) nf nk.ne nk.mro hme.at_ hme.fn ?_
  refine wpAny_mono (call_in1 (us := [.ref a1, u]) (vs := [.ref a1, y]) (ss := [.p (.ins C ns d1), .p d2]) (Q := fun v H' => v = .bl q ∧ Q (!q) H') g hk Fo hbi hd rd I2 R2 (.cons h1 (.cons h2 .nil)) (.cons rfl (.cons ry .nil)) hR (fun v F' A' H' e' p' R' rv => ?_)) (fun v s' h => ?_) fun _ _ h => h
  · have rv' : Rep N.K F' v (.bl q) := rv
    cases rv'
    exact ⟨rfl, qq F' A' H' (e2.trans e') (p2.trans p') R'⟩
  · obtain ⟨w, H', I', rw', rfl, hq⟩ := h
    cases rw'
    exact ⟨q, rfl, wpAny_truthy_bool ⟨H', I', hq⟩⟩
end
end Dl
set_option Elab.async false
set_option linter.all false
set_option maxRecDepth 100000
set_option maxHeartbeats 4000000
set_option autoImplicit false
namespace Dl
open PySem PySem.Spec PyProof.Rows L2
/-! ## an exception that is caught and kept -/
/-- a caught exception at a, of the class cls, its own dict at d -/
def KpO (cls : Value) (d : Option Addr) (a : Addr) : HO := .ext fun h => ∃ oe vs, h.get? a = some oe ∧ Zc cls d oe ∧ oe.data = .fields vs
section
variable {X : Cx} {pins : List (Addr × Obj)} {σ : L2.St} {H : Hp} {sI s : Shared} {a : Addr}
theorem kpo_ok {P : Program} {w : World} {h : Heap} {cls : Value} {d : Option Addr} {ob : Obj} {vs : Array Value} (e1 : h.get? a = some ob) (e2 : Zc cls d ob) (e3 : ob.data = .fields vs) : ObjOk P w H h a (KpO cls d a) :=
  ⟨⟨ob, vs, e1, e2, e3⟩, ⟨ob, e1⟩, fun h1 h2 ⟨o1, v1, q1, q2⟩ st => ⟨o1, v1, st o1 q1, q2⟩⟩
/-- what was not there yet when the exception was raised is told from here on -/
theorem track {o : HO} (J : Inv X pins σ H sI) (I : Inv X pins σ H s) (fa : sI.heap.get? a = none) (na : H a = none) (nL : a ≠ X.env.locals) (new : ObjOk X.prog X.w (upd H a o) s.heap a o) : Inv X pins σ (upd H a o) s where
  ok := I.ok
  os := I.os
  bare := I.bare
  base := {
    keep := I.base.keep
    slot := I.base.slot
    free := fun b ob q n hx => by
      by_cases hb : b = a
      · subst hb
        obtain ⟨ob', e⟩ := J.base.there b ob q hx
        rw [fa] at e
        cases e
      · rw [upd_ne hb]
        exact I.base.free b ob q n hx
    there := I.base.there
    tups := fun b xs q => by
      have e := I.base.tups b xs q
      rw [upd_ne (ne_of_none e na)]
      exact e
    frzs := fun b ob u q => by
      have e := I.base.frzs b ob u q
      rw [upd_ne (ne_of_none e na)]
      exact e
    tbls := fun b ps q => by
      obtain ⟨more, e⟩ := I.base.tbls b ps q
      exact ⟨more, by rw [upd_ne (ne_of_none e na)]; exact e⟩ }
  loc := I.loc
  cell := I.cell
  free := by
    rw [upd_ne (Ne.symm nL)]
    exact I.free
  freeC := fun y c hc => by
    have hb : c ≠ a := fun z => by
      obtain ⟨v, ob, e, _⟩ := J.cell y c hc
      rw [z, fa] at e
      cases e
    rw [upd_ne hb]
    exact I.freeC y c hc
  pin := fun p hp => by
    obtain ⟨q1, q2, q3, q4, q5⟩ := I.pin p hp
    have hb : p.1 ≠ a := fun z => by
      have e := (J.pin p hp).1
      rw [z, fa] at e
      cases e
    exact ⟨q1, by rw [upd_ne hb]; exact q2, q3, q4, q5⟩
  hok := I.hok.laidN (fun _ _ e => e) na new
  len := I.len
theorem into_suite (I : Inv X pins σ H s) : Inv (X.suite a (X.pn ++ pins)) [] σ H s :=
  ⟨I.ok.suite a _, I.os, I.bare, I.base, I.loc, I.cell, I.free, I.freeC, fun p hp => I.pin p (by simpa using hp), I.hok, I.len⟩
theorem out_suite {pn' : List (Addr × Obj)} (ok : X.Ok) (I : Inv (X.suite a (X.pn ++ pins)) pn' σ H s) : Inv X pins σ H s :=
  ⟨ok, I.os, I.bare, I.base, I.loc, I.cell, I.free, I.freeC, fun p hp => I.pin p (List.mem_append.mpr (.inl hp)), I.hok, I.len⟩
end
/-- the wish of the clause: it is of the class, the suite runs with the exception told -/
def wK (K : PySem.W.Frag) (c : Value) (i : Nat) (ts : Value → Option Addr → Addr → TS) (D : Ends) : WX := fun cls d σ H => PySem.W.exmOne K cls c = some true ∧ ∀ a, H a = none →
  ts cls d a { nx := fun σ' H' => D.nx (σ'.set i none) H', rt := D.rt, bk := fun σ' H' => D.bk (σ'.set i none) H', ct := fun σ' H' => D.ct (σ'.set i none) H' } (σ.set i (some (.ref a))) (upd H a (KpO cls d a))
section
variable {X : Cx} {x n : Str} {c : Value} {i : Nat} {body suite : List Stmt} {b₀ : Stmt} {np pos pos' : Pos} {tb : WX → TS} {ts : Value → Option Addr → Addr → TS}
theorem ps_keep (hs : X.stack = X.env :: X.outer) (hf : X.env.frame = some X.env.locals) (hN : X.N.Nodup) (hi : X.N[i]? = some n) (hln : X.env.kindOf n = some .local) (hc : Names X x c)
    (hb : ∀ (W : WX) (pn : List (Addr × Obj)) (xe : Value → Shared → Prop), Takes (X.tr pn xe) W → PassesOwn (model X.prog X.w) X.A X.env xe → PSs (X.tr pn xe) body (tb W))
    (hsu : ∀ (a : Addr) (cls : Value) (d : Option Addr) (pn : List (Addr × Obj)), PSs (X.suite a pn) (b₀ :: suite) (ts cls d a)) :
    PS X (.Try body [.ExceptHandler (some (.Name x np)) (some n) (b₀ :: suite) pos'] [] [] pos) (fun D σ H => tb (wK X.K c i ts D) D σ H) := by
  refine ⟨fun pins s σ H D I h => wpAny_Try_except ?_⟩
  have ok := I.ok
  refine wpAny_mono ((hb (wK X.K c i ts D) (X.pn ++ pins) (fun e t1 => wpAny (model X.prog X.w) X.A (noteFrame e X.env) (fun _ t2 => wpAny (model X.prog X.w) X.A (setFlight e none)
    (fun _ t3 => wpAny (model X.prog X.w) X.A (handleBy e X.env [.ExceptHandler (some (.Name x np)) (some n) (b₀ :: suite) pos']) (SP X pins D) X.xe t3) X.xe t2) X.xe t1)
    (fun u t air => ?_) PassesOwn.looking).run [] s σ H D (I.toTry _) h) (fun f t hsp => ?_) (fun _ _ z => z)
  · obtain ⟨a, B, sI, pins', σ', H', cls, d, rfl, J', nb, up, sky, na, os, ag, hyes, go⟩ := air
    have J : Inv X pins σ' H' sI := J'.ofTry ok
    have sky1 : Sky B (X.env :: X.outer) a (Zc cls d) X.env.locals t.heap := by
      rw [← hs]
      exact sky
    show wpAny (model X.prog X.w) X.A (noteFrame (.ref a) X.env) _ _ _
    have frm : X.A.frames = some (X.env :: X.outer) := by
      rw [ok.frames, hs]
    refine Sky.land Zc.steady frm hf sky1 fun g1 y1 u1 => ?_
    have J1 : Inv X pins σ' H' { t with heap := g1 } := J.landed nb y1.1 (up.trans u1) os ag
    have off : ∀ {g : Heap} {ob : Obj} {vs : Array Value}, g.FunFrames B (X.env :: X.outer) → g.get? a = some ob → ob.data = .fields vs → a ∉ frs (X.env :: X.outer) := fun {g ob vs} ff e q hm => by
      obtain ⟨_, ob', e', nf⟩ := ff.mem hm
      rw [e] at e'
      cases e'
      exact nf _ q
    obtain ⟨ob1, vs1, a1, z1, d1⟩ := y1.there
    have out := off y1.2.2.1 a1 d1
    have nL : a ≠ X.env.locals := fun z => out (List.mem_filterMap.mpr ⟨X.env, List.mem_cons_self, by rw [hf, z]⟩)
    have fa : sI.heap.get? a = none := by
      cases e : sI.heap.get? a with
      | none => rfl
      | some ob =>
        have z := nb a ob e (by rw [hs]; exact out)
        rw [y1.2.1] at z
        cases z
    have T1 := track (o := KpO cls d a) J J1 fa na nL (kpo_ok a1 z1 d1)
    have S1 : Inv (X.suite a (X.pn ++ pins)) [] σ' (upd H' a (KpO cls d a)) { t with heap := g1 } := into_suite T1
    refine wpAny_handleBy_cons (codeAny_handlers_test ?_) (fun q => by cases q)
    have look : PySem.W.Looks (model X.prog X.w) g1 (typeOf (.ref a)) cls := fun A' Q' E' t' k q => wpAny_typeOf_ref (k _ _ a1) (by rw [z1.1]; exact q)
    have is := PySem.W.exm_one (M := model X.prog X.w) J1.kIn look hyes
    have named : ∀ {Q' E' : Value → Shared → Prop}, Q' c { t with heap := g1 } → wpAny (model X.prog X.w) (X.A.mark (some (.ref a))) (eval (.Name x np) X.env) Q' E' { t with heap := g1 } := fun {Q' E'} q => by
      obtain ⟨q1, q2, q3 | ⟨q3, q4, q5⟩⟩ := hc
      · exact ld_glob (X := X.suite a (X.pn ++ pins)) S1 q1 q3 q q2
      · exact ld_blt (X := X.suite a (X.pn ++ pins)) S1 q1 q3 q4 q q5 q2
    refine named (is.here (codeAny_handlers_suite_as (HandSPX.lands_againZ y1 fun g2 y2 u2 => ?_)))
    have J2 : Inv X pins σ' H' { t with heap := g2 } := J.landed nb y2.1 ((up.trans u1).trans u2) os ag
    obtain ⟨ob2, vs2, a2, z2, d2⟩ := y2.there
    have S2 : Inv (X.suite a (X.pn ++ pins)) [] σ' (upd H' a (KpO cls d a)) { t with heap := g2 } := into_suite (track (o := KpO cls d a) J J2 fa na nL (kpo_ok a2 z2 d2))
    refine store_ok (X := X.suite a (X.pn ++ pins)) (v := .ref a) S2 hN hi (.inl hln) rfl (fun t5 S5 => ?_) (.inr hln)
    refine wpAny_mono ((hsu a cls d (X.pn ++ pins)).run [] t5 _ _ _ S5 (go a na)) (fun f t6 hsp => ?_) (fun _ _ z => z.elim)
    have leave : ∀ {σ6 : L2.St} {H6 : Hp} {Q' : Shared → Prop}, Inv (X.suite a (X.pn ++ pins)) [] σ6 H6 t6 → (∀ t7, Inv X pins (σ6.set i none) H6 t7 → Q' t7) → wpAny (model X.prog X.w) X.A (do
        bindName X.env n .none
        unbindBehindTheSuite X.env n pos') (fun _ t7 => Q' t7) X.xe t6 := fun {σ6 H6 Q'} S6 hq => gone_ok (out_suite ok S6) hN hi hln hq
    cases f with
    | next =>
      obtain ⟨σ6, H6, S6, q6⟩ := hsp
      exact leave S6 fun t7 J7 => ⟨_, H6, J7, q6⟩
    | brk =>
      obtain ⟨σ6, H6, S6, q6⟩ := hsp
      exact leave S6 fun t7 J7 => ⟨_, H6, J7, q6⟩
    | cont =>
      obtain ⟨σ6, H6, S6, q6⟩ := hsp
      exact leave S6 fun t7 J7 => ⟨_, H6, J7, q6⟩
    | ret u =>
      obtain ⟨v6, σ6, H6, S6, r6, q6⟩ := hsp
      exact leave S6 fun t7 J7 => ⟨v6, _, H6, J7, r6, q6⟩
  · cases f with
    | next =>
      obtain ⟨σ', H', J', q⟩ := hsp
      exact wpAny_execs_nil ⟨σ', H', J'.ofTry ok, q⟩
    | brk =>
      obtain ⟨σ', H', J', q⟩ := hsp
      exact ⟨σ', H', J'.ofTry ok, q⟩
    | cont =>
      obtain ⟨σ', H', J', q⟩ := hsp
      exact ⟨σ', H', J'.ofTry ok, q⟩
    | ret u =>
      obtain ⟨v, σ', H', J', r, q⟩ := hsp
      exact ⟨v, σ', H', J'.ofTry ok, r, q⟩
end
end Dl
set_option Elab.async false
set_option linter.all false
set_option maxRecDepth 100000
set_option maxHeartbeats 4000000
set_option autoImplicit false
namespace Dl
open PySem PySem.Spec PyProof.Rows L2
/-! ## a lambda without parameters, handed to a def -/
section
variable {X : Cx} {pins : List (Addr × Obj)} {σ : L2.St} {H : Hp} {s : Shared}
/-- it is made: its code object is one of the table, or a new one behind it -/
def Lam1 (H : Hp) (P : Addr) (ps : Array Value) (pos : Pos) (q : Str) (c' : Addr) (H1 : Hp) : Prop :=
  (H1 = H ∧ codeAmong pos ps.toList = some (.ref c')) ∨ (H c' = none ∧ H1 = upd (upd H P (.tbl (ps ++ #[rawInt pos.line, rawInt pos.col, .ref c']))) c' (LamX.CodeO c' q))
theorem lam_made {c P : Addr} {ps : Array Value} {params : Arguments} {body : Expr} {scope : Scope} {pos : Pos} {E : Value → Shared → Prop} {Q : Value → Shared → Prop} (I : Inv X pins σ H s) (TB : LamX.TabB X.base X.mg c P) (hcode : X.env.code = .ref c)
    (tabAt : H P = some (.tbl ps)) (tri : TriplesOk ps.toList) (known : ∀ (p : Pos) (v : Value), codeAmong p ps.toList = some v → ∃ b, v = .ref b ∧ H b = some (LamX.CodeO b (X.env.qual ++ "<lambda>")))
    (hdef : defaultsOf params X.env = ([], [])) (hfree : ∀ y ∈ scope.names, y.2 = .free → ∃ c, X.env.cells.lookup y.1 = some c)
    (k : ∀ (f c' : Addr) (pm ctv : Value) (H1 : Hp) (s1 : Shared), Inv X pins σ H1 s1 → Lam1 H P ps pos (X.env.qual ++ "<lambda>") c' H1 →
      s1.heap.get? f = some (PySem.W.kla_obj "<lambda>" (X.env.qual ++ "<lambda>") params body scope (cloFrom X.env.cells scope.names []) pm c' ctv) → H1 f = none → f ∉ frs X.stack → H1 c' = some (LamX.CodeO c' (X.env.qual ++ "<lambda>")) → Q (.ref f) s1) :
    wpAny (model X.prog X.w) X.A (eval (.Lambda params body scope pos) X.env) Q E s := by
  have tabH : s.heap.get? P = some { cls := .none, data := .fields ps } := I.hok P _ tabAt
  have below : ∀ f, s.heap.objs.size ≤ f → f ∉ frs X.stack := fun f big hm => by
    rcases List.mem_cons.mp (I.stkSub _ hm) with e | e
    · have lt := I.lt
      rw [← e] at lt
      exact absurd lt (Nat.not_lt.mpr big)
    · exact I.nofs big e
  refine PySem.W.kla_eval hdef ?_
  cases fnd : codeAmong pos ps.toList with
  | some v =>
    obtain ⟨b, rfl, hb⟩ := known pos v fnd
    refine PySem.W.kla_makeFunctionHit (ps := ps) (c := c) (P := P) (mg := X.mg) (closure_ok hfree) I.ok.glob (I.mod.glob.keeps I.bk) hcode (TB.code.keeps I.bk) tabH tri fnd (TB.bm.keeps I.bk) fun ctv g tk kept grown => ?_
    refine k g.objs.size b ((X.mg "__name__").getD .none) ctv H _ ?_ (.inl ⟨rfl, fnd⟩) (Heap.get?_push_size _ rfl) (I.hok.fresh grown) (below _ grown) hb
    exact I.kept fun d o e => Heap.get?_push_of_some _ (kept d o e)
  | none =>
    refine PySem.W.kla_makeFunction (ps := ps) (c := c) (P := P) (mg := X.mg) (closure_ok hfree) I.ok.glob (I.mod.glob.keeps I.bk) hcode (TB.code.keeps I.bk) tabH tri fnd TB.gP (TB.bm.keeps I.bk) fun c' ctv g tk but big small rec_ tabG => ?_
    obtain ⟨_, oc, vs, t, ec, hoc, hd, hv⟩ := rec_
    cases ec
    have newC : H c' = none := I.hok.fresh big
    have grown : s.heap.objs.size ≤ g.objs.size := Nat.le_of_lt (Nat.lt_of_le_of_lt big small)
    have newF : H g.objs.size = none := I.hok.fresh grown
    have J := LamX.inv_table (q := X.env.qual ++ "<lambda>") (t' := tk) (more := #[rawInt pos.line, rawInt pos.col, .ref c']) (h' := g.push (PySem.W.kla_obj "<lambda>" (X.env.qual ++ "<lambda>") params body scope (cloFrom X.env.cells scope.names []) ((X.mg "__name__").getD .none) c' ctv))
      I tabAt (fun b o ne e => Heap.get?_push_of_some _ (but b o ne e)) (Heap.get?_push_of_some _ tabG) big ⟨oc, vs, t, Heap.get?_push_of_some _ hoc, hd, hv⟩
    refine k g.objs.size c' _ ctv _ _ J (.inr ⟨newC, rfl⟩) (Heap.get?_push_size _ rfl) ?_ (below _ grown) upd_same
    have n2 : g.objs.size ≠ P := (Nat.ne_of_lt (Nat.lt_of_lt_of_le (Heap.lt_size tabH) grown)).symm
    rw [upd_ne (Nat.ne_of_gt small), upd_ne n2]
    exact newF
end
/-- .. in terms of what is told -/
theorem rc_lam {N : En} {F : Hp} {A : List Addr} {H H1 : Hp} {μ : List M} {j : Nat} {P c' : Addr} {q : Str} {ps : Array Value} {pos : Pos} (r : Rc N F A H μ) (ha : A[j]? = some P) (hm : μ[j]? = some (.tab P q)) (tabAt : H P = some (.tbl ps)) (tri : TriplesOk ps.toList)
    (known : ∀ (p : Pos) (v : Value), codeAmong p ps.toList = some v → ∃ b, v = .ref b ∧ F b = some (LamX.CodeO b q)) (l : Lam1 H P ps pos q c' H1) : ∃ F1, Same F F1 ∧ Rc N F1 A H1 μ ∧ F1 c' = some (LamX.CodeO c' q) := by
  rcases l with ⟨rfl, fnd⟩ | ⟨nc, rfl⟩
  · obtain ⟨b, e, hb⟩ := known pos _ fnd
    cases e
    exact ⟨F, Same.refl _, r, hb⟩
  · have ne : P ≠ c' := ne_of_none tabAt nc
    have sm := same_updN (o := LamX.CodeO c' q) (r.fresh nc).2.1
    have r1 := r.frozen nc (LamX.CodeO c' q)
    have eL : (ps ++ #[rawInt pos.line, rawInt pos.col, .ref c']).toList = ps.toList ++ [rawInt pos.line, rawInt pos.col, .ref c'] := by simp
    have r2 := r1.write (m' := .tab P q) ha hm trivial (o := .tbl (ps ++ #[rawInt pos.line, rawInt pos.col, .ref c'])) ⟨rfl, _, upd_same, by rw [eL]; exact PySem.TriplesOk_snoc _ _ _ _ tri, fun p v hv => by
      rw [eL] at hv
      rcases LamX.among_app _ tri hv with z | z
      · obtain ⟨b, e, hb⟩ := known p v z
        exact ⟨b, e, sm _ _ hb⟩
      · exact ⟨c', z, upd_same⟩⟩
    refine ⟨_, sm, ?_, upd_same⟩
    have es : μ.set j (.tab P q) = μ := by
      obtain ⟨h1, h2⟩ := List.getElem?_eq_some_iff.mp hm
      rw [← h2]
      exact List.set_getElem_self h1
    have eH : upd (upd H c' (LamX.CodeO c' q)) P (.tbl (ps ++ #[rawInt pos.line, rawInt pos.col, .ref c'])) = upd (upd H P (.tbl (ps ++ #[rawInt pos.line, rawInt pos.col, .ref c']))) c' (LamX.CodeO c' q) := by
      funext b
      by_cases h1 : b = P
      · subst h1
        rw [upd_same, upd_ne ne, upd_same]
      · rw [upd_ne h1]
        by_cases h2 : b = c'
        · subst h2
          rw [upd_same, upd_same]
        · rw [upd_ne h2, upd_ne h2, upd_ne h1]
    rw [es, eH] at r2
    exact r2
end Dl
set_option Elab.async false
set_option linter.all false
set_option maxRecDepth 100000
set_option maxHeartbeats 4000000
set_option autoImplicit false
namespace Dl
open PySem PySem.Spec PyProof.Rows L2
section
variable {X : Cx} {pins : List (Addr × Obj)} {σ : L2.St} {H : Hp} {s : Shared}
abbrev lamQ (X : Cx) : Str := X.env.qual ++ "<lambda>"
abbrev lamO (X : Cx) (params : Arguments) (body : Expr) (scope : Scope) (pm : Value) (c' : Addr) (ctv : Value) : Obj := PySem.W.kla_obj "<lambda>" (lamQ X) params body scope (cloFrom X.env.cells scope.names []) pm c' ctv
end
end Dl
set_option Elab.async false
set_option linter.all false
set_option maxRecDepth 100000
set_option maxHeartbeats 4000000
set_option autoImplicit false
namespace Dl
open PySem PySem.Spec PyProof.Rows L2
/-! ## a def whose code object is named: a maker of lambdas -/
theorem fn_Dc {P : Program} {w : World} {K : PySem.W.Frag} {mg : Str → Option Value} {base : Heap} {x qual : Str} {st : Stmt} {f cA : Addr} {oc kV doc pm ct : Value} {od an : Option Addr} {osl : Array (Option Value)} {Nn ps : List Str} {k : Nat} {R : Rel}
    (lk : K.lookup f = some ⟨oc, od, .func (PySem.W.fnOf x qual (defArgs st) (defBody st) (defScope st) .none kV doc pm an (.ref cA) ct), osl⟩) (hcd : PySem.W.codeIn K (.ref cA) qual = true) (Sc : FnScope Nn ps (defScope st)) (hlen : ∀ ss μ r μ', R ss μ r μ' → ss.length = ps.length)
    (body : ∀ (A : Around) (outer : List Env) (s : Shared) (H : Hp) (E : XK) (N : En) (W : WX) (ss : List S) (μ : List M) (r : Rx) (μ' : List M), Go (cxOf (L2.CX P w) P w K mg base Nn qual (defScope st) f (.ref cA) A outer s H E) N W k → N.A0.length = μ.length → R ss μ r μ' →
      ∃ o, DSs (cxOf (L2.CX P w) P w K mg base Nn qual (defScope st) f (.ref cA) A outer s H E) N W (starts Nn ss) μ (defBody st) o ∧ Fit μ.length o r μ') :
    FnOk P w K mg base (L2.CX P w) (k + 1) f (PySem.W.fnOf x qual (defArgs st) (defBody st) (defScope st) .none kV doc pm an (.ref cA) ct) ps (spD K R) := by
  refine fn_of lk hcd Sc (fun vs H Q E h => ?_) (fun A outer s H vs Q E hr h => ?_)
  · obtain ⟨F0, A0, ss, μ, r, μ', hR, _, rv, _⟩ := h
    rw [rv.length]
    exact hlen _ _ _ _ hR
  · obtain ⟨F0, A0, ss, μ, r, μ', hR, rc, rv, hq⟩ := h
    have g : Go (cxOf (L2.CX P w) P w K mg base Nn qual (defScope st) f (.ref cA) A outer s H E) ⟨K, H, F0, A0⟩ (fun cls d _ H => E cls d H) k :=
      ⟨takes_of rfl rfl rfl rfl, rfl, rfl, hr, passes_of rfl, Sc.nd⟩
    have h0 : A0.length = μ.length := rc.len
    obtain ⟨o, hd, fit⟩ := body A outer s H E ⟨K, H, F0, A0⟩ _ ss μ r μ' g h0 hR
    refine ⟨_, hd, F0, A0, ⟨rc, (start_slots (N := ⟨K, H, F0, A0⟩) Nn rv).1, (start_slots (N := ⟨K, H, F0, A0⟩) Nn rv).2⟩, ?_⟩
    · cases fit with
      | rt => exact fun v F' A' H' e p rc' rv' => hq v F' A' H' rc' rv'
      | rtT hn => exact fun v F' A' H' e p rc' rv' => hq v F' _ H' (rc'.trim (by show A0.length ≤ _; omega)) rv'
      | nx => exact fun σ' F' A' H' e p R' => hq .non F' A' H' R'.rc .non
      | nxT hn => exact fun σ' F' A' H' e p R' => hq .non F' _ H' (R'.rc.trim (by show A0.length ≤ _; omega)) .non
      | xx => exact fun σ' dx v F' A' H' e p R' h1 h2 => hq dx v F' A' H' R'.rc h1 h2
      | xxT hn => exact fun σ' dx v F' A' H' e p R' h1 h2 => hq dx v F' _ H' (R'.rc.trim (by show A0.length ≤ _; omega)) h1 h2
/-! ## what was heard: (None, what came back) or (the error, None) -/
theorem EndE.imp {N : En} {W W' : WX} {σ : L2.St} {δ : List (Option S)} {F : Hp} {A : List Addr} {μ : List M} {Q Q' : VK} {r : Rx} (k : EndE N W σ δ F A μ Q r) (hW : ∀ c d σ H, W c d σ H → W' c d σ H) (hQ : ∀ v H, Q v H → Q' v H) : EndE N W' σ δ F A μ Q' r := by
  cases r with
  | v s => exact fun v F' A' H' e p R' rv => hQ _ _ (k v F' A' H' e p R' rv)
  | x C d => exact fun dx v F' A' H' e p R' h1 h2 => hW _ _ _ _ (k dx v F' A' H' e p R' h1 h2)
inductive HR (K : PySem.W.Frag) (CK : Addr) : Rx → D → Prop
  | v (d) : HR K CK (.v (.p d)) (.tup [.non, d])
  | x {C d} : PySem.W.exmOne K (.ref C) (.ref CK) = some true → HR K CK (.x C d) (.tup [.exc C d, .non])
end Dl
set_option Elab.async false
set_option linter.all false
set_option maxRecDepth 100000
set_option maxHeartbeats 4000000
set_option autoImplicit false
namespace Dl
open PySem PySem.Spec PyProof.Rows L2
/-! ## kept exceptions: their class, their value -/
structure XC (K : PySem.W.Frag) (C : Addr) : Prop where
  hga : PySem.W.findIn K (.ref C) "__getattribute__" = some (some (.builtin "BaseException.__getattribute__"))
  hgt : PySem.W.findIn K (.ref C) "__getattr__" = some none
  hsub : PySem.W.subIn K (.ref C) (.type "BaseException") = some true
  hd : PySem.W.hasDictIn K C = true
  ha : PySem.W.findIn K (.ref C) "__class__" = some (some (.builtin "object.__class__"))
  hn : PySem.W.specialIn K (.builtin "object.__class__") "__get__" = some (some (.builtin "getset_descriptor.__get__"))
  htk : PySem.W.takesIn K (.builtin "object.__class__") = some true
  hm : PySem.W.mroIn K C (.type "object") = some true
  nv : PySem.W.findIn K (.ref C) "value" = some none
theorem XC.cl {K : PySem.W.Frag} {C : Addr} (c : XC K C) : (PySem.W.clsIn K C).isSome = true := by
  have h := c.hd
  unfold PySem.W.hasDictIn at h
  cases e : PySem.W.clsIn K C with
  | none => rw [e] at h; cases h
  | some x => rfl
/-! ## == at depth -/
mutual
inductive PyD : D → PyData → Prop
  | non : PyD .non .none
  | bl (b) : PyD (.bl b) (.bool b)
  | int (i) : PyD (.int i) (.int i)
  | str (z) : PyD (.str z) (.str z)
  | tup {ds ps} : PyDs ds ps → PyD (.tup ds) (.tuple ps)
  | lst {ds ps} : PyDs ds ps → PyD (.lst ds) (.list ps)
inductive PyDs : List D → List PyData → Prop
  | nil : PyDs [] []
  | cons {d q ds qs} : PyD d q → PyDs ds qs → PyDs (d :: ds) (q :: qs)
end
mutual
theorem PyD.dp {K : PySem.W.Frag} {F H : Hp} (sm : Same F H) : ∀ {d : D} {q : PyData} {v : V}, PyD d q → Rep K F v d → Dp K H v q
  | _, _, _, .non, h => by cases h; exact .non
  | _, _, _, .bl b, h => by cases h; exact .bl b
  | _, _, _, .int i, h => by cases h; exact .int i
  | _, _, _, .str z, h => by cases h; exact .str z
  | _, _, _, .tup hs, h => by
    obtain ⟨a, ws, rfl, h1, h2⟩ := rep_tup h
    exact .tup (same_sqT sm h1) (PyDs.dp sm hs h2)
  | _, _, _, .lst hs, h => by
    obtain ⟨a, ws, rfl, h1, h2⟩ := rep_lst h
    exact .lst (SqL.of (sm _ _ h1)) (PyDs.dp sm hs h2)
theorem PyDs.dp {K : PySem.W.Frag} {F H : Hp} (sm : Same F H) : ∀ {ds : List D} {qs : List PyData} {vs : List V}, PyDs ds qs → Reps K F vs ds → DpAll K H vs qs
  | _, _, _, .nil, h => by cases h; exact .nil
  | _, _, _, .cons h1 h2, h => by
    cases h with
    | cons r1 r2 => exact .cons (PyD.dp sm h1 r1) (PyDs.dp sm h2 r2)
end
section
variable {X : Cx} {N : En} {W : WX} {n : Nat} {δ δ' δ1 δ2 : List (Option S)} {μ μ' μ1 μ2 μ3 : List M} {e a b c o : Expr} {es : List Expr} {ss : List S} {pos p apos : Pos} {d : D} {s s1 s2 : S} {r : Rx} {R : Rel} {k : Nat} {x m f : Str} {dd : List D} {C : Addr}
/-- where it stands -/
theorem exc_at {pins : List (Addr × Obj)} {σ : L2.St} {H F : Hp} {sh : Shared} {v : V} (I : Inv X pins σ H sh) (sm : Same F H) (h : Rep X.K F v (.exc C d)) : ∃ (ad dx : Addr) (w : V) (oe : Obj) (od : Obj) (u : Value), v = .ref ad ∧ Rep X.K F w d ∧ PySem.W.InstAt sh.heap ad oe C (some od) ∧ PySem.W.lookIn "value" od = some (some u) ∧ RelV w u := by
  obtain ⟨ad, dx, w, rfl, h1, h2, h3⟩ := rep_exc h
  obtain ⟨⟨oe, vs, q1, q2, q3⟩, _⟩ := I.hok ad _ (sm _ _ h1)
  have hx : ObjOk X.prog X.w H sh.heap dx (.xd [("value", w)]) := I.hok dx _ (sm _ _ h2)
  obtain ⟨mA, ns, hr⟩ := hx
  obtain ⟨od, ho, hl⟩ := lookIn_ns ns
  have l : List.lookup ("value" : Str) [(("value" : Str), w)] = some w := by simp [List.lookup]
  obtain ⟨u, hu, ru⟩ := RelO.some_of (v := w) (o := mA "value") (by rw [← l]; exact hr "value")
  exact ⟨ad, dx, w, oe, od, u, rfl, h3, ⟨q1, q2.1, by unfold PySem.W.notCls; rw [q3] <;> rfl, by rw [q2.2]; exact ho⟩, by rw [hl, hu], ru⟩
theorem c_isiX {Dc : Addr} {q : Bool} (g : Go X N W n) (xc : XC X.K C) (h : PySem.W.kitOne X.K (.ref C) (.ref Dc) = some q) : CallOk X N W (.builtin "isinstance") μ [.p (.exc C d), .p (.adr Dc)] (.v (.p (.bl q))) μ := by
  refine ⟨fun xs H Q => ∃ F v, Same F H ∧ Rep X.K F v (.exc C d) ∧ xs = [v, .ref Dc] ∧ Q (.bl q) H, fun pins s σ H xs us Q I r ⟨F, v, sm, rp, e, qq⟩ => ?_, fun σ δ F A H vs Q R rv kk => ?_⟩
  · subst e
    cases r with
    | cons r1 r2 =>
      cases r2 with
      | cons r2 r3 =>
        cases r3
        obtain ⟨ad, dx, w, oe, od, u, rfl, _, J, _, _⟩ := exc_at I sm rp
        cases r1
        cases r2
        exact PySem.W.kia_one (PySem.W.kitx_exc xc.cl xc.hga xc.hgt xc.hsub xc.ha xc.hn xc.htk xc.hm) I.kIn J h (by intro z; cases z) fun tk => ⟨.bl q, H, I.kept (t' := tk) fun _ _ z => z, rfl, qq⟩
  · obtain ⟨v, w, rfl, h1, h2⟩ := two_of rv
    cases rs_adr h2
    exact ⟨F, v, R.rc.sub, by rw [← g.hK]; exact h1, rfl, kk.here R (.bl _)⟩
theorem de_excVal (g : Go X N W n) (xc : XC X.K C) (ho : DE X N W δ μ e (.v (.p (.exc C d))) μ1) (hb : attributeBase e "value" X.env (eval e X.env) = eval e X.env := by rfl) : DE X N W δ μ (.Attribute e "value" pos) (.v (.p d)) μ1 := by
  refine ⟨fun pins s σ H Q I ⟨F, A, R0, q⟩ => attr_of hb (thn (ho.run pins s σ H (fun v H' => ∃ F' A', Same F F' ∧ A <+: A' ∧ Rl N F' A' H' σ δ μ1 ∧ RepS N.K F' A' v (.p (.exc C d))) I ⟨F, A, R0, fun v F' A' H' h1 h2 h3 h4 => ⟨F', A', h1, h2, h3, h4⟩⟩) fun u0 s1 ⟨v, H1, I1, r1, F1, A1, e1, p1, R1, rp⟩ => ?_)⟩
  obtain ⟨ad, dx, w, oe, od, u, rfl, h3, J, hl, ru⟩ := exc_at I1 R1.rc.sub (by rw [← g.hK]; exact rp)
  obtain rfl : u0 = Value.ref ad := r1
  exact HandSPX.exc_get I1.kIn J xc.hga xc.hgt xc.hsub (PySem.W.findObj_own xc.hd xc.nv rfl hl) (handed_of ru) ⟨w, H1, I1.tok _, ru, q w F1 A1 H1 e1 p1 R1 (by rw [g.hK]; exact h3)⟩
/-! ## is None -/
/-! ## tuples and lists -/
theorem o_catT (g : Go X N W n) {ds es : List D} (hl : ds.length + es.length ≤ sizeLine) : OpOk X N W (binaryOp .Add) μ (.p (.tup ds)) (.p (.tup es)) (.v (.p (.tup (ds ++ es)))) μ :=
  ⟨_, op_catA, fun σ δ F A H x y Q R rx ry k => by
    obtain ⟨a, ws, rfl, h1, h2⟩ := rep_tup (show Rep N.K F x (.tup ds) from rx)
    obtain ⟨b, us, rfl, h3, h4⟩ := rep_tup (show Rep N.K F y (.tup es) from ry)
    refine ⟨a, b, ws, us, rfl, rfl, by rw [← g.hK]; exact same_sqT R.rc.sub h1, by rw [← g.hK]; exact same_sqT R.rc.sub h3, by rw [h2.length, h4.length]; exact hl, fun z => ?_, fun _ z => ?_, fun _ _ p np => ?_⟩
    · subst z
      cases h2
      exact k.here R (.tup h3 h4)
    · subst z
      cases h4
      exact k.here R (.tup h1 (by rw [List.append_nil]; exact h2))
    · have sm := same_updN (o := .tup (ws ++ us)) (R.rc.fresh np).2.1
      exact k (.ref p) _ A _ sm (List.prefix_refl _) (R.to sm (List.prefix_refl _) (R.rc.frozen np _)) (.tup (.inl (.inl upd_same)) ((h2.append h4).mono sm))⟩
theorem c_tupL {ds : List D} : CallOk X N W (.type "tuple") μ [.p (.lst ds)] (.v (.p (.tup ds))) μ :=
  ⟨_, call_tuple_of, fun σ δ F A H vs Q R rv k => by
    obtain ⟨v, rfl, h⟩ := one_of rv
    obtain ⟨a, ws, rfl, h1, h2⟩ := rep_lst (show Rep N.K F v (.lst ds) from h)
    refine ⟨a, ws, rfl, .inl ⟨SqL.of (R.rc.sub _ _ h1), fun p np => ?_⟩⟩
    have sm := same_updN (o := .tup ws) (R.rc.fresh np).2.1
    exact k (.ref p) _ A _ sm (List.prefix_refl _) (R.to sm (List.prefix_refl _) (R.rc.frozen np _)) (.tup (.inl (.inl upd_same)) (h2.mono sm))⟩
theorem o_eqD (g : Go X N W n) {d1 d2 : D} {p1 p2 : PyData} {q : Bool} (h1 : PyD d1 p1) (h2 : PyD d2 p2) (s1 : SeqAt.shaped p1 = true) (s2 : SeqAt.shaped p2 = true) (hq : PyData.eqv p1 p2 = q) : OpOk X N W (compareOp .Eq) μ (.p d1) (.p d2) (.v (.p (.bl q))) μ :=
  ⟨_, op_eqD (by have := g.room.un; omega), fun σ δ F A H x y Q R rx ry k => ⟨p1, p2, by rw [← g.hK]; exact h1.dp R.rc.sub rx, by rw [← g.hK]; exact h2.dp R.rc.sub ry, s1, s2, by rw [hq]; exact k.here R (.bl _)⟩⟩
end
end Dl
set_option Elab.async false
set_option linter.all false
set_option maxRecDepth 100000
set_option maxHeartbeats 4000000
set_option autoImplicit false
namespace Dl
open PySem PySem.Spec PyProof.Rows L2
/-! ## a text cut: x[:i], x[i:] -/
end Dl
set_option Elab.async false
set_option linter.all false
set_option maxRecDepth 100000
set_option maxHeartbeats 4000000
set_option autoImplicit false
namespace Dl
open PySem PySem.Spec PyProof.Rows L2
/-! ## enumerate(list) -/
section
variable {X : Cx} {N : En} {W : WX} {n : Nat} {δ : List (Option S)} {μ μ1 μ2 μ3 : List M} {e a b o iter tg : Expr} {es : List Expr} {pos p p2 tpos : Pos} {ds : List D} {elts : List Expr} {kk : Nat} {d : D}
/-! ## a list taken apart -/
def asLst (fs : List As) : As := fun d δ => match d with
  | .lst ds => asAll fs ds δ
  | _ => none
theorem dg_lst {ts : List Expr} {kk : Nat} {fs : List As} {ix : List Nat} (h : DGs X N ts fs ix) (hK : N.K = X.K) (hc : X.calm = true) (hn : (assignEach ts X.env).length = fs.length := by rfl) (hst : (assignEach ts X.env).findIdx? (·.1) = none := by rfl) : DG X N (.Tuple ts kk pos) (asLst fs) ix :=
  PG.imp (pg_unl hc h hn hst) fun v σ H Q ⟨F, A, δ, μ, d, δ', R, rv, hf, k⟩ => by
    cases d with
    | lst ds =>
      obtain ⟨a, vs, rfl, h1, h2⟩ := rep_lst rv
      refine ⟨a, vs, rfl, SqL.of (R.rc.sub _ _ h1), ?_, F, A, δ, μ, ds, δ', R, h2, hf, k⟩
      rw [h2.length]
      exact asAll_len hf
    | _ => cases hf
/-! ## a dict of the module with text keys -/
theorem reps_all {K : PySem.W.Frag} {F : Hp} {A : List Addr} : ∀ {vs : List V} {ds : List D}, Reps K F vs ds → RepSs K F A vs (ds.map S.p)
  | _, _, .nil => .nil
  | _, _, .cons h t => .cons h (reps_all t)
/-! ## [*xs, ..] -/
theorem dp_star {ds es' : List D} {es : List Expr} (h : DE X N W δ μ e (.v (.p (.lst ds))) μ1) (h' : DP X N W δ μ1 es es' μ2) (hK : N.K = X.K) (hs : starEach (.Starred e p :: es) X.env = (true, eval e X.env) :: starEach es X.env := by rfl) : DP X N W δ μ (.Starred e p :: es) (ds ++ es') μ2 :=
  PA.imp (StX.pa_star h h' hs) fun σ H Q ⟨F, A, R, k⟩ => ⟨F, A, R, fun v F1 A1 H1 e1 p1 R1 rv => by
    obtain ⟨a, vs, rfl, h1, h2⟩ := rep_lst rv
    have hK' := hK
    rw [← hK]
    refine ⟨a, vs, rfl, .inr (SqL.of (R1.rc.sub _ _ h1)), F1, A1, R1, fun ws F2 A2 H2 e2 p2 R2 rw2 => ?_⟩
    exact k (vs ++ ws) F2 A2 H2 (e1.trans e2) (p1.trans p2) R2 (by rw [List.map_append]; exact RepSs.append (reps_all (h2.mono e2)) rw2)⟩
end
end Dl
set_option Elab.async false
set_option linter.all false
set_option maxRecDepth 100000
set_option maxHeartbeats 4000000
set_option autoImplicit false
namespace Dl
open PySem PySem.Spec PyProof.Rows L2
/-! ## a, .., *rest = a list -/
end Dl
set_option Elab.async false
set_option linter.all false
set_option maxRecDepth 100000
set_option maxHeartbeats 4000000
set_option autoImplicit false
namespace Dl
open PySem PySem.Spec PyProof.Rows L2
/-! ## lists cut: xs[lo:hi], xs[lo:hi:step] -/
def cutX {α : Type} (xs : List α) (lo hi : Option Int) : List α := (xs.drop (HT.sIx xs.length 0 lo)).take (HT.sIx xs.length xs.length hi - HT.sIx xs.length 0 lo)
theorem Reps.cut {K : PySem.W.Frag} {F : Hp} {vs : List V} {ds : List D} (r : Reps K F vs ds) (lo hi : Option Int) : Reps K F (cutV vs lo hi) (cutX ds lo hi) := by
  unfold cutV cutX
  rw [r.length]
  exact (r.drop _).take _
/-! ## .. with a step -/
def pickX {α : Type} (xs : List α) (lo hi st : Option Int) : List α := (sliceRange (sliceBounds lo hi st xs.length).1 (sliceBounds lo hi st xs.length).2.1 (sliceBounds lo hi st xs.length).2.2).filterMap (xs[·]?)
theorem pick_arr (its : List Value) (lo hi st : Option Int) : slicePick its.toArray lo hi st = (pickX its lo hi st).toArray := by
  unfold slicePick pickX
  simp
theorem pick_rel {xs : List V} {ys : List Value} (r : Vals xs ys) (is : List Nat) : Vals (is.filterMap (xs[·]?)) (is.filterMap (ys[·]?)) := by
  induction is with
  | nil => exact .nil
  | cons i is ih =>
    rw [List.filterMap_cons, List.filterMap_cons]
    cases hx : xs[i]? with
    | none =>
      have hy : ys[i]? = none := by
        rw [List.getElem?_eq_none_iff] at hx ⊢
        rw [← r.length]
        exact hx
      simp only [hy]
      exact ih
    | some x =>
      obtain ⟨y, hy, hr⟩ := r.get hx
      simp only [hy]
      exact .cons hr ih
theorem Vals.pick {vs : List V} {us : List Value} (r : Vals vs us) (lo hi st : Option Int) : Vals (pickX vs lo hi st) (pickX us lo hi st) := by
  unfold pickX
  rw [r.length]
  exact pick_rel r _
theorem Reps.pick {K : PySem.W.Frag} {F : Hp} {vs : List V} {ds : List D} (r : Reps K F vs ds) (lo hi st : Option Int) : Reps K F (pickX vs lo hi st) (pickX ds lo hi st) := by
  unfold pickX
  rw [r.length]
  generalize sliceRange (sliceBounds lo hi st ds.length).1 (sliceBounds lo hi st ds.length).2.1 (sliceBounds lo hi st ds.length).2.2 = is
  induction is with
  | nil => exact .nil
  | cons i is ih =>
    rw [List.filterMap_cons, List.filterMap_cons]
    cases hx : vs[i]? with
    | none =>
      have hy : ds[i]? = none := by
        rw [List.getElem?_eq_none_iff] at hx ⊢
        rw [← r.length]
        exact hx
      simp only [hy]
      exact ih
    | some x =>
      obtain ⟨y, hy, hr⟩ := r.get' hx
      simp only [hy]
      exact .cons hr ih
section
variable {X : Cx} {e st : Expr} {te : TE} {lo hi : Option Expr} {tl th tc : TO} {pos p2 : Pos}
theorem pe_slice3 (he : PE X e te) (hl : PO X lo tl) (hu : PO X hi th) (hc : PO X (some st) tc) : PE X (.Subscript e (.Slice lo hi (some st) p2) pos) (fun σ H Q => te σ H fun x H1 => tl σ H1 fun l H2 => th σ H2 fun u H3 => tc σ H3 fun c H4 => ∃ a xs, x = .ref a ∧ SqL X.K H4 a xs ∧ c ≠ some 0 ∧ (pickX xs l u c).length ≤ sizeLine ∧ ∀ p, H4 p = none → Q (.ref p) (upd H4 p (.lst (pickX xs l u c)))) := by
  refine ⟨fun pins s σ H Q I h => ?_⟩
  refine Subscript_ (thn (he.run pins s σ H _ I h) fun v s1 ⟨x, H1, I1, r1, q1⟩ => ?_)
  refine wpAny_Slice (thn (hl.run pins s1 σ H1 _ I1 q1) fun vl s2 ⟨l, H2, I2, pl, q2⟩ => thn (hu.run pins s2 σ H2 _ I2 q2) fun vu s3 ⟨u, H3, I3, pu, q3⟩ => thn (hc.run pins s3 σ H3 _ I3 q3) fun vc s4 ⟨c, H4, I4, pc, q4⟩ => ?_)
  have I5 : Inv X pins σ H4 { s4 with heap := s4.heap.push { cls := .type "slice", data := .fields #[vl, vu, vc] } } := I4.kept (t' := s4.toks) fun b ob q => Heap.get?_push_of_some _ q
  obtain ⟨a, xs, rfl, hx, h0, hz2, q⟩ := q4
  cases r1
  obtain ⟨its, r, ht, hz⟩ := I5.list hx
  have hlen := r.length
  have z : wpAny (model X.prog X.w) X.A (getItem (.ref a) (.ref s4.heap.objs.size)) (EP X pins σ Q) X.xe { s4 with heap := s4.heap.push { cls := .type "slice", data := .fields #[vl, vu, vc] } } := by
    refine wpAny_getItem_list_slice ht.isList (Heap.IsSliceOf.new ..) pl pu pc h0 ?_ (by rw [List.size_toArray] <;> omega)
    rw [pick_arr]
    exact ⟨.ref (s4.heap.push { cls := .type "slice", data := .fields #[vl, vu, vc] }).objs.size, _, I5.laid (t' := s4.toks) (o := .lst (pickX xs l u c)) (fun b ob q => Heap.get?_push_of_some _ q) (Nat.le_refl _) ⟨hz2, _, 0, Vals.pick r l u c, Heap.get?_push_size _ rfl⟩, rfl, q _ (I5.hok.fresh (Nat.le_refl _))⟩
  show wpAny (model X.prog X.w) X.A (subscriptTail e (.Slice lo hi (some st) p2) (.ref a) (.ref s4.heap.objs.size)) (EP X pins σ Q) X.xe { s4 with heap := s4.heap.push { cls := .type "slice", data := .fields #[vl, vu, vc] } }
  exact tail_any (ops := [.ref a, .ref s4.heap.objs.size]) ht.isList.typeIs PySem.F.slot_list_getitem.lookup z (by with_unfolding_all rfl)
end
end Dl
set_option Elab.async false
set_option linter.all false
set_option maxRecDepth 100000
set_option maxHeartbeats 4000000
set_option autoImplicit false
namespace Dl
open PySem PySem.Spec PyProof.Rows L2
/-! ## one < other: texts, pairs of a text and an int; in a tuple of texts; range with a step -/
section
variable {X : Cx} {N : En} {W : WX} {n : Nat} {δ : List (Option S)} {μ μ1 : List M} {a b c tg : Expr} {p pos : Pos}
/-- a text in a tuple of texts -/
theorem strs_vals {K : PySem.W.Frag} {F : Hp} : ∀ {zs : List Str} {vs : List V}, Reps K F vs (zs.map D.str) → vs = zs.map V.str
  | [], _, h => by cases h; rfl
  | z :: zs, _, h => by
    cases h with
    | cons r t =>
      cases (show Rep K F _ (.str z) from r)
      rw [strs_vals t]
      rfl
theorem inV_strs (z : Str) : ∀ zs : List Str, inV (.str z) (zs.map V.str) = decide (z ∈ zs)
  | [] => rfl
  | y :: zs => by
    have := inV_strs z zs
    unfold inV at *
    rw [List.map_cons, List.any_cons, this]
    show ((y == z) || decide (z ∈ zs)) = decide (z ∈ y :: zs)
    by_cases h : z = y
    · subst h; simp
    · have h' : ¬ y = z := fun q => h q.symm
      simp [h, h']
theorem o_inStrT (g : Go X N W n) {z : Str} {zs : List Str} : OpOk X N W (compareOp .In) μ (.p (.str z)) (.p (.tup (zs.map D.str))) (.v (.p (.bl (decide (z ∈ zs))))) μ :=
  ⟨_, op_in_seq, fun σ δ F A H x y Q R rx ry k => by
    cases (show Rep N.K F x (.str z) from rx)
    obtain ⟨a, vs, rfl, h1, h2⟩ := rep_tup (show Rep N.K F y (.tup (zs.map D.str)) from ry)
    have e := strs_vals h2
    subst e
    refine ⟨a, _, rfl, .inr (by rw [← g.hK]; exact same_sqT R.rc.sub h1), rfl, by simp [flatV], ?_⟩
    rw [inV_strs]
    exact k.here R (.bl _)⟩
end
end Dl
set_option Elab.async false
set_option linter.all false
set_option maxRecDepth 100000
set_option maxHeartbeats 4000000
set_option autoImplicit false
namespace Cq
open PySem PySem.Spec PyProof.Rows L2 Dl
/-! # merging runs -/
/-! ## texts in order -/
end Cq
set_option Elab.async false
set_option linter.all false
set_option maxRecDepth 100000
set_option maxHeartbeats 4000000
set_option autoImplicit false
namespace Cq
open PySem PySem.Spec PyProof.Rows L2 Dl
/-! # lines of circuits, as words of signs -/
inductive Ln where
  | ab (q : Bool) (s : Int) (L : List Nat)
  | h (a : Nat)
  | pr (k a b : Nat)
  | tn (s : Int) (L : List Nat) (ps : List (List Nat × Int))
deriving DecidableEq
abbrev wFlip : List Nat := [102, 108, 105, 112]
abbrev wQuarter : List Nat := [113, 117, 97, 114, 116, 101, 114]
abbrev wTurn : List Nat := [116, 117, 114, 110]
abbrev wBy : List Nat := [98, 121]
def pn (k : Nat) : List Nat := if k = 0 then [99, 122] else if k = 1 then [99, 120] else [115, 119, 97, 112]
def sgL (L : List Nat) (s : Int) : List Nat := if s < 0 then 45 :: L else L
def mt (i : Int) : List Nat := if i < 0 then [45, 48 + (-i).toNat] else [48 + i.toNat]
def lw : Ln → List (List Nat)
  | .ab q s L => [if q then wQuarter else wFlip, sgL L s]
  | .h a => [[104], [48 + a]]
  | .pr k a b => [pn k, [48 + a], [48 + b]]
  | .tn s L ps => wTurn :: sgL L s :: wBy :: ps.flatMap fun p => [mt p.2, p.1]
def lt (l : Ln) : List Nat := TL.joinL [32] (lw l)
def wT (w : Nat) : List Nat := [119, 105, 114, 101, 115, 32, 48 + w]
def ct (w : Nat) (ls : List Ln) : List Nat := TL.joinL [10] (wT w :: ls.map lt)
structure okNm (k : List Nat) : Prop where
  one : 1 ≤ k.length
  eight : k.length ≤ 8
  az : ∀ c ∈ k, 97 ≤ c ∧ c ≤ 122
def manys : List Int := [1, 2, 3, 4, -1, -2, -3, -4]
structure okWd (w : Nat) (s : Int) (L : List Nat) : Prop where
  okL : Dl.okL L
  pm : s = 1 ∨ s = -1
  len : L.length = w
  ne : L ≠ List.replicate w 73
def okLn (w : Nat) : Ln → Prop
  | .ab _ s L => okWd w s L
  | .h a => a < w
  | .pr k a b => k < 3 ∧ a < w ∧ b < w ∧ a ≠ b
  | .tn s L ps => okWd w s L ∧ 1 ≤ ps.length ∧ ps.length ≤ 3 ∧ (ps.map (·.1)).Nodup ∧ ∀ p ∈ ps, okNm p.1 ∧ p.2 ∈ manys
def isT : Ln → Bool
  | .tn _ _ _ => true
  | _ => false
/-! ## signs in them -/
theorem in_IXYZ {c : Nat} (h : c ∈ IXYZ) : c = 73 ∨ c = 88 ∨ c = 89 ∨ c = 90 := by
  simpa [IXYZ] using h
def gd (c : Nat) : Prop := 33 ≤ c ∧ c ≤ 122
/-! ## lengths -/
/-! ## what they are read as -/
end Cq
set_option Elab.async false
set_option linter.all false
set_option maxRecDepth 100000
set_option maxHeartbeats 4000000
set_option autoImplicit false
namespace Dl
open PySem PySem.Spec PyProof.Rows L2
section
variable {X : Cx} {N : En} {W : WX} {n k : Nat} {δ : List (Option S)} {μ μ1 μ2 μ3 : List M} {e a b o c : Expr} {es : List Expr} {pos p p2 tpos : Pos} {ds : List D} {d : D} {i j : Int} {lo hi : Option Int} {C : Addr} {R : Rel} {r : Rx}
/-! ## x += e, of ints -/
/-! ## ~a, by its own method -/
/-! ## slices of tuples -/
theorem cut_whole {α : Type} (xs : List α) (h : HT.sIx xs.length 0 lo = 0 ∧ HT.sIx xs.length xs.length hi = xs.length) : cutX xs lo hi = xs := by
  unfold cutX
  rw [h.1, h.2]
  simp
theorem end_cutT {σ : L2.St} {F : Hp} {A : List Addr} {H : Hp} {Q : VK} {v : V} (g : Go X N W n) (R : Rl N F A H σ δ μ) (rv : Rep N.K F v (.tup ds)) (k : EndE N W σ δ F A μ Q (.v (.p (.tup (cutX ds lo hi))))) : rSlA X.K v lo hi H Q := by
  obtain ⟨a, vs, rfl, h1, h2⟩ := rep_tup rv
  have hl := h2.length
  refine ⟨a, vs, rfl, by rw [← g.hK]; exact same_sqT R.rc.sub h1, fun hw => ?_, fun hw p np => ?_⟩
  · rw [hl] at hw
    rw [cut_whole ds hw] at k
    exact k.here R (show Rep N.K F (.ref a) (.tup ds) from rv)
  · have sm := same_updN (o := .tup (cutV vs lo hi)) (R.rc.fresh np).2.1
    exact k (.ref p) _ A _ sm (List.prefix_refl _) (R.to sm (List.prefix_refl _) (R.rc.frozen np _)) (.tup (SqT.of upd_same) ((h2.cut lo hi).mono sm))
theorem de_cutTf (g : Go X N W n) (he : DE X N W δ μ e (.v (.p (.tup ds))) μ1) (ha : DE X N W δ μ1 a (.v (.p (.int i))) μ2) : DE X N W δ μ (.Subscript e (.Slice (some a) none none p2) pos) (.v (.p (.tup (cutX ds (some i) none)))) μ2 :=
  PE.imp (pe_slice sl_tupA he (po_some ha) po_none) fun σ H Q ⟨F, A, R0, k⟩ => ⟨F, A, R0, fun v F1 A1 H1 e1 a1 R1 rv => by
    refine ⟨F1, A1, R1, fun v2 F2 A2 H2 e2 a2 R2 rv2 => ?_⟩
    cases (show Rep N.K F2 v2 (.int i) from rv2)
    exact ⟨i, rfl, end_cutT g R2 (Rep.mono e2 rv) (k.to (e1.trans e2) (a1.trans a2))⟩⟩
/-! ## [*t, ..], t a tuple -/
/-! ## not in, lists times ints, str of an int -/
theorem o_notInStrT (g : Go X N W n) {z : Str} {zs : List Str} : OpOk X N W (compareOp .NotIn) μ (.p (.str z)) (.p (.tup (zs.map D.str))) (.v (.p (.bl (!decide (z ∈ zs))))) μ :=
  ⟨_, op_notIn_seq, fun σ δ F A H x y Q R rx ry k => by
    cases (show Rep N.K F x (.str z) from rx)
    obtain ⟨a, vs, rfl, h1, h2⟩ := rep_tup (show Rep N.K F y (.tup (zs.map D.str)) from ry)
    have e := strs_vals h2
    subst e
    refine ⟨a, _, rfl, .inr (by rw [← g.hK]; exact same_sqT R.rc.sub h1), rfl, by simp [flatV], ?_⟩
    rw [inV_strs]
    exact k.here R (.bl _)⟩
theorem Reps.rep {K : PySem.W.Frag} {F : Hp} {vs : List V} {ds : List D} (h : Reps K F vs ds) : ∀ m : Nat, Reps K F (List.replicate m vs).flatten (List.replicate m ds).flatten
  | 0 => .nil
  | m + 1 => by
    rw [List.replicate_succ, List.replicate_succ, List.flatten_cons, List.flatten_cons]
    exact h.append (Reps.rep h m)
theorem o_timesL {ds : List D} {i : Int} (h1 : -(2 ^ 63) ≤ i) (h2 : i < 2 ^ 63) (hl : ds.length * i.toNat ≤ sizeLine) : OpOk X N W (binaryOp .Mult) μ (.p (.lst ds)) (.p (.int i)) (.v (.p (.lst (List.replicate i.toNat ds).flatten))) μ :=
  ⟨_, op_rep, fun σ δ F A H x y Q R rx ry k => by
    cases (show Rep N.K F y (.int i) from ry)
    obtain ⟨a, vs, rfl, g1, g2⟩ := rep_lst (show Rep N.K F x (.lst ds) from rx)
    refine ⟨a, i, vs, rfl, rfl, R.rc.sub _ _ g1, h1, h2, by rw [g2.length]; exact hl, fun p np => ?_⟩
    have sm := same_updN (o := .lst (List.replicate i.toNat vs).flatten) (R.rc.fresh np).2.1
    exact k (.ref p) _ A _ sm (List.prefix_refl _) (R.to sm (List.prefix_refl _) (R.rc.frozen np _)) (.lst upd_same ((g2.rep i.toNat).mono sm))⟩
/-! ## a tuple of the module by its name -/
/-! ## xs[f()] = e: the place is told by a call -/
theorem ds_setI {q : Nat} {ds : List D} {i : Int} {k : Nat} (hv : DE X N W δ μ e (.v (.p d)) μ1) (ho : DE X N W δ μ1 o (.v (.l q)) μ1) (hb : DE X N W δ μ1 b (.v (.p (.int i))) μ2) (hj : μ2[q]? = some (.lst ds)) (hk : ixN ds.length i = some k)
    (hs : swapsWithSole [.Subscript o b p] e pos.line X.env = pure false := by rfl) (hw : swappedStores [.Subscript o b p] e X.env = pure none := by rfl)
    (h1 : (assignEach [.Subscript o b p] X.env).map (·.2) = [assign (.Subscript o b p) X.env] := by rfl)
    (ha : ∀ v, assign (.Subscript o b p) X.env v = (do
      let ov ← holding [v] (eval o X.env)
      let iv ← holding [v, ov] (eval b X.env)
      standAt p
      holding [v, ov, iv] (setItem ov iv v)
      release [v, ov, iv] []) := by intro _; rfl) : DS X N W δ μ (.Assign [.Subscript o b p] e pos) (.nx δ (μ2.set q (.lst (ds.set k d)))) :=
  PS.imp (ps_asg hv (pg_sub ho hb set_list ha) hs hw h1) fun K σ H ⟨F, A, R, z⟩ => ⟨F, A, R, fun v F1 A1 H1 e1 p1 R1 rv => ⟨F1, A1, R1, fun ov F2 A2 H2 e2 p2 R2 ro => ⟨F2, A2, R2, fun iv F3 A3 H3 e3 p3 R3 ri => by
    obtain ⟨a, rfl, ha⟩ := ro
    have rv3 : Rep N.K F3 v d := Rep.mono (e2.trans e3) rv
    have ha3 := getElem?_pre p3 ha
    obtain ⟨ws, h1, h2⟩ := R3.rc.mus q a _ ha3 hj
    refine ⟨a, ws, i, k, rfl, rs_int ri, h1, by rw [h2.length]; exact hk, ?_⟩
    exact z σ F3 A3 _ ((e1.trans e2).trans e3) ((p1.trans p2).trans p3) (R3.to (Same.refl _) (List.prefix_refl _) (R3.rc.write ha3 hj trivial ⟨_, upd_same, h2.set rv3 k⟩))⟩⟩⟩
end
end Dl
set_option Elab.async false
set_option linter.all false
set_option maxRecDepth 100000
set_option maxHeartbeats 4000000
set_option autoImplicit false
namespace Dl
open PySem PySem.Spec PyProof.Rows L2
/-! ## xs[::-1] -/
theorem fm_congr {α β : Type} {f h : α → Option β} : ∀ {l : List α}, (∀ a ∈ l, f a = h a) → l.filterMap f = l.filterMap h
  | [], _ => rfl
  | a :: l, e => by
    rw [List.filterMap_cons, List.filterMap_cons, e a List.mem_cons_self, fm_congr fun b hb => e b (List.mem_cons_of_mem _ hb)]
theorem rev_atN {α : Type} : ∀ (n : Nat) (xs : List α), xs.length = n → (List.range n).filterMap (fun k => xs[n - 1 - k]?) = xs.reverse
  | 0, xs, h => by
    rw [List.length_eq_zero_iff.mp h]
    rfl
  | n + 1, xs, h => by
    obtain ⟨ys, a, rfl⟩ : ∃ ys a, xs = ys ++ [a] := ⟨xs.dropLast, xs.getLast (by intro e; rw [e] at h; cases h), (List.dropLast_concat_getLast _).symm⟩
    have hy : ys.length = n := by simp at h; exact h
    rw [List.range_succ_eq_map, List.filterMap_cons, List.filterMap_map, List.reverse_append]
    have e0 : (ys ++ [a])[n + 1 - 1 - 0]? = some a := by
      rw [List.getElem?_append_right (by omega), show n + 1 - 1 - 0 - ys.length = 0 by omega]
      rfl
    simp only [e0]
    show a :: _ = a :: ys.reverse
    congr 1
    rw [← rev_atN n ys hy]
    refine fm_congr fun k hk => ?_
    have hk : k < n := List.mem_range.mp hk
    show (ys ++ [a])[n + 1 - 1 - (k + 1)]? = ys[n - 1 - k]?
    rw [List.getElem?_append_left (by omega), show n + 1 - 1 - (k + 1) = n - 1 - k by omega]
theorem rev_at {α : Type} (xs : List α) : (List.range xs.length).filterMap (fun k => xs[xs.length - 1 - k]?) = xs.reverse := rev_atN _ xs rfl
theorem pick_rev {α : Type} (xs : List α) : pickX xs none none (some (-1)) = xs.reverse := by
  unfold pickX sliceBounds sliceRange
  simp only [Option.getD_some, show ¬ (-1 : Int) > 0 by decide, if_false]
  rw [← rev_at xs, List.filterMap_map]
  have e : (if (xs.length : Int) - 1 > -1 then ((xs.length : Int) - 1 - -1 - -1 - 1) / (- -1) else 0).toNat = xs.length := by
    rw [show (- -1 : Int) = 1 by decide, Int.ediv_one]
    split <;> omega
  rw [e]
  refine fm_congr fun k hk => ?_
  have hk : k < xs.length := List.mem_range.mp hk
  show xs[((xs.length : Int) - 1 + -1 * (k : Int)).toNat]? = _
  rw [show ((xs.length : Int) - 1 + -1 * (k : Int)).toNat = xs.length - 1 - k by omega]
section
variable {X : Cx} {N : En} {W : WX} {n : Nat} {δ : List (Option S)} {μ μ1 : List M} {e : Expr} {pos p2 p3 p4 : Pos} {ds : List D} {k3 : Option String}
theorem de_revL {kk} (g : Go X N W n) (he : DE X N W δ μ e (.v (.p (.lst ds))) μ1) (hl : ds.length ≤ 100000) : DE X N W δ μ (.Subscript e (.Slice none none (some (.UnaryOp .USub (.Constant (.int 1) kk p3) p4)) p2) pos) (.v (.p (.lst ds.reverse))) μ1 :=
  PE.imp (pe_slice3 he po_none po_none (po_some (de_un (N := N) (W := W) (δ := δ) (μ := μ1) de_int u_neg))) fun σ H Q ⟨F, A, R, k⟩ => ⟨F, A, R, fun v F1 A1 H1 e1 a1 R1 rv => by
    obtain ⟨a, vs, rfl, h1, h2⟩ := rep_lst rv
    have hv2 := h2.length
    refine ⟨F1, A1, R1, fun z F2 A2 H2 e2 a2 R2 rz => ?_⟩
    cases (show Rep N.K F2 z (.int (-1)) from rz)
    refine ⟨-1, rfl, a, vs, rfl, by rw [← g.hK]; exact SqL.of (R2.rc.sub _ _ (e2 _ _ h1)), by decide, by rw [pick_rev, List.length_reverse, sizeLine_eq]; omega, fun p np => ?_⟩
    have sm := same_updN (o := .lst (pickX vs none none (some (-1)))) (R2.rc.fresh np).2.1
    refine k (.ref p) _ A2 _ ((e1.trans e2).trans sm) (a1.trans a2) (R2.to sm (List.prefix_refl _) (R2.rc.frozen np _)) (.lst upd_same ?_)
    have := ((Reps.pick h2 none none (some (-1))).mono e2).mono sm
    rw [pick_rev ds] at this
    exact this⟩
end
/-! ## t[::-1], t a tuple -/
end Dl
set_option Elab.async false
set_option linter.all false
set_option maxRecDepth 100000
set_option maxHeartbeats 4000000
set_option autoImplicit false
namespace Dl
open PySem PySem.Spec PyProof.Rows L2
/-! ## enumerate(t), t a tuple -/
end Dl
set_option Elab.async false
set_option linter.all false
set_option maxRecDepth 100000
set_option maxHeartbeats 4000000
set_option autoImplicit false
namespace Dl
open PySem PySem.Spec PyProof.Rows L2
/-! ## an int before an own object: the reflected method -/
end Dl
set_option Elab.async false
set_option linter.all false
set_option maxRecDepth 100000
set_option maxHeartbeats 4000000
set_option autoImplicit false
namespace Dl
open PySem PySem.Spec PyProof.Rows L2
end Dl
set_option Elab.async false
set_option linter.all false
set_option maxRecDepth 100000
set_option maxHeartbeats 4000000
set_option autoImplicit false
namespace Dl
open PySem PySem.Spec PyProof.Rows L2
/-! ## a def's promise where no guard stands around the call: for defs that write out containers -/
structure FnG (P : Program) (w : World) (K : PySem.W.Frag) (mg : Str → Option Value) (base : Heap) (CX : CXT) (k : Nat) (f : Addr) (fd : FuncData) (ps : List Str) (sp : Sp) : Prop where
  len : ∀ vs H Q E, sp vs H Q E → vs.length = ps.length
  go : ∀ (A : Around) (outer : List Env) (s : Shared) (H : Hp) (args : Args) (us : List Value) (vs : List V) (Q : VK) (E : XK), A.guards = some [] → Room k A → Env0 P w K mg base A outer s H → BindsTo s fd args (ps.zip us) → Vals vs us → sp vs H Q E →
    codeAny (model P w) A (.call (.ref f) args) (CR CX outer P w H s Q E) s
section
variable {P : Program} {w : World} {K : PySem.W.Frag} {mg : Str → Option Value} {base : Heap} {CX : CXT} {k j : Nat} {f : Addr} {fd : FuncData} {ps : List Str} {sp : Sp}
theorem FnG.of (F : FnOk P w K mg base CX k f fd ps sp) : FnG P w K mg base CX k f fd ps sp := ⟨F.len, fun A outer s H args us vs Q E _ => F.run A outer s H args us vs Q E⟩
end
/-- a def of the module by its name, called where no guard stands -/
structure Cg (P : Program) (w : World) (K : PySem.W.Frag) (mg : Str → Option Value) (base : Heap) (k : Nat) (x : Str) (dd : List D) (R : Rel) : Prop where
  ex : ∃ (f : Addr) (fd : FuncData) (ps : List Str) (ds : List Value) (dvs : List V), FnG P w K mg base (L2.CX P w) k f fd ps (spD K R) ∧ mg x = some (.ref f) ∧ PySem.W.keepIn K (.ref f) = true ∧ Binds K fd ps ds ∧ Vals dvs ds ∧ ∀ F, Reps K F dvs dd
theorem Cg.of {P : Program} {w : World} {K : PySem.W.Frag} {mg : Str → Option Value} {base : Heap} {k : Nat} {x : Str} {dd : List D} {R : Rel} (c : Cf P w K mg base k x dd R) : Cg P w K mg base k x dd R := by
  obtain ⟨f, fd, ps, ds, dvs, Fo, r⟩ := c.ex
  exact ⟨f, fd, ps, ds, dvs, .of Fo, r⟩
end Dl
set_option Elab.async false
set_option linter.all false
set_option maxRecDepth 100000
set_option maxHeartbeats 4000000
set_option autoImplicit false
namespace Dl
open PySem PySem.Spec PyProof.Rows L2
end Dl
set_option Elab.async false
set_option linter.all false
set_option maxRecDepth 100000
set_option maxHeartbeats 4000000
set_option autoImplicit false
namespace Dl
open PySem PySem.Spec PyProof.Rows L2
/-! ## comprehensions of two fors, nothing that stood is changed -/
/-- the list that is built, at D0 -/
structure Sd (N : En) (μ : List M) (D0 : Addr) (acc : List D) (F : Hp) (A : List Addr) (H : Hp) : Prop where
  rc : Rc N F A H μ
  at_ : ∃ vs, H D0 = some (.lst vs) ∧ Reps N.K F vs acc
  f : F D0 = none
  a : D0 ∉ A
section
variable {N : En} {μ : List M} {D0 : Addr} {acc : List D} {F F' : Hp} {A A' : List Addr} {H H' : Hp} {d y : D} {x v : V}
theorem Sd.go (h : Sd N μ D0 acc F A H) (R : Rc ⟨N.K, H, F, A⟩ F' A' H' μ) (e : Same F F') : Sd N μ D0 acc F' A' H' := by
  obtain ⟨vs, h1, h2⟩ := h.at_
  have k4 : H' D0 = some (.lst vs) := R.keep D0 _ h1 h.a
  refine ⟨h.rc.back R, ⟨vs, k4, h2.mono e⟩, ?_, fun hm => ?_⟩
  · cases q : F' D0 with
    | none => rfl
    | some o =>
      rcases R.new D0 o q with ⟨o', z⟩ | z
      · have z' : F D0 = some o' := z
        rw [h.f] at z'; cases z'
      · have z' : H D0 = none := z
        rw [h1] at z'; cases z'
  · obtain ⟨B, eB, hB⟩ := R.pre
    rw [eB] at hm
    rcases List.mem_append.mp hm with z | z
    · exact h.a z
    · have z' : H D0 = none := hB _ z
      rw [h1] at z'; cases z'
theorem Sd.item (h : Sd N μ D0 acc F A H) (it : ItemAt N.K F H x H' d) : ∃ F', Same F F' ∧ Sd N μ D0 acc F' A H' ∧ Rep N.K F' x d := by
  rcases it with ⟨rfl, r⟩ | ⟨T, ws, es, rfl, nT, rfl, rfl, r⟩
  · exact ⟨F, Same.refl _, h, r⟩
  · obtain ⟨vs, h1, h2⟩ := h.at_
    have sm := same_updN (o := .tup ws) (h.rc.fresh nT).2.1
    refine ⟨_, sm, ⟨h.rc.frozen nT _, ⟨vs, ?_, h2.mono sm⟩, ?_, h.a⟩, .tup (SqT.of upd_same) (r.mono sm)⟩
    · rw [upd_ne (ne_of_none h1 nT)]; exact h1
    · rw [upd_ne (ne_of_none h1 nT)]; exact h.f
theorem Sd.snoc (h : Sd N μ D0 acc F A H) (h0 : N.H0 D0 = none) (r : Rep N.K F v y) : ∃ vs, H D0 = some (.lst vs) ∧ vs.length = acc.length ∧ Sd N μ D0 (acc ++ [y]) F A (upd H D0 (.lst (vs ++ [v]))) := by
  obtain ⟨vs, h1, h2⟩ := h.at_
  exact ⟨vs, h1, h2.length, h.rc.poke h.f h.a h0 _, ⟨_, upd_same, h2.snoc r⟩, h.f, h.a⟩
end
section
variable {X : Cx} {N : En} {W : WX} {n : Nat} {δ : List (Option S)} {μ : List M} {elt tg iter tg1 iter1 c : Expr} {pos : Pos} {ds : List D} {scope : Scope} {own : List (Str × Nat)} {vs1 : List Nat} {f f1 : As} {ix ix1 : List Nat}
/-- what is gone over inside -/
def tiB (X : Cx) (K : PySem.W.Frag) (n : Nat) (scope : Scope) (tg1 iter1 : Expr) : TI := fun σ H Rk => ∃ (N' : En) (F : Hp) (A : List Addr) (δt : List (Option S)) (μt : List M) (es : List D), N'.K = K ∧ Rl N' F A H σ δt μt ∧
  (∀ s H C cl fp N', N'.K = K → Go (blkX X scope s H C cl fp) N' W0 n → DI (blkX X scope s H C cl fp) N' W0 δt μt tg1 iter1 es μt) ∧ ∀ J F' A' H', Same F F' → A <+: A' → Rl N' F' A' H' σ δt μt → Yl K J F' es → Rk J H'
theorem pi_tiB (g : Go X N W n) {s : Shared} {H : Hp} {C : Addr} {cl : List (Str × Addr)} {fp : List Addr} : PI (blkX X scope s H C cl fp) tg1 iter1 (tiB X N.K n scope tg1 iter1) :=
  ⟨fun pins s σ H Q I ⟨N', F, A, δt, μt, es, hK, R, hd, k⟩ => (hd _ _ _ _ _ N' hK (g.blk hK)).run pins s σ H Q I ⟨F, A, R, fun J F' A' H' a b c d => k J F' A' H' a b c (by rw [← hK]; exact d)⟩⟩
def flat2 (b : D → Bool) (es : D → List D) (y : D → D → D) (l : List D) : List D := l.flatMap fun d => if b d = true then (es d).map (y d) else []
theorem lc2_go (b : D → Bool) (es : D → List D) (y : D → D → D) (hz : (flat2 b es y ds).length ≤ sizeLine) {J : It} {F1 : Hp} {A1 : List Addr} {H1 : Hp} {σ : L2.St} {tt : TT} {D0 : Addr} {Qd : Hp → Prop} (R1 : Rl N F1 A1 H1 σ δ μ) (yl : Yl N.K J F1 ds) (hD : H1 D0 = none)
    (hix : ∀ i ∈ ix, i ∈ own.map (·.2)) (hix1 : ∀ i ∈ ix1, i ∈ vs1)
    (hf : ∀ d ∈ ds, ∃ δt, f d (wipeD δ (own.map (·.2))) = some δt ∧
      (∀ N' F A σ2 H2 (Q : Bool → Hp → Prop), N'.K = N.K → Rl N' F A H2 σ2 δt μ → (∀ F' A' H', Same F F' → A <+: A' → Rl N' F' A' H' σ2 δt μ → Q (b d) H') → tt σ2 H2 Q) ∧
      (b d = true → (∀ s H C cl fp N', N'.K = N.K → Go (blkX X scope s H C cl fp) N' W0 n → DI (blkX X scope s H C cl fp) N' W0 δt μ tg1 iter1 (es d) μ) ∧
        ∀ e ∈ es d, ∃ δe, f1 e (wipeD δt vs1) = some δe ∧ DEB X N.K n scope elt δe μ (y d e) μ))
    (hq : ∀ F' A' H', Same F1 F' → A1 <+: A' → Sd N μ D0 (flat2 b es y ds) F' A' H' → Qd H') :
    ∃ Wt : Nat → Nat → Hp → Prop, (∃ m, Wt 0 m (upd H1 D0 (.lst []))) ∧ ∀ i m H, Wt i m H →
      (J.stop i H ∧ Qd H) ∨ (J.go i H ∧ ∃ Nx : Hp → Prop, (∀ H', Nx H' → ∃ m', m' < m ∧ Wt (i + 1) m' H') ∧ ∀ x H', J.yld i H x H' → tGd N f ix x (wipe σ (own.map (·.2))) H' fun σ2 H2 => wipe σ2 (own.map (·.2)) = wipe σ (own.map (·.2)) ∧ tt σ2 H2 fun b H3 =>
        if b = true then tiB X N.K n scope tg1 iter1 σ2 H3 fun J1 H4 => ∃ W1 : Nat → Nat → Hp → Prop, (∃ m, W1 0 m H4) ∧ ∀ j k H, W1 j k H →
          (J1.stop j H ∧ Nx H) ∨ (J1.go j H ∧ ∃ Nx1 : Hp → Prop, (∀ H', Nx1 H' → ∃ k', k' < k ∧ W1 (j + 1) k' H') ∧ ∀ x H', J1.yld j H x H' → tGd N f1 ix1 x (wipe σ2 vs1) H' fun σ3 H5 => wipe σ3 vs1 = wipe σ2 vs1 ∧ tYes σ3 H5 fun b H6 =>
            if b = true then teB X N.K n scope elt σ3 H6 fun y H7 => ∃ acc, H7 D0 = some (.lst acc) ∧ acc.length < sizeLine ∧ Nx1 (upd H7 D0 (.lst (acc ++ [y]))) else Nx1 H6)
        else Nx H3) := by
  have h0 := R1.rc.fresh hD
  have wp : ∀ (σ : L2.St) (vs : List Nat), wipe (wipe σ vs) vs = wipe σ vs := fun σ vs => by
    apply List.ext_getElem?
    intro j
    rw [wipe_get, wipe_get]
    by_cases hj : j ∈ vs
    · rw [if_pos hj, if_pos hj]; cases σ[j]? <;> rfl
    · rw [if_neg hj, if_neg hj]
  refine ⟨fun i m H => i ≤ ds.length ∧ m = ds.length - i ∧ ∃ F A acc, Same F1 F ∧ A1 <+: A ∧ Sd N μ D0 acc F A H ∧ acc ++ flat2 b es y (ds.drop i) = flat2 b es y ds,
    ⟨ds.length, Nat.zero_le _, by simp, F1, A1, [], Same.refl _, List.prefix_refl _, ⟨R1.rc.junk hD _, ⟨[], upd_same, .nil⟩, h0.2.1, h0.2.2⟩, by simp⟩, ?_⟩
  rintro i m H ⟨hi, rfl, F, A, acc, e, p, sd, hy⟩
  by_cases hlt : i < ds.length
  · refine .inr ⟨yl.goes i H hlt (e.trans sd.rc.sub), fun H' => ∃ F A acc, Same F1 F ∧ A1 <+: A ∧ Sd N μ D0 acc F A H' ∧ acc ++ flat2 b es y (ds.drop (i + 1)) = flat2 b es y ds,
      fun H' ⟨F, A, acc, a⟩ => ⟨ds.length - (i + 1), by omega, hlt, rfl, F, A, acc, a⟩, fun x H' hyd => ?_⟩
    obtain ⟨d, hd, it⟩ := (yl.mono e).yields i H x H' hlt sd.rc.sub hyd
    obtain ⟨F2, e2, sd2, rx⟩ := sd.item it
    have hdm : d ∈ ds := List.mem_of_getElem? hd
    obtain ⟨δt, hft, hC, hI⟩ := hf d hdm
    rw [List.drop_eq_getElem_cons hlt] at hy
    have hd' : ds[i] = d := by
      rw [List.getElem?_eq_getElem hlt] at hd
      exact Option.some.inj hd
    rw [hd'] at hy
    have hy2 : acc ++ ((if b d = true then (es d).map (y d) else []) ++ flat2 b es y (ds.drop (i + 1))) = flat2 b es y ds := by
      rw [← hy]
      unfold flat2
      rw [List.flatMap_cons]
    have Rw := (R1.to (e.trans e2) p sd2.rc).wiped (own.map (·.2))
    refine ⟨F2, A, _, μ, d, δt, Rw, rx, hft, fun σ2 w2 R3 => ⟨(wipe_sub hix w2).trans (wp _ _), ?_⟩⟩
    have R3' : Rl ⟨N.K, H', F2, A⟩ F2 A H' σ2 δt μ := ⟨R3.rc.entry, R3.len, R3.sl⟩
    refine hC ⟨N.K, H', F2, A⟩ F2 A σ2 H' _ rfl R3' fun F4 A4 H4 e4 p4 R4 => ?_
    have sd4 := sd2.go R4.rc e4
    have s4 : Same F1 F4 := (e.trans e2).trans e4
    have p4' : A1 <+: A4 := p.trans p4
    cases hb : b d with
    | false =>
      rw [hb, if_neg (by decide), List.nil_append] at hy2
      exact iteF ⟨F4, A4, acc, s4, p4', sd4, hy2⟩
    | true =>
      rw [hb, if_pos rfl] at hy2
      obtain ⟨hdi, hel⟩ := hI hb
      have R4' : Rl ⟨N.K, H4, F4, A4⟩ F4 A4 H4 σ2 δt μ := ⟨sd4.rc.entry, R4.len, R4.sl⟩
      refine iteT ⟨⟨N.K, H4, F4, A4⟩, F4, A4, δt, μ, es d, rfl, R4', hdi, fun J1 F5 A5 H5 e5 p5 R5 y5 => ?_⟩
      have sd5 := sd4.go R5.rc e5
      refine ⟨fun j k H => j ≤ (es d).length ∧ k = (es d).length - j ∧ ∃ F A acc, Same F5 F ∧ A5 <+: A ∧ Sd N μ D0 acc F A H ∧ acc ++ (((es d).drop j).map (y d) ++ flat2 b es y (ds.drop (i + 1))) = flat2 b es y ds,
        ⟨(es d).length, Nat.zero_le _, by simp, F5, A5, acc, Same.refl _, List.prefix_refl _, sd5, by rw [List.drop_zero]; exact hy2⟩, ?_⟩
      rintro j k H6 ⟨hj, rfl, F6, A6, acc6, e6, p6, sd6, hy6⟩
      by_cases hlj : j < (es d).length
      · refine .inr ⟨y5.goes j H6 hlj (e6.trans sd6.rc.sub), fun H' => ∃ F A acc, Same F5 F ∧ A5 <+: A ∧ Sd N μ D0 acc F A H' ∧ acc ++ (((es d).drop (j + 1)).map (y d) ++ flat2 b es y (ds.drop (i + 1))) = flat2 b es y ds,
          fun H' ⟨F, A, acc, a⟩ => ⟨(es d).length - (j + 1), by omega, hlj, rfl, F, A, acc, a⟩, fun x7 H7 hyd7 => ?_⟩
        obtain ⟨d7, hd7, it7⟩ := (y5.mono e6).yields j H6 x7 H7 hlj sd6.rc.sub hyd7
        obtain ⟨F7, e7, sd7, rx7⟩ := sd6.item it7
        obtain ⟨δe, hfe, hde⟩ := hel d7 (List.mem_of_getElem? hd7)
        rw [List.drop_eq_getElem_cons hlj] at hy6
        have hd7' : (es d)[j] = d7 := by
          rw [List.getElem?_eq_getElem hlj] at hd7
          exact Option.some.inj hd7
        rw [hd7', List.map_cons, List.cons_append] at hy6
        have R3n : Rl N F2 A H' σ2 δt μ := R3
        have s7 : Same F2 F7 := (e4.trans e5).trans (e6.trans e7)
        have p7 : A <+: A6 := (p4.trans p5).trans p6
        have Rn : Rl N F7 A6 H7 σ2 δt μ := R3n.to s7 p7 sd7.rc
        have Rw7 := Rn.wiped vs1
        refine ⟨F7, A6, _, μ, d7, δe, Rw7, rx7, hfe, fun σ3 w3 R8 => ⟨(wipe_sub hix1 w3).trans (wp _ _), ?_⟩⟩
        have R8' : Rl ⟨N.K, H7, F7, A6⟩ F7 A6 H7 σ3 δe μ := ⟨R8.rc.entry, R8.len, R8.sl⟩
        show teB X N.K n scope elt σ3 H7 _
        refine ⟨⟨N.K, H7, F7, A6⟩, F7, A6, δe, μ, y d d7, μ, rfl, R8', hde, fun v F9 A9 H9 e9 p9 R9 rv => ?_⟩
        have sd9 := sd7.go R9.rc e9
        obtain ⟨ws, hw1, hw2, sd10⟩ := sd9.snoc h0.1 rv
        refine ⟨ws, hw1, ?_, F9, A9, acc6 ++ [y d d7], (e6.trans e7).trans e9, p6.trans p9, sd10, ?_⟩
        · have := congrArg List.length hy6
          rw [List.length_append, List.length_cons] at this
          omega
        · rw [List.append_assoc]
          exact hy6
      · have hj' : j = (es d).length := by omega
        subst hj'
        refine .inl ⟨y5.stops H6 (e6.trans sd6.rc.sub), F6, A6, acc6, (s4.trans e5).trans e6, (p4'.trans p5).trans p6, sd6, ?_⟩
        rw [List.drop_length, List.map_nil, List.nil_append] at hy6
        exact hy6
  · have hi' : i = ds.length := by omega
    subst hi'
    refine .inl ⟨yl.stops H (e.trans sd.rc.sub), ?_⟩
    rw [List.drop_length] at hy
    have hy' : acc = flat2 b es y ds := by rw [← hy]; simp [flat2]
    subst hy'
    exact hq F A H e p sd
/-- [elt for tg in iter for tg1 in iter1] -/
theorem de_lc2 (es : D → List D) (y : D → D → D) (g : Go X N W n) (own : List (Str × Nat)) (vs1 : List Nat) (hi : DI X N W δ μ tg iter ds μ) (hg : ∀ s H C cl fp, DG (blkX X scope s H C cl fp) N tg f ix) (hg1 : ∀ s H C cl fp, DG (blkX X scope s H C cl fp) N tg1 f1 ix1)
    (hf : ∀ d ∈ ds, ∃ δt, f d (wipeD δ (own.map (·.2))) = some δt ∧
      (∀ s H C cl fp N', N'.K = N.K → Go (blkX X scope s H C cl fp) N' W0 n → DI (blkX X scope s H C cl fp) N' W0 δt μ tg1 iter1 (es d) μ) ∧
        ∀ e ∈ es d, ∃ δe, f1 e (wipeD δt vs1) = some δe ∧ DEB X N.K n scope elt δe μ (y d e) μ)
    (hz : (flat2 (fun _ => true) es y ds).length ≤ sizeLine)
    (ok : BlkOk X.N X.env.scope scope own := by exact blkOk_by (by decide +kernel)) (hv : ∀ i ∈ vs1, i ∈ own.map (·.2) := by decide) (hix : ∀ i ∈ ix, i ∈ own.map (·.2) := by decide) (hix1 : ∀ i ∈ ix1, i ∈ vs1 := by decide)
    (hs : ∀ x, foldedSetIterable iter X.env x = pure x := by intro _; rfl) (hs1 : ∀ env x, foldedSetIterable iter1 env x = pure x := by intro _ _; rfl) :
    DE X N W δ μ (.ListComp elt [⟨tg, iter, [], 0⟩, ⟨tg1, iter1, [], 0⟩] scope pos) (.v (.p (.lst (flat2 (fun _ => true) es y ds)))) μ :=
  PE.imp (pe_lc2 (own := own) (vs1 := vs1) g.calm g.nd hi ok hv hg (fun _ _ _ _ _ => pts_nil) (fun s H C cl fp => pi_tiB g) hg1 (fun _ _ _ _ _ => pts_nil) (fun s H C cl fp => pe_teB g) hs hs1) fun σ H Q ⟨F, A, R, k⟩ =>
    ⟨F, A, R, fun J F1 A1 H1 e1 p1 R1 yl D0 hD => lc2_go (fun _ => true) es y hz R1 yl hD hix hix1 (fun d hd => by
      obtain ⟨δt, h1, h2, h3⟩ := hf d hd
      exact ⟨δt, h1, fun N' F A σ2 H2 Q _ R k => k F A H2 (Same.refl _) (List.prefix_refl _) R, fun _ => ⟨h2, h3⟩⟩) fun F' A' H' e p sd => by
        obtain ⟨vs, q1, q2⟩ := sd.at_
        exact lc_frz (W := W) R k D0 F' A' H' vs (e1.trans e) (p1.trans p) sd.rc q1 sd.f sd.a (R1.rc.fresh hD).1 q2⟩
end
end Dl
set_option Elab.async false
set_option linter.all false
set_option maxRecDepth 100000
set_option maxHeartbeats 4000000
set_option autoImplicit false
namespace Dl
open PySem PySem.Spec PyProof.Rows L2
/-! ## len(set(xs)), xs a list of texts -/
end Dl
set_option Elab.async false
set_option linter.all false
set_option maxRecDepth 100000
set_option maxHeartbeats 4000000
set_option autoImplicit false
namespace Dl
open PySem PySem.Spec PyProof.Rows L2
end Dl
set_option Elab.async false
set_option linter.all false
set_option maxRecDepth 100000
set_option maxHeartbeats 4000000
set_option autoImplicit false
namespace Dl
open PySem PySem.Spec PyProof.Rows L2
/-! ## lambdas that are handed to defs, and from these to others -/
/-- from this state on the function at fl may be called -/
def Call0 (P : Program) (w : World) (K : PySem.W.Frag) (mg : Str → Option Value) (base : Heap) (j : Nat) (fl : Addr) (tl : XK → Hp → VK → Prop) (outer : List Env) (s : Shared) (H : Hp) : Prop :=
  ∀ (A : Around) (outer' : List Env) (s1 : Shared) (H1 : Hp) (E : XK) (Q : VK), Room j A → Env0 P w K mg base A outer' s1 H1 → Un (frs outer) [] H H1 s.heap s1.heap → tl E H1 Q →
    PySem.W.FnAt fl s1.heap ∧ codeAny (model P w) A (.call (.ref fl) ⟨[], []⟩) (CR (L2.CX P w) outer' P w H1 s1 Q E) s1
section
variable {X Z : Cx} {pins : List (Addr × Obj)} {σ : L2.St} {H : Hp} {s : Shared}
/-- the lambda's own -/
theorem lam_call0 {f c' : Addr} {pm ctv : Value} {params : Arguments} {body : Expr} {scope : Scope} {k : Nat} {t : XK → TE}
    (I : Inv X pins σ H s) (L : LamX.LamS X.env.scope scope) (at_ : s.heap.get? f = some (lamO X params body scope pm c' ctv)) (hfn : H f = none) (hfr : f ∉ frs X.stack)
    (hbind : bindArgs (PySem.W.kla_fn "<lambda>" (lamQ X) params body scope (cloFrom X.env.cells scope.names []) pm (.ref c') ctv) ⟨[], []⟩ = pure [])
    (hbody : ∀ (E : XK) (A : Around) (outer : List Env) (s : Shared) (H : Hp), Room k (A.deeper (LamX.lamEnv X scope s.heap.objs.size f c')) → PE (LamX.lamCx X A outer s H E scope f c') body (t E)) :
    Call0 X.prog X.w X.K X.mg X.base (k + 1) f (fun E HZ Q => HZ c' = some (LamX.CodeO c' (lamQ X)) ∧ t E σ HZ Q) X.stack s H := by
  intro A outer' s1 H1 E Q hr e0 un ⟨code, want⟩
  have at1 : s1.heap.get? f = some (lamO X params body scope pm c' ctv) := un.keep f _ at_ hfn hfr (by intro z; cases (show f ∈ ([] : List Addr) from z))
  refine ⟨⟨_, _, _, _, at1⟩, ?_⟩
  obtain ⟨⟨oc, vs, tq, oAt, oD, oV⟩, _⟩ := e0.hok c' _ code
  have lim : s1.heap.NoLimit := e0.mod.nolimit.keeps fun b o e => (e0.bs b o e).1
  refine PySem.W.kla_callFunE hr.depth at1 rfl L.co L.gen rfl ⟨c', oc, vs, tq, rfl, oAt, oD, oV⟩ ?_
  rw [hbind]
  refine wpAny_pure (wpAny_newFunctionEnv (fun y hy => (L.own y hy).2) (fun y hy => by cases hy) (fun g1 ns sb => ⟨lim.fresh _ sb, ?_⟩) L.kind)
  have kp : ∀ b o, s1.heap.get? b = some o → g1.get? b = some o := fun b o e => sb.extBut b o (Nat.ne_of_lt (Heap.lt_size e)) (Heap.get?_push_of_some _ e)
  show codeAny _ _ (.expr body (LamX.lamEnv X scope s1.heap.objs.size f c')) _ _
  have J := LamX.lam_start2 (A := A) (outer := outer') (E := E) (f := f) (c' := c') (tk := s1.toks + ([] : List (Str × Value)).length) I L e0 hr.hd un ns kp
  refine PySem.W.kla_codeExpr (wpAny_mono ((hbody E _ _ s1 H1 (hr.deeper _)).run [] _ _ H1 Q J want) (fun v s' ⟨x, H', J', rv, q⟩ => ?_) fun _ _ z => z)
  exact ⟨x, H', J'.os, J'.bare, J'.base, J'.hok, rv, q⟩
/-- it is called there by its name -/
theorem pe_callV {i j : Nat} {fl : Addr} {a : Str} {W : WX} {tl : XK → Hp → VK → Prop} {p1 p2 : Pos} (tk : Takes Z W) (c : Call0 Z.prog Z.w Z.K Z.mg Z.base j fl tl Z.outer Z.s_0 Z.H_0) (hex : Z.ex = []) (hr : Room j Z.A)
    (hN : Z.N[i]? = some a) (hv : Vis Z.env.scope a) (hd : (a == ("__debug__" : Str)) = false := by decide) (hcd : (a == ("__classdict__" : Str)) = false := by decide) :
    PE Z (.Call (.Name a p1) [] [] p2) (fun σ H Q => σ[i]? = some (some (.ref fl)) ∧ tl (WE W σ) H Q) := by
  refine ⟨fun pinsZ sZ σZ HZ Q IZ ⟨slot, want⟩ => wpAny_Call_Name_kw (thn ((pe_var (pos := p1) (i := i) hN hv hd hcd).run pinsZ sZ σZ HZ (fun v H1 => v = .ref fl ∧ H1 = HZ) IZ ⟨.ref fl, slot, rfl, rfl⟩) fun u s1 ⟨v, H1, I1, r1, e1, e2⟩ => ?_)⟩
  subst e1 e2
  obtain rfl : u = Value.ref fl := r1
  have b := I1.base
  rw [hex] at b
  obtain ⟨fa, run⟩ := c Z.A Z.stack s1 H1 (WE W σZ) Q hr I1.env0 b want
  refine PySem.W.callWith_F0 fa ?_
  refine wpAny_call (codeAny_mono run fun r s' hq => ?_)
  cases r with
  | error e => exact passAt tk σZ pinsZ H1 s1 e s' I1 hq
  | ok fl =>
    cases fl with
    | ret u => exact I1.after hq
    | next => exact hq.elim
    | brk => exact hq.elim
    | cont => exact hq.elim
end
/-! ### in terms of data -/
/-- what a call of it does: from which changing things to what, and to which -/
abbrev Lr := List M → Rx → List M → Prop
def EndL (N' : En) (F : Hp) (A : List Addr) (μ' : List M) (E : XK) (Q : VK) : Rx → Prop
  | .v s => ∀ v F' A' H', Same F F' → A <+: A' → Rc N' F' A' H' μ' → RepS N'.K F' A' v s → Q v H'
  | .x C d => ∀ dx v F' A' H', Same F F' → A <+: A' → Rc N' F' A' H' μ' → F' dx = some (.xd [("value", v)]) → Rep N'.K F' v d → E (.ref C) (some dx) H'
def tlD (K : PySem.W.Frag) (F0 : Hp) (A0 : List Addr) (μ : List M) (r : Rx) (μ' : List M) : XK → Hp → VK → Prop := fun E H Q => ∃ (N' : En) (F : Hp) (A : List Addr), N'.K = K ∧ Same F0 F ∧ A0 <+: A ∧ Rc N' F A H μ ∧ EndL N' F A μ' E Q r
theorem EndL.imp {N' : En} {F : Hp} {A : List Addr} {μ' : List M} {E E' : XK} {Q Q' : VK} : ∀ {r : Rx}, EndL N' F A μ' E Q r → (∀ c d h, E c d h → E' c d h) → (∀ v h, Q v h → Q' v h) → EndL N' F A μ' E' Q' r
  | .v _, k, _, h2 => fun v F' A' H' e p R rv => h2 _ _ (k v F' A' H' e p R rv)
  | .x _ _, k, h1, _ => fun dx v F' A' H' e p R a b => h1 _ _ _ (k dx v F' A' H' e p R a b)
theorem tlD_mono {K : PySem.W.Frag} {F0 : Hp} {A0 : List Addr} {μ μ' : List M} {r : Rx} (E E' : XK) (H : Hp) (Q Q' : VK) (h1 : ∀ c d h, E c d h → E' c d h) (h2 : ∀ v h, Q v h → Q' v h) : tlD K F0 A0 μ r μ' E H Q → tlD K F0 A0 μ r μ' E' H Q' :=
  fun ⟨N', F, A, a, b, c, d, k⟩ => ⟨N', F, A, a, b, c, d, k.imp h1 h2⟩
def CallL (P : Program) (w : World) (K : PySem.W.Frag) (mg : Str → Option Value) (base : Heap) (j : Nat) (fl : Addr) (L : Lr) (F0 : Hp) (A0 : List Addr) (outer : List Env) (s : Shared) (H : Hp) : Prop :=
  ∀ μ r μ', L μ r μ' → Call0 P w K mg base j fl (tlD K F0 A0 μ r μ') outer s H
/-- a def whose first parameter is handed a function; where no guard stands, if b -/
structure FnL (P : Program) (w : World) (K : PySem.W.Frag) (mg : Str → Option Value) (base : Heap) (b : Bool) (k j : Nat) (f : Addr) (fd : FuncData) (ps : List Str) (RL : Lr → Rel) : Prop where
  len : ∀ L ss μ r μ', RL L ss μ r μ' → ss.length + 1 = ps.length
  go : ∀ (L : Lr) (A : Around) (outer : List Env) (s : Shared) (H : Hp) (args : Args) (us : List Value) (vs : List V) (Q : VK) (E : XK) (fl : Addr) (F : Hp) (A0 : List Addr) (ss : List S) (μ : List M) (r : Rx) (μ' : List M),
    (b = true → A.guards = some []) → Room k A → Env0 P w K mg base A outer s H → BindsTo s fd args (ps.zip (.ref fl :: us)) → Vals vs us → RL L ss μ r μ' → Rc ⟨K, H, F, A0⟩ F A0 H μ → RepSs K F A0 vs ss → CallL P w K mg base j fl L F A0 outer s H → EndL ⟨K, H, F, A0⟩ F A0 μ' E Q r →
    codeAny (model P w) A (.call (.ref f) args) (CR (L2.CX P w) outer P w H s Q E) s
structure Cl (P : Program) (w : World) (K : PySem.W.Frag) (mg : Str → Option Value) (base : Heap) (b : Bool) (k j : Nat) (x : Str) (RL : Lr → Rel) : Prop where
  ex : ∃ (f : Addr) (fd : FuncData) (ps : List Str), FnL P w K mg base b k j f fd ps RL ∧ mg x = some (.ref f) ∧ PySem.W.keepIn K (.ref f) = true ∧ Binds K fd ps []
section
variable {X Z : Cx} {N : En} {W : WX} {n k j : Nat} {δ : List (Option S)} {μ μ1 μ2 μ' : List M} {e : Expr} {es : List Expr} {ss : List S} {r r0 : Rx} {x a : Str} {p p1 p2 pos : Pos} {b : Bool} {L : Lr} {fl : Addr} {RL : Lr → Rel}
theorem end_of {σ : L2.St} {F : Hp} {A : List Addr} {H : Hp} {Q : VK} (R : Rl N F A H σ δ μ) (k0 : EndE N W σ δ F A μ' Q r) : EndL ⟨N.K, H, F, A⟩ F A μ' (WE W σ) Q r := by
  cases r with
  | v s => exact fun v F' A' H' e p R' rv => k0 v F' A' H' e p (R.to e p (R.rc.back R')) rv
  | x C d => exact fun dx v F' A' H' e p R' h1 h2 => k0 dx v F' A' H' e p (R.to e p (R.rc.back R')) h1 h2
/-- a def that is handed a lambda, and data behind it -/
theorem de_handL {c P : Addr} {jt : Nat} {params : Arguments} {bdy : Expr} {scope : Scope} {lpos : Pos} (g : Go X N W n) (gd : b = true → X.A.guards = some []) (hT : μ[jt]? = some (.tab P (lamQ X))) (TB : LamX.TabB X.base X.mg c P) (hcode : X.env.code = .ref c)
    (cl : Cl X.prog X.w X.K X.mg X.base b k (j + 1) x RL)
    (body : ∀ E A outer s H f c', ∀ N' : En, N'.K = N.K → Go (LamX.lamCx X A outer s H E scope f c') N' (fun cls d _ H => E cls d H) j → ∀ μ3 r3 μ4, L μ3 r3 μ4 → DE (LamX.lamCx X A outer s H E scope f c') N' (fun cls d _ H => E cls d H) δ μ3 bdy r3 μ4)
    (ha : DA X N W δ μ es ss μ1) (hR : RL L ss μ1 r μ2)
    (S : LamX.LamS X.env.scope scope := by exact LamX.lamS_by (by rfl)) (hk : k ≤ n := by decide) (hg : Gl X x := by rfl) (hdef : defaultsOf params X.env = ([], []) := by rfl)
    (hbind : ∀ (q : Str) (cl : List (Str × Addr)) (pm cv ctv : Value), bindArgs (PySem.W.kla_fn "<lambda>" q params bdy scope cl pm cv ctv) ⟨[], []⟩ = pure [] := by intros; rfl)
    (hdb : (x == ("__debug__" : Str)) = false := by decide) (he : starEach (.Lambda params bdy scope lpos :: es) X.env = (false, eval (.Lambda params bdy scope lpos) X.env) :: starEach es X.env := by rfl) (hpl : (backTo pos (starEach es X.env)).any (·.1) = false := by rfl) :
    DE X N W δ μ (.Call (.Name x p) (.Lambda params bdy scope lpos :: es) [] pos) r μ2 := by
  obtain ⟨f, fd, ps, Fo, hm, hkp, hb⟩ := cl.ex
  refine ⟨fun pins s σ H Q I ⟨F, A, R0, q⟩ => ?_⟩
  refine wpAny_Call_Name_kw (ld_glob I hg hm ?_ hdb)
  obtain ⟨aP, hA, e1, pst, tabAt, tri, known⟩ := R0.rc.at' hT
  subst e1
  refine PySem.W.callWith_K (h₀ := X.base) I.ok.mod.kin hkp ?_ he hpl
  rw [he]
  show wpAny _ _ (spliced ((false, eval (.Lambda params bdy scope lpos) X.env) :: backTo pos (starEach es X.env))) _ _ s
  refine Calls.spliced_cons (lam_made I TB hcode tabAt tri (fun p v h => by
    obtain ⟨b, e, hb⟩ := known p v h
    exact ⟨b, e, R0.rc.sub _ _ hb⟩) hdef (S.has I.ok) fun lf c' pm' ctv H1 s1 I1 l1 hf hfn hfr hco => ?_)
  obtain ⟨F1, sm, rc1, hF⟩ := rc_lam R0.rc hA hT tabAt tri known l1
  have R1 : Rl N F1 A H1 σ δ μ := R0.to sm (List.prefix_refl _) rc1
  have hfs : lf ∉ X.fs := fun z => hfr (by
    rcases I1.ok.stk with e | ⟨e, _⟩
    · rw [e]; exact z
    · rw [e]
      show lf ∈ frs (X.env :: X.outer)
      unfold frs
      rw [List.filterMap_cons]
      split
      · exact z
      · exact List.mem_cons_of_mem _ z)
  have hloc : lf ≠ X.env.locals := fun z => by
    obtain ⟨m, ⟨o, es', ep, e, d, _⟩, _⟩ := I1.loc
    rw [← z, hf] at e
    cases e
    cases d
  have Ip : Inv X ((lf, lamO X params bdy scope pm' c' ctv) :: pins) σ H1 s1 := I1.pins_of fun p hp => by
    rcases List.mem_cons.mp hp with rfl | hp
    · exact ⟨hf, hfn, hloc, hfs, fun v z => by cases z⟩
    · exact I1.pin p (List.mem_append_right _ hp)
  refine thn (ha.run pos _ s1 σ H1 (fun vs H' => ∃ F' A', Same F1 F' ∧ A <+: A' ∧ Rl N F' A' H' σ δ μ1 ∧ RepSs N.K F' A' vs ss) Ip ⟨F1, A, R1, fun vs F' A' H' h1 h2 h3 h4 => ⟨F', A', h1, h2, h3, h4⟩⟩) fun us s2 ⟨vs, H2, I2p, r2, F2, A2, e2, p2, R2, rv⟩ => ?_
  have I2 : Inv X pins σ H2 s2 := I2p.pins_of fun p hp => I2p.pin p (List.mem_append_right _ (List.mem_cons_of_mem _ hp))
  obtain ⟨hf2, hfn2, _⟩ := I2p.pin (lf, lamO X params bdy scope pm' c' ctv) (List.mem_append_right _ List.mem_cons_self)
  have hK := g.hK
  have c2 : CallL X.prog X.w X.K X.mg X.base (j + 1) lf L F2 A2 X.stack s2 H2 := fun μ3 r3 μ4 hL A' outer' s3 H3 E' Q' a1 a2 a3 ⟨N', F3, A3, b1, b2, b3, b4, b5⟩ => by
    refine lam_call0 (k := j) (t := fun E σ H Q => ∃ (N' : En) (F : Hp) (A : List Addr), N'.K = N.K ∧ Rl N' F A H σ δ μ3 ∧ EndE N' (fun cls d _ H => E cls d H) σ δ F A μ4 Q r3) I2 S hf2 hfn2 hfr (hbind _ _ _ _ _)
      (fun E A outer s H hr2 => ⟨fun pins s' σ H' Q I ⟨N', F, A', hK', R, kk⟩ => (body E A outer s H lf c' N' hK' ⟨takes_of rfl rfl rfl rfl, rfl, hK'.trans hK, hr2, passes_of rfl, g.nd⟩ μ3 r3 μ4 hL).run pins s' σ H' Q I ⟨F, A', R, kk⟩⟩) A' outer' s3 H3 E' Q' a1 a2 a3 ⟨b4.sub _ _ (b2 _ _ (e2 _ _ hF)), N', F3, A3, b1.trans hK.symm, ?_, ?_⟩
    · refine ⟨b4, R2.len, fun i s hs => ?_⟩
      obtain ⟨v, h1, h2⟩ := R2.sl i s hs
      refine ⟨v, h1, ?_⟩
      rw [b1.trans hK.symm]
      exact h2.mono b2 b3
    · have Rs : Rl N' F3 A3 H3 σ δ μ3 := ⟨b4, R2.len, fun i s hs => by
        obtain ⟨v, h1, h2⟩ := R2.sl i s hs
        refine ⟨v, h1, ?_⟩
        rw [b1.trans hK.symm]
        exact h2.mono b2 b3⟩
      cases r3 with
      | v s => exact fun v F' A' H' e p R' rv => b5 v F' A' H' e p R'.rc rv
      | x C d => exact fun dx v F' A' H' e p R' h1 h2 => b5 dx v F' A' H' e p R'.rc h1 h2
  have hl : (Value.ref lf :: us).length = ps.length := by
    rw [← Fo.len L ss μ1 r μ2 hR, List.length_cons, ← r2.length, rv.length]
  have hb1 := hb s2 (.ref lf :: us) I2.kIn (by rw [List.append_nil]; exact hl)
  rw [List.append_nil] at hb1
  refine ⟨I2.kIn, ?_⟩
  have ke := end_of R2 (q.to (sm.trans e2) p2)
  have rc2 := R2.rc.entry
  rw [hK] at rc2 rv ke
  refine wpAny_call (codeAny_mono (Fo.go L X.A X.stack s2 H2 ⟨.ref lf :: us, []⟩ us vs Q (WE W σ) lf F2 A2 ss μ1 r μ2 gd (g.room.mono hk) I2.env0 hb1 r2 hR rc2 rv c2 ke) fun z s' hq => ?_)
  match z, hq with
  | .error _, hq => exact passAt g.tk σ pins _ _ _ s' I2 hq
  | .ok (.ret _), hq => exact I2.after hq
end
end Dl
set_option Elab.async false
set_option linter.all false
set_option maxRecDepth 100000
set_option maxHeartbeats 4000000
set_option autoImplicit false
namespace Dl
open PySem PySem.Spec PyProof.Rows L2
/-- what a def that hears tells -/
def rHear (K : PySem.W.Frag) (CK : Addr) : Lr → Rel := fun L ss μ r μ' => ss = [] ∧ ∃ r0 res, L μ r0 μ' ∧ HR K CK r0 res ∧ r = .v (.p res)
/-- .. in terms of what its call of the function lets out -/
theorem hear_end {K : PySem.W.Frag} {CK : Addr} {F : Hp} {A : List Addr} {H : Hp} {μ μ' : List M} {r0 : Rx} {res : D} {E : XK} {Q : VK} {t : Addr} (rc : Rc ⟨K, H, F, A⟩ F A H μ) (nt : H t = none) (hr : HR K CK r0 res) (kk : EndL ⟨K, H, F, A⟩ F A μ' E Q (.v (.p res))) :
    tlD K F A μ r0 μ' (fun cls d H' => PySem.W.exmOne K cls (.ref CK) = some true ∧ ∀ a, H' a = none → ∀ p, (upd H' a (KpO cls d a)) p = none → Q (.ref p) (upd (upd H' a (KpO cls d a)) p (.tup [.ref a, .non]))) (upd H t (.tup [.non, .non]))
      (fun v H' => ∀ p, H' p = none → Q (.ref p) (upd H' p (.tup [.non, v]))) := by
  refine ⟨⟨K, H, F, A⟩, F, A, rfl, Same.refl _, List.prefix_refl _, rc.junk nt _, ?_⟩
  cases hr with
  | v d =>
    intro v F' A' H' e p R' rv q nq
    have s2 := same_updN (o := .tup [.non, v]) (R'.fresh nq).2.1
    exact kk (.ref q) _ A' _ (e.trans s2) p (R'.frozen nq _) (.tup (.inl (.inl upd_same)) (.cons .non (.cons (Rep.mono s2 rv) .nil)))
  | @x C d hx =>
    intro dx v F' A' H' e p R' h1 h2
    refine ⟨hx, fun a na q nq => ?_⟩
    have r3 := R'.frozen na (KpO (.ref C) (some dx) a)
    have s3 := same_updN (o := KpO (.ref C) (some dx) a) (R'.fresh na).2.1
    have r4 := r3.frozen nq (.tup [.ref a, .non])
    have s4 := same_updN (o := .tup [.ref a, .non]) (r3.fresh nq).2.1
    exact kk (.ref q) _ A' _ ((e.trans s3).trans s4) p r4 (.tup (.inl (.inl upd_same)) (.cons (.exc (s4 _ _ upd_same) (s4 _ _ (s3 _ _ h1)) (Rep.mono (s3.trans s4) h2)) (.cons .non .nil)))
end Dl
set_option Elab.async false
set_option linter.all false
set_option maxRecDepth 100000
set_option maxHeartbeats 4000000
set_option autoImplicit false
namespace Dl
open PySem PySem.Spec PyProof.Rows L2
/-! ## static methods of own classes, called by the class -/
section
variable {X : Cx} {N : En} {W : WX} {n k : Nat} {δ : List (Option S)} {μ μ1 μ2 μ3 μ' : List M} {e o a b : Expr} {es : List Expr} {ss : List S} {r : Rx} {R : Rel} {C : Addr} {m : Str} {p pos apos : Pos} {d : D}
/-! ## x.split(sep), x.partition(sep) -/
/-! ## one sign so many times -/
theorem fold_rep (c : Nat) : ∀ (k : Nat) (acc : Array Nat), (List.replicate k #[c]).foldl (· ++ ·) acc = acc ++ (List.replicate k c).toArray
  | 0, acc => by simp
  | k + 1, acc => by
    rw [List.replicate_succ, List.foldl_cons, fold_rep c k, Array.append_assoc]
    congr 1
    simp [List.replicate_succ]
theorem op_mulSk {c k : Nat} (h : 2 ≤ k ∧ k ≤ 10000) : OpR X (binaryOp .Mult) (fun x y H Q => x = .str ⟨#[c]⟩ ∧ y = .int (k : Int) ∧ Q (.str (Dl.st (List.replicate k c))) H) := by
  intro pins s σ H x y v u Q I rx ry ⟨e1, e2, q⟩
  subst e1 e2
  obtain ⟨t, rfl⟩ := rx
  obtain ⟨t', rfl⟩ := ry
  have h1 : ¬ (k : Int) < 1 := by omega
  have h2 : ((k : Int) == 1 || (⟨#[c]⟩ : Str).length == 0) = false := by
    have : ((k : Int) == 1) = false := by rw [beq_eq_false_iff_ne]; omega
    rw [this]
    rfl
  refine PySem.P.mul_str (by
      have a : ¬ (k : Int) < -(2 ^ 63 : Int) := by omega
      have b : ¬ (k : Int) ≥ 2 ^ 63 := by omega
      rw [decide_eq_false a, decide_eq_false b]; rfl) (fun _ _ => by
      show ¬ (((1 : Nat) : Int) > (2 ^ 63 - 1) / (k : Int))
      have : (1 : Int) ≤ (2 ^ 63 - 1) / (k : Int) := by
        rw [Int.le_ediv_iff_mul_le (by omega)]
        omega
      omega) (fun _ _ => by
      show Builtin.Str.tooLong ((⟨#[c]⟩ : Str).length * (k : Int).toNat) = false
      have e : (⟨#[c]⟩ : Str).length * (k : Int).toNat = k := by
        show 1 * (k : Int).toNat = k
        omega
      rw [e]
      unfold Builtin.Str.tooLong
      rw [decide_eq_false_iff_not, sizeLine_eq]
      omega) ?_
  rw [if_neg h1, if_neg (by rw [h2]; decide)]
  have e3 : (⟨(List.replicate (k : Int).toNat (⟨#[c]⟩ : Str).cps).foldl (· ++ ·) #[]⟩ : Str) = Dl.st (List.replicate k c) := by
    show (⟨(List.replicate (k : Int).toNat #[c]).foldl (· ++ ·) #[]⟩ : Str) = _
    rw [fold_rep, Int.toNat_natCast]
    simp [Dl.st]
  rw [e3]
  exact ⟨by rw [st_len, List.length_replicate, sizeLine_eq]; omega, .str _, H, I.tok _, ⟨_, rfl⟩, q⟩
theorem o_mulSk {c k : Nat} (h : 2 ≤ k ∧ k ≤ 10000) : OpOk X N W (binaryOp .Mult) μ (.p (.str ⟨#[c]⟩)) (.p (.int (k : Int))) (.v (.p (.str (Dl.st (List.replicate k c))))) μ :=
  ⟨_, op_mulSk h, fun σ δ F A H x y Q R rx ry q => ⟨rs_str rx, rs_int ry, q.here R (.str _)⟩⟩
/-! ## None in a list of ints and None -/
end
end Dl
set_option Elab.async false
set_option linter.all false
set_option maxRecDepth 100000
set_option maxHeartbeats 4000000
set_option autoImplicit false
namespace Dl
open PySem PySem.Spec PyProof.Rows L2
/-! ## what a changing thing has come to be is forgotten; loops whose states are not told; lists put together to a changing one -/
end Dl
set_option Elab.async false
set_option linter.all false
set_option maxRecDepth 100000
set_option maxHeartbeats 4000000
set_option autoImplicit false
namespace Dl
open PySem PySem.Spec PyProof.Rows L2
/-! ## the end, where the law's def is told of as a FnG: at the caller no guard stands -/
/-- what is tracked when the law is called: the tables T, and the script at a unless K knows it -/
noncomputable def hp0 (K : PySem.W.Frag) (T : List Addr) (a : Addr) (o : Obj) (xs : List V) : Hp := fun b =>
  if b ∈ T then some (.tbl #[]) else if b = a ∧ K.lookup a = none then some (.frz o (.lst xs)) else none
section
variable {K : PySem.W.Frag} {T : List Addr} {a b : Addr} {o : Obj} {xs : List V}
theorem hp0_T (h : b ∈ T) : hp0 K T a o xs b = some (.tbl #[]) := if_pos h
theorem hp0_a (h : a ∉ T) (n : K.lookup a = none) : hp0 K T a o xs a = some (.frz o (.lst xs)) := (if_neg h).trans (if_pos ⟨rfl, n⟩)
theorem hp0_cases : (b ∈ T ∧ hp0 K T a o xs b = some (.tbl #[])) ∨ (b ∉ T ∧ b = a ∧ K.lookup a = none ∧ hp0 K T a o xs b = some (.frz o (.lst xs))) ∨ (b ∉ T ∧ (b = a → K.lookup a ≠ none) ∧ hp0 K T a o xs b = none) := by
  by_cases h : b ∈ T
  · exact .inl ⟨h, hp0_T h⟩
  · by_cases h2 : b = a ∧ K.lookup a = none
    · exact .inr (.inl ⟨h, h2.1, h2.2, (if_neg h).trans (if_pos h2)⟩)
    · exact .inr (.inr ⟨h, fun e n => h2 ⟨e, n⟩, (if_neg h).trans (if_neg h2)⟩)
end
theorem law_callG {P : Program} {w : World} {K : PySem.W.Frag} {mg mb : Str → Option Value} {CX : CXT} {k : Nat} {fa a : Addr} {cs : List (Addr × Addr)} {fd : FuncData} {x : Str} {sp : Sp} {s₁ : Shared} {vs : List Value} {ns : List Int}
    (KX : K.In s₁.heap) (hns : s₁.heap.Ns mainGlobals mg) (hb : s₁.heap.Ns builtinsNs mb) (hbb : ∀ x : Str, x ≠ "__name__" → mb x = bootBuiltins x) (hlim : s₁.heap.NoLimit) (hg : s₁.gens = #[])
    (hT : ∀ p ∈ cs, s₁.heap.get? p.2 = some { cls := .none, data := .fields #[] }) (nT : ∀ p ∈ cs, K.lookup p.2 = none) (C : ∀ p ∈ cs, PySem.W.CodeHd s₁.heap p.1 p.2)
    (hbm : ∃ (bm : Addr) (ob : Obj), mg "__builtins__" = some (.ref bm) ∧ bm ≠ builtinsNs ∧ s₁.heap.get? bm = some ob ∧ ob.cls = .type "module" ∧ ob.dict = some builtinsNs ∧ ob.data = .plain)
    (ha : s₁.heap.get? a = some { cls := .type "list", data := .seq vs.toArray }) (hi : IntsAre vs ns) (hl : ns.length ≤ sizeLine) (hr : Room k callerA)
    (F : ∀ base : Heap, K.In base → base.Ns mainGlobals mg → (∀ p ∈ cs, LamX.TabB base mg p.1 p.2) → FnG P w K mg base CX k fa fd [x] sp) (hbind : ∀ (s : Shared) (u : Value), BindsTo s fd ⟨[u], []⟩ [(x, u)])
    (hsp : ∀ H : Hp, (∀ p ∈ cs, H p.2 = some (.tbl #[])) → SqL K H a (ns.map V.int) → sp [.ref a] H (fun v _ => v = .bl true) fun _ _ _ => False)
    (hCX : ∀ H e s', CX [] H s₁ (fun _ _ _ => False) e s' → False) :
    codeAny (model P w) callerA (.call (.ref fa) ⟨[.ref a], []⟩) (fun r s' => r = .ok (.ret (.bool true)) ∧ OldK s₁.heap s'.heap ∧ s'.os = s₁.os ∧ AllBare s'.gens) s₁ := by
  have rv := vals_ints hi
  let ob : Obj := { cls := .type "list", data := .seq vs.toArray }
  let T := cs.map (·.2)
  let H := hp0 K T a ob (ns.map V.int)
  have isT : ∀ {b}, b ∈ T → s₁.heap.get? b = some { cls := .none, data := .fields #[] } ∧ K.lookup b = none := fun hb => by
    obtain ⟨p, hp, rfl⟩ := List.mem_map.mp hb
    exact ⟨hT p hp, nT p hp⟩
  have aT : a ∉ T := fun z => nomatch (congrArg Obj.data (Option.some.inj (ha.symm.trans (isT z).1)) : Data.seq vs.toArray = Data.fields #[])
  -- what K knows, and what is neither a row of values nor an empty table, is not tracked
  have outK : ∀ {b o}, K.lookup b = some o → H b = none := fun {b o} e => by
    rcases hp0_cases (K := K) (T := T) (a := a) (b := b) (o := ob) (xs := ns.map V.int) with ⟨h, _⟩ | ⟨_, rfl, h, _⟩ | ⟨_, _, h⟩
    · rw [(isT h).2] at e; cases e
    · rw [h] at e; cases e
    · exact h
  have outD : ∀ {b o}, s₁.heap.get? b = some o → (∀ vs n, o.data ≠ .seq vs n) → o.data ≠ .fields #[] → H b = none := fun {b o} e h1 h2 => by
    rcases hp0_cases (K := K) (T := T) (a := a) (b := b) (o := ob) (xs := ns.map V.int) with ⟨h, _⟩ | ⟨_, rfl, h, _⟩ | ⟨_, _, h⟩
    · rw [(isT h).1] at e; cases e; exact (h2 rfl).elim
    · rw [ha] at e; cases e; exact (h1 _ _ rfl).elim
    · exact h
  have keepNs : ∀ {b : Addr} {m : Str → Option Value}, s₁.heap.Ns b m → (hidT s₁.heap H).Ns b m := fun ⟨o, es, ep, e, d, r⟩ =>
    ⟨o, es, ep, hidT_get e (outD e (fun _ _ z => nomatch d.symm.trans z) fun z => nomatch d.symm.trans z), d, r⟩
  have hKb : K.In (hidT s₁.heap H) := fun b o e => hidT_get (KX b o e) (outK e)
  have hM : L2.Mod K mg (hidT s₁.heap H) := ⟨hKb, keepNs hns, ⟨mb, keepNs hb, hbb⟩, let ⟨mc, h1, h2⟩ := hlim; ⟨mc, keepNs h1, h2⟩⟩
  have TB : ∀ p ∈ cs, LamX.TabB (hidT s₁.heap H) mg p.1 p.2 := fun p hp => by
    refine ⟨?_, ?_, fun z => ?_⟩
    · obtain ⟨o, us, file, tf, flags, tg, inF, text, tt, e1, r1, r2, r3, r⟩ := C p hp
      refine ⟨o, us, file, tf, flags, tg, inF, text, tt, hidT_get e1 (outD e1 (fun _ _ z => nomatch r2.symm.trans z) fun z => ?_), r1, r2, r3, r⟩
      cases r2.symm.trans z
      simp at r3
    · obtain ⟨bm, o, b1, b2, b3, b4, b5, b6⟩ := hbm
      refine ⟨bm, o, b1, b2, ?_, ?_, hidT_get b3 (outD b3 (fun _ _ z => nomatch b6.symm.trans z) fun z => nomatch b6.symm.trans z), b4, b5, b6⟩
      · rintro rfl
        obtain ⟨o2, es, ep, e, d, _⟩ := hns
        cases b3.symm.trans e
        exact nomatch b6.symm.trans d
      · rintro rfl
        cases b3.symm.trans (hT p hp)
        cases b6
    · obtain ⟨o, es, ep, e, d, _⟩ := hns
      rw [z, hT p hp] at e
      cases e
      cases d
  have hok : HOk P w H s₁.heap := fun b u z => by
    rcases hp0_cases (K := K) (T := T) (a := a) (b := b) (o := ob) (xs := ns.map V.int) with ⟨h, q⟩ | ⟨_, rfl, _, q⟩ | ⟨_, _, q⟩
    · cases q.symm.trans z; exact (isT h).1
    · cases q.symm.trans z; exact ⟨ha, by rw [List.length_map]; exact hl, vs, _, rv, ha⟩
    · cases q.symm.trans z
  have hS : SqL K H a (ns.map V.int) := by
    cases hk : K.lookup a with
    | none => exact .inl (.inr ⟨ob, hp0_a aT hk⟩)
    | some o =>
      cases ha.symm.trans (KX a o hk)
      exact .inr ⟨_, vs.toArray, _, hk, rfl, rfl, rfl, by rw [List.size_toArray, hi.length]; exact hl, by simpa using rv⟩
  have hH : ∀ p ∈ cs, H p.2 = some (.tbl #[]) := fun p hp => hp0_T (List.mem_map.mpr ⟨p, hp, rfl⟩)
  have e0 : Env0 P w K mg (hidT s₁.heap H) callerA [] s₁ H := ⟨rfl, hM, fun b o e => of_hidT e, Nat.le_of_eq (hidT_size _ _), trivial, fun b hb => absurd (show b ∈ ([] : List Addr) from hb) (by simp), hok, .of_eq hg⟩
  refine codeAny_mono ((F _ hKb (keepNs hns) TB).go callerA [] s₁ H ⟨[.ref a], []⟩ [.ref a] [.ref a] _ _ rfl hr e0 (hbind s₁ (.ref a)) (.cons rfl .nil) (hsp H hH hS)) fun r s' h => ?_
  match r, h with
  | .error e, h => exact (hCX H e s' h).elim
  | .ok (.ret u), ⟨v, H', os, bare, un, hok', r', q⟩ =>
    cases (show v = .bl true from q)
    obtain rfl : u = Value.bool true := r'
    have grown : ∀ b ∈ T, ∃ more : Array Value, s'.heap.get? b = some { cls := .none, data := .fields more } := fun b hb => by
      obtain ⟨more, z⟩ := un.tbls b #[] (hp0_T hb)
      exact ⟨_, hok' b _ z⟩
    have kept : ∀ b o, b ∉ T → s₁.heap.get? b = some o → s'.heap.get? b = some o := fun b o nb e => by
      rcases hp0_cases (K := K) (T := T) (a := a) (b := b) (o := ob) (xs := ns.map V.int) with ⟨h, _⟩ | ⟨_, _, _, q⟩ | ⟨_, _, q⟩
      · exact (nb h).elim
      · cases e.symm.trans (hok b _ q).1
        exact (hok' b _ (un.frzs b _ _ q)).1
      · exact un.keep b o e q (fun z => nomatch (show b ∈ ([] : List Addr) from z)) fun z => nomatch z
    refine ⟨rfl, ⟨fun b o e => ?_, fun b o e => ?_⟩, os, bare⟩
    · by_cases hb : b ∈ T
      · obtain ⟨more, hm⟩ := grown b hb
        obtain ⟨p, hp, rfl⟩ := List.mem_map.mp hb
        cases e.symm.trans (hT p hp)
        exact .inr (.inl ⟨((C p hp).tab (hT p hp)).isCodeTable, rfl, #[], more, rfl, by rw [Array.empty_append]; exact hm⟩)
      · exact .inl (kept b o hb e)
    · by_cases hb : b ∈ T
      · obtain ⟨more, hm⟩ := grown b hb
        exact ⟨_, hm⟩
      · exact ⟨o, kept b o hb e⟩
end Dl
set_option Elab.async false
set_option linter.all false
set_option maxRecDepth 100000
set_option maxHeartbeats 4000000
set_option autoImplicit false
namespace Dl
open PySem PySem.Spec PyProof.Rows L2
/-- the law's def and what it promises, at the heap behind the top -/
structure EndG (l : PySem.W.OpenLaw) (w : World) (K : PySem.W.Frag) (k : Nat) (x : Str) (mg : Str → Option Value) (fa : Addr) (h : Heap) (n : Nat) where
  fd : FuncData
  cs : List (Addr × Addr)
  R : Rel
  tab : ∀ p ∈ cs, h.get? p.2 = some { cls := .none, data := .fields #[] } ∧ K.lookup p.2 = none ∧ PySem.W.CodeHd h p.1 p.2
  bind : ∀ (s : Shared) (u : Value), BindsTo s fd ⟨[u], []⟩ [(x, u)]
  holds : ∀ (H : Hp) (a : Addr) (ns : List Int), ns.length ≤ n → (∀ z ∈ ns, Builtin.Int.intBits z ≤ 1048576) → (∀ p ∈ cs, H p.2 = some (.tbl #[])) → SqL K H a (ns.map V.int) → spD K R [.ref a] H (fun v _ => v = .bl true) fun _ _ _ => False
  ok : ∀ base : Heap, K.In base → base.Ns mainGlobals mg → (∀ p ∈ cs, LamX.TabB base mg p.1 p.2) → FnG l.prog w K mg base (L2.CX l.prog w) k fa fd [x] (spD K R)
theorem walk_G {l : PySem.W.OpenLaw} {n k : Nat} {q : Program} {loose : List Str} {XP : (Str → Option Value) → Heap → Prop} {YP : World → Heap → Prop} {d : DefRec} {K : Params → PySem.W.Frag} {x : Str}
    (hn : l.most = some n) (hn2 : n ≤ sizeLine) (hdf : d.params.defaults = []) (hr : Room k callerA) (hY : ∀ (w : World) (h : Heap), YP w h → (K w.params).In h)
    (F : ∀ (w : World) (mg : Str → Option Value) (fa : Addr) (h : Heap), (K w.params).In h → h.Ns mainGlobals mg → mg d.name = some (.ref fa) →
      (∀ (y : Str) (e : DefRec) (c P : Addr), (recsOf q).find? (fun e => e.name == y) = some e → PySem.W.tabIn (K w.params) y = some (c, P) → PySem.W.CodeHd h c P ∧ h.get? P = some (PySem.W.tabObj #[])) → Nonempty (EndG l w (K w.params) k x mg fa h n)) :
    PySem.W.WalkO q loose XP YP l.row.toRowW d [] (fun f vs => PySem.call f vs) := by
  refine Att.attach_callB hn hdf fun w s₀ s₁ mg mb fa o pm cd doc a vs ns G Y ho hd hcd hmg hobj hints hlen hbits hg => ?_
  have inK := hY w _ Y
  obtain ⟨Z⟩ := F w mg fa _ inK G.T.g hmg fun y e c P e1 e2 => PySem.W.tab_of G.T inK e1 e2
  exact law_callG inK G.T.g G.T.b G.T.builtins G.T.nolimit hg (fun p hp => (Z.tab p hp).1) (fun p hp => (Z.tab p hp).2.1) (fun p hp => (Z.tab p hp).2.2) G.T.bmain hobj hints (Nat.le_trans hlen hn2) hr Z.ok Z.bind
    (fun H hH hS => Z.holds H a ns hlen hbits hH hS) fun H e s' h => by obtain ⟨_, _, _, _, _, _, _, _, _, _, _, _, z⟩ := h; exact z
end Dl
set_option Elab.async false
set_option linter.all false
set_option maxRecDepth 100000
set_option maxHeartbeats 4000000
set_option autoImplicit false
namespace Dl
open PySem PySem.Spec PyProof.Rows L2
end Dl
set_option Elab.async false
set_option linter.all false
set_option maxRecDepth 100000
set_option maxHeartbeats 4000000
set_option autoImplicit false
namespace Dl
open PySem PySem.Spec PyProof.Rows L2
/-! ## a, b = e1, e2 with plain names: the pair is never made -/
section
variable {X : Cx} {N : En} {W : WX} {n : Nat} {δ : List (Option S)} {μ μ1 : List M} {a b : Expr} {s1 s2 : S} {x y : Str} {px py pt pos : Pos} {kt k2} {pt2 : Pos}
theorem ds_par (i j : Nat) (g : Go X N W n) (ha : DA X N W δ μ [a, b] [s1, s2] μ1) (hi : X.N[i]? = some x := by rfl) (hj : X.N[j]? = some y := by rfl) (hij : i ≠ j := by decide)
    (hx : X.env.scope.names.lookup x = some .local := by rfl) (hy : X.env.scope.names.lookup y = some .local := by rfl)
    (hw : swappedStores [.Tuple [.Name x px, .Name y py] kt pt] (.Tuple [a, b] k2 pt2) X.env = pure (some [x, y]) := by rfl)
    (hs : swapsWithSole [.Tuple [.Name x px, .Name y py] kt pt] (.Tuple [a, b] k2 pt2) pos.line X.env = pure false := by rfl) :
    DS X N W δ μ (.Assign [.Tuple [.Name x px, .Name y py] kt pt] (.Tuple [a, b] k2 pt2) pos) (.nx ((δ.set i (some s1)).set j (some s2)) μ1) :=
  PS.imp (ps_par (i := i) (j := j) g.calm g.nd hi hj hij hx hy ha hw hs) fun K σ H ⟨F, A, R, k⟩ => ⟨F, A, R, fun vs F1 A1 H1 e1 p1 R1 rv => by
    obtain ⟨v, w, rfl, r1, r2⟩ := two_of rv
    exact ⟨v, w, rfl, k _ F1 A1 H1 e1 p1 ((R1.set r1).set r2)⟩⟩
end
end Dl
set_option Elab.async false
set_option linter.all false
set_option maxRecDepth 100000
set_option maxHeartbeats 4000000
set_option autoImplicit false
namespace Dl
open PySem PySem.Spec PyProof.Rows L2
/-! ## next of a zip whose last pair is still held -/
/-! ## list(zip(..)): what stands between two turns -/
end Dl
set_option Elab.async false
set_option linter.all false
set_option maxRecDepth 100000
set_option maxHeartbeats 4000000
set_option autoImplicit false
namespace Dl
open PySem PySem.Spec PyProof.Rows L2
/-! ## dict(list(zip(ints, text))), d.get(i, c), list(xs) as a list that changes -/
theorem merge_new : ∀ (more acc : List (Key × V)), ((acc ++ more).map (·.1)).Nodup → mergeK acc more = acc ++ more
  | [], acc, _ => by rw [List.append_nil]; rfl
  | p :: more, acc, h => by
    have hp : ¬ ((acc.any fun kv => decide (kv.1 = p.1)) = true) := fun z => by
      obtain ⟨q, hq, e⟩ := List.any_eq_true.mp z
      have e' : q.1 = p.1 := of_decide_eq_true e
      rw [List.map_append, List.map_cons, List.nodup_append] at h
      exact h.2.2 q.1 (List.mem_map.mpr ⟨q, hq, rfl⟩) p.1 List.mem_cons_self e'
    show mergeK (putK acc p.1 p.2) more = _
    unfold putK
    rw [if_neg hp, show (p.1, p.2) = p from rfl, merge_new more (acc ++ [p]) (by rw [List.append_assoc]; exact h), List.append_assoc]
    rfl
def chV (c : Nat) : V := .str ⟨#[c]⟩
def chD (c : Nat) : D := .str ⟨#[c]⟩
def kvZ (ns : List Int) (L : List Nat) : List (Key × V) := (ns.zip L).map fun p => (.inl p.1, chV p.2)
def atZ (ns : List Int) (L : List Nat) (i : Int) : Nat := (((ns.zip L).find? fun p => decide (p.1 = i)).map (·.2)).getD 73
theorem kvZ_at (i : Int) : ∀ {ns : List Int} {L : List Nat}, (valV (kvZ ns L) (Sum.inl i : Key)).getD (chV 73) = chV (atZ ns L i)
  | [], _ => rfl
  | _ :: _, [] => rfl
  | n :: ns, c :: L => by
    by_cases h : n = i
    · subst h
      simp [kvZ, atZ, valV]
    · have ih := kvZ_at i (ns := ns) (L := L)
      have e1 : valV (kvZ (n :: ns) (c :: L)) (Sum.inl i : Key) = valV (kvZ ns L) (Sum.inl i : Key) := by
        show valV ((Sum.inl n, chV c) :: kvZ ns L) _ = _
        exact valV_neg (fun z => h (Sum.inl.inj z))
      have e2 : atZ (n :: ns) (c :: L) i = atZ ns L i := by
        simp [atZ, h]
      rw [e1, e2, ih]
section
variable {X : Cx} {N : En} {W : WX} {n : Nat} {δ : List (Option S)} {μ μ1 μ2 : List M} {e e2 a b o : Expr} {p1 p2 p3 q1 q2 q3 pos apos : Pos} {ns : List Int} {L : List Nat} {i : Int}
theorem kvs_is {K : PySem.W.Frag} {F : Hp} : ∀ {kvs : List (Key × V)} {ns : List Int} {L : List Nat}, kvs.map (·.1) = ns.map Sum.inl → Reps K F (kvs.map (·.2)) (L.map chD) → kvs = kvZ ns L
  | [], [], [], _, _ => rfl
  | [], [], _ :: _, _, r => by cases r
  | [], _ :: _, _, h, _ => by cases h
  | _ :: _, [], _, h, _ => by cases h
  | _ :: _, _ :: _, [], _, r => by cases r
  | p :: kvs, n :: ns, c :: L, h, r => by
    rw [List.map_cons, List.map_cons] at h
    injection h with h1 h2
    cases r with
    | cons r1 r2 =>
      have ih := kvs_is (K := K) (F := F) h2 r2
      obtain ⟨k, v⟩ := p
      cases (show k = Sum.inl n from h1)
      have r1' : Rep K F v (.str ⟨#[c]⟩) := r1
      cases r1'
      rw [ih]
      rfl
theorem de_dget2 {cpos : Pos} (g : Go X N W n) (ho : DE X N W δ μ o (.v (.p (.dic (ns.map Sum.inl) (L.map chD)))) μ) (ha : DE X N W δ μ a (.v (.p (.int i))) μ) (hb : DE X N W δ μ b (.v (.p (.str ⟨#[73]⟩))) μ)
    (m : M2 X o "get" apos a b cpos := by exact ⟨rfl, rfl, rfl, rfl⟩) : DE X N W δ μ (.Call (.Attribute o "get" apos) [a, b] [] cpos) (.v (.p (.str ⟨#[atZ ns L i]⟩))) μ :=
  PE.imp (pe_dget2 (by have := g.room.un; omega) ho ha hb m) fun σ H Q ⟨F, A, R0, k⟩ => ⟨F, A, R0, fun v F1 A1 H1 e1 p1 R1 rv => by
    have rv' : Rep N.K F1 v (.dic (ns.map Sum.inl) (L.map chD)) := rv
    generalize hd : D.dic (ns.map Sum.inl) (L.map chD) = d at rv'
    cases rv' with
    | @dic ad kvs ds h1 h2 =>
      injection hd with q1 q2
      subst q2
      have hk : kvs = kvZ ns L := kvs_is q1.symm h2
      subst hk
      refine ⟨ad, rfl, .inl ⟨_, .inl (R1.rc.sub _ _ h1)⟩, F1, A1, R1, fun y F2 A2 H2 e2 p2 R2 ry => ?_⟩
      cases (show Rep N.K F2 y (.int i) from ry)
      refine ⟨F2, A2, R2, fun z F3 A3 H3 e3 p3 R3 rz => ?_⟩
      cases (show Rep N.K F3 z (.str ⟨#[73]⟩) from rz)
      refine ⟨valV (kvZ ns L) (Sum.inl i : Key), DGet.k (k := Sum.inl i) (R3.rc.sub _ _ (e3 _ _ (e2 _ _ h1))), ?_⟩
      have e := kvZ_at i (ns := ns) (L := L)
      rw [show (V.str ⟨#[73]⟩) = chV 73 from rfl, e]
      exact k _ F3 A3 H3 ((e1.trans e2).trans e3) ((p1.trans p2).trans p3) R3 (.str _)
    | _ => cases hd⟩
theorem c_listM {ds : List D} : CallOk X N W (.type "list") μ [.p (.lst ds)] (.v (.l μ.length)) (μ ++ [.lst ds]) :=
  ⟨_, call_list_of, fun σ δ F A H vs Q R rv k => by
    obtain ⟨v, rfl, h⟩ := one_of rv
    obtain ⟨a, ws, rfl, h1, h2⟩ := rep_lst (show Rep N.K F v (.lst ds) from h)
    refine ⟨a, ws, rfl, .inl (SqL.of (R.rc.sub _ _ h1)), fun p np => ?_⟩
    have pp : A <+: A ++ [p] := List.prefix_append _ _
    refine k (.ref p) _ (A ++ [p]) _ (Same.refl _) pp (R.to (Same.refl _) pp (R.rc.newM np ⟨ws, upd_same, h2⟩)) ⟨p, rfl, ?_⟩
    rw [← R.rc.len]; simp⟩
end
end Dl
set_option Elab.async false
set_option linter.all false
set_option maxRecDepth 100000
set_option maxHeartbeats 4000000
set_option autoImplicit false
namespace Dl
open PySem PySem.Spec PyProof.Rows L2
/-! ## repr of data: None, bools, ints, texts, lists, tuples of them at any depth -/
mutual
def py : D → PyData
  | .bl b => .bool b
  | .int i => .int i
  | .str x => .str x
  | .tup ds => .tuple (pyAll ds)
  | .lst ds => .list (pyAll ds)
  | _ => .none
def pyAll : List D → List PyData
  | [] => []
  | d :: ds => py d :: pyAll ds
end
mutual
def isPy : D → Bool
  | .non | .bl _ | .int _ | .str _ => true
  | .tup ds | .lst ds => arePy ds
  | _ => false
def arePy : List D → Bool
  | [] => true
  | d :: ds => isPy d && arePy ds
end
mutual
theorem rep_dp {K : PySem.W.Frag} {F H : Hp} (e : Same F H) : ∀ {d : D} {v : V}, Rep K F v d → isPy d = true → Dp K H v (py d)
  | _, _, .non, _ => by simpa only [py] using Dp.non
  | _, _, .bl b, _ => by simpa only [py] using Dp.bl b
  | _, _, .int i, _ => by simpa only [py] using Dp.int i
  | _, _, .str x, _ => by simpa only [py] using Dp.str x
  | _, _, .tup h r, p => by
    simp only [isPy] at p
    simpa only [py] using Dp.tup (same_sqT e h) (reps_dp e r p)
  | _, _, .lst h r, p => by
    simp only [isPy] at p
    simpa only [py] using Dp.lst (.inl (.inl (e _ _ h))) (reps_dp e r p)
  | _, _, .ty _, p => by simp [isPy] at p
  | _, _, .adr _, p => by simp [isPy] at p
  | _, _, .dic _ _, p => by simp [isPy] at p
  | _, _, .ins _ _, p => by simp [isPy] at p
  | _, _, .exc _ _ _, p => by simp [isPy] at p
  | _, _, .sc _, p => by simp [isPy] at p
theorem reps_dp {K : PySem.W.Frag} {F H : Hp} (e : Same F H) : ∀ {ds : List D} {vs : List V}, Reps K F vs ds → arePy ds = true → DpAll K H vs (pyAll ds)
  | _, _, .nil, _ => by simpa only [pyAll] using DpAll.nil
  | _, _, .cons r rs, p => by
    simp only [arePy, Bool.and_eq_true] at p
    simpa only [pyAll] using DpAll.cons (rep_dp e r p.1) (reps_dp e rs p.2)
end
end Dl
set_option Elab.async false
set_option linter.all false
set_option maxRecDepth 100000
set_option maxHeartbeats 4000000
set_option autoImplicit false
namespace Dl
open PySem PySem.Spec PyProof.Rows L2
/-! ## repr of a dict, its keys ints and texts, its values None, bools, ints, texts -/
end Dl
set_option Elab.async false
set_option linter.all false
set_option maxRecDepth 100000
set_option maxHeartbeats 4000000
set_option autoImplicit false
namespace Dl
open PySem PySem.Spec PyProof.Rows L2
/-! ## repr of data with dicts of plain values in it, at any depth -/
end Dl
set_option Elab.async false
set_option linter.all false
set_option maxRecDepth 100000
set_option maxHeartbeats 4000000
set_option autoImplicit false
namespace Dl
open PySem PySem.Spec PyProof.Rows L2
end Dl
set_option Elab.async false
set_option linter.all false
set_option maxRecDepth 100000
set_option maxHeartbeats 4000000
set_option autoImplicit false
namespace Dl
open PySem PySem.Spec PyProof.Rows L2
section
variable {X : Cx} {N : En} {W : WX} {n : Nat} {δ : List (Option S)} {μ μ1 μ2 : List M} {elt tg iter : Expr} {ds ys : List D} {scope : Scope} {f : As} {ix : List Nat}
/-- name = [..], a list that changes -/
theorem ds_setLcM (i : Nat) {x : Str} {py pos spos : Pos} (g : Go X N W n) (own : List (Str × Nat)) (hi : DI X N W δ μ tg iter ds μ1) (hg : ∀ s H C cl fp, DG (blkX X scope s H C cl fp) N tg f ix) (hl : CmpL (El0 X N.K n scope elt) f (wipeD δ (own.map (·.2))) ds μ1 ys μ2)
    (hsw : swapsWith (.ListComp elt [⟨tg, iter, [], 0⟩] scope pos) (some (.Name x py)) spos.line X.env = pure true := by exact sw_true rfl rfl rfl (by decide +kernel)) (hy : X.N[i]? = some x := by rfl) (hyl : X.env.scope.names.lookup x = some .local := by rfl)
    (ok : BlkOk X.N X.env.scope scope own := by exact blkOk_by (by decide +kernel)) (hds : ds.length < sizeLine := by first | (show _ < sizeLine; decide) | (simp; decide)) (hix : ∀ i ∈ ix, i ∈ own.map (·.2) := by decide) (hs : ∀ x, foldedSetIterable iter X.env x = pure x := by intro _; rfl) :
    DS X N W δ μ (.Assign [.Name x py] (.ListComp elt [⟨tg, iter, [], 0⟩] scope pos) spos) (.nx (δ.set i (some (.l μ2.length))) (μ2 ++ [.lst ys])) :=
  PS.imp (ps_setLc (own := own) g.calm g.nd hy hyl hsw hi ok hg (fun _ _ _ _ _ => pts_nil) (fun s H C cl fp => pe_teB g) hs) fun K σ H ⟨F, A, R, k⟩ =>
    lc_read g _ hds hix hl (hP0 g) R (lc_mut (W := W) R (show EndE N W σ δ F A (μ2 ++ [.lst ys]) _ (.v (.l μ2.length)) from fun v F' A' H' e p R' rv => k _ F' A' H' e p (R'.set rv)))
/-- a changing list beside data -/
theorem o_eqM (g : Go X N W n) {j : Nat} {ds : List D} {d2 : D} {p1 p2 : PyData} {q : Bool} (hj : μ[j]? = some (.lst ds)) (h1 : PyD (.lst ds) p1) (h2 : PyD d2 p2) (s1 : SeqAt.shaped p1 = true) (s2 : SeqAt.shaped p2 = true) (hq : PyData.eqv p1 p2 = q) : OpOk X N W (compareOp .Eq) μ (.l j) (.p d2) (.v (.p (.bl q))) μ :=
  ⟨_, op_eqD (by have := g.room.un; omega), fun σ δ F A H x y Q R rx ry k => ⟨p1, p2, by
    obtain ⟨a, rfl, ha⟩ := rx
    obtain ⟨ws, h3, h4⟩ := R.rc.mus j a _ ha hj
    rw [← g.hK]
    have hfa := R.rc.fr j a _ ha hj trivial
    have sm : Same F H := R.rc.sub
    have smu : Same (upd F a (.lst ws)) H := fun b o e => by
      by_cases hb : b = a
      · subst hb; rw [upd_same] at e; cases e; exact h3
      · rw [upd_ne hb] at e; exact sm b o e
    exact h1.dp smu (.lst upd_same (h4.mono (same_updN hfa))), by rw [← g.hK]; exact h2.dp R.rc.sub ry, s1, s2, by rw [hq]; exact k.here R (.bl _)⟩⟩
/-- a comprehension whose elements depend on what goes on changing -/
def scanO {T α β : Type} (y : α → T → β) (nx : α → T → T) : List α → T → List β
  | [], _ => []
  | a :: l, t => y a t :: scanO y nx l (nx a t)
def scanT {T α : Type} (nx : α → T → T) : List α → T → T
  | [], t => t
  | a :: l, t => scanT nx l (nx a t)
theorem scanO_map {T α β γ : Type} (q : β → γ) (y : α → T → β) (nx : α → T → T) : ∀ (l : List α) (t : T), scanO (fun a t => q (y a t)) nx l t = (scanO y nx l t).map q
  | [], _ => rfl
  | a :: l, t => by
    show q (y a t) :: scanO (fun a t => q (y a t)) nx l (nx a t) = _
    rw [scanO_map q y nx l]
    rfl
theorem scanO_len {T α β : Type} (y : α → T → β) (nx : α → T → T) : ∀ (l : List α) (t : T), (scanO y nx l t).length = l.length
  | [], _ => rfl
  | a :: l, t => congrArg (· + 1) (scanO_len y nx l (nx a t))
theorem scanO_all {T α β : Type} {y : α → T → β} {nx : α → T → T} {P : β → Prop} (I : T → Prop) (hI : ∀ a t, I t → I (nx a t)) (hP : ∀ a t, I t → P (y a t)) : ∀ (l : List α) (t : T), I t → ∀ b ∈ scanO y nx l t, P b
  | [], _, _, b, h => by cases h
  | a :: l, t, hi, b, h => by
    rcases List.mem_cons.mp h with rfl | h
    · exact hP a t hi
    · exact scanO_all I hI hP l (nx a t) (hI a t hi) b h
theorem of_scan {T α : Type} {K : PySem.W.Frag} {nn : Nat} {gd : α → D} {y : α → T → D} {nx : α → T → T} {mu : T → List M} (I : Nat → T → Prop) : ∀ (l : List α) (t : T), I l.length t →
    (∀ n t a, a ∈ l → I (n + 1) t → I n (nx a t) ∧ ∃ δt, f (gd a) δ = some δt ∧ DEB X K nn scope elt δt (mu t) (y a t) (mu (nx a t))) → CmpL (El0 X K nn scope elt) f δ (l.map gd) (mu t) (scanO y nx l t) (mu (scanT nx l t))
  | [], t, _, _ => .nil
  | a :: l, t, hi, h => by
    obtain ⟨h1, δt, h2, h3⟩ := h l.length t a (by simp) hi
    exact .keep h2 ⟨_, rfl, h3⟩ (of_scan I l (nx a t) h1 fun n t b hb => h n t b (by simp [hb]))
end
end Dl
set_option Elab.async false
set_option linter.all false
set_option maxRecDepth 100000
set_option maxHeartbeats 4000000
set_option autoImplicit false
namespace Dl
open PySem PySem.Spec PyProof.Rows L2
section
variable {X : Cx} {N : En} {W : WX} {n : Nat} {μ : List M}
theorem o_neD (g : Go X N W n) {d1 d2 : D} {p1 p2 : PyData} {q : Bool} (h1 : PyD d1 p1) (h2 : PyD d2 p2) (s1 : SeqAt.shaped p1 = true) (s2 : SeqAt.shaped p2 = true) (hq : (!PyData.eqv p1 p2) = q) : OpOk X N W (compareOp .NotEq) μ (.p d1) (.p d2) (.v (.p (.bl q))) μ :=
  ⟨_, op_neD (by have := g.room.un; omega), fun σ δ F A H x y Q R rx ry k => ⟨p1, p2, by rw [← g.hK]; exact h1.dp R.rc.sub rx, by rw [← g.hK]; exact h2.dp R.rc.sub ry, s1, s2, by rw [hq]; exact k.here R (.bl _)⟩⟩
end
end Dl
set_option Elab.async false
set_option linter.all false
set_option maxRecDepth 100000
set_option maxHeartbeats 4000000
set_option autoImplicit false
namespace Dl
open PySem PySem.Spec PyProof.Rows L2
/-! ## data whose repr is short, from its parts -/
structure RS (k n : Nat) (d : D) : Prop where
  ip : isPy d = true
  sh : (py d).showable = true
  dp : (py d).depth ≤ k
  lv : (py d).leavesShort 20 = true
  wt : (py d).weight ≤ n
structure RSs (k n : Nat) (ds : List D) : Prop where
  ip : arePy ds = true
  sh : PyData.showableAll (pyAll ds) = true
  dp : PyData.depthAll (pyAll ds) ≤ k
  lv : PyData.leavesShortAll 20 (pyAll ds) = true
  wt : PyData.weightAll (pyAll ds) ≤ n
theorem RSs.nil {k n : Nat} : RSs k n [] := ⟨rfl, rfl, Nat.zero_le _, rfl, Nat.zero_le _⟩
theorem RSs.cons {k a b n : Nat} {d : D} {ds : List D} (h : RS k a d) (hs : RSs k b ds) (hn : a + 1 + b ≤ n := by omega) : RSs k n (d :: ds) := by
  refine ⟨?_, ?_, ?_, ?_, ?_⟩
  · simp only [arePy, h.ip, hs.ip]; rfl
  · simp only [pyAll, PyData.showableAll, h.sh, hs.sh]; rfl
  · simp only [pyAll, PyData.depthAll]
    exact Nat.max_le.mpr ⟨h.dp, hs.dp⟩
  · simp only [pyAll, PyData.leavesShortAll, h.lv, hs.lv]; rfl
  · simp only [pyAll, PyData.weightAll]
    have := h.wt
    have := hs.wt
    omega
theorem RSs.map {α : Type} {f : α → D} {k b : Nat} : ∀ {l : List α}, (∀ a ∈ l, RS k b (f a)) → RSs k ((b + 1) * l.length) (l.map f)
  | [], _ => .nil
  | a :: l, h => .cons (h a (by simp)) (RSs.map (l := l) fun x hx => h x (by simp [hx])) (by rw [List.length_cons, Nat.mul_add]; omega)
theorem RSs.mono {k n m : Nat} {ds : List D} (h : RSs k n ds) (q : n ≤ m) : RSs k m ds := ⟨h.ip, h.sh, h.dp, h.lv, Nat.le_trans h.wt q⟩
theorem RS.mono {k j n m : Nat} {d : D} (h : RS k n d) (q : n ≤ m) (p : k ≤ j) : RS j m d := ⟨h.ip, h.sh, Nat.le_trans h.dp p, h.lv, Nat.le_trans h.wt q⟩
theorem RS.tup {k n : Nat} {ds : List D} (h : RSs k n ds) : RS (k + 1) n (.tup ds) := by
  refine ⟨?_, ?_, ?_, ?_, ?_⟩
  · simp only [isPy, h.ip]
  · simp only [py, PyData.showable, h.sh]
  · simp only [py, PyData.depth]
    have := h.dp
    omega
  · simp only [py, PyData.leavesShort, h.lv]
  · simp only [py, PyData.weight]
    exact h.wt
theorem RS.lst {k n : Nat} {ds : List D} (h : RSs k n ds) : RS (k + 1) n (.lst ds) := by
  refine ⟨?_, ?_, ?_, ?_, ?_⟩
  · simp only [isPy, h.ip]
  · simp only [py, PyData.showable, h.sh]
  · simp only [py, PyData.depth]
    have := h.dp
    omega
  · simp only [py, PyData.leavesShort, h.lv]
  · simp only [py, PyData.weight]
    exact h.wt
theorem RS.str {k : Nat} {L : List Nat} (h : ∀ c ∈ L, c < 1000) : RS k L.length (.str (st L)) := by
  refine ⟨rfl, by simp only [py, PyData.showable], by simp only [py, PyData.depth]; omega, ?_, ?_⟩
  · simp only [py, PyData.leavesShort, Dl.st, List.all_eq_true, decide_eq_true_eq]
    intro c hc
    have := h c (by simpa using hc)
    have e : (16 : Nat) ^ 8 = 4294967296 := by decide
    omega
  · simp [py, PyData.weight, Dl.st]
end Dl
set_option Elab.async false
set_option linter.all false
set_option maxRecDepth 100000
set_option maxHeartbeats 4000000
set_option autoImplicit false
namespace Dl
open PySem PySem.Spec PyProof.Rows L2
/-! ## an own error made as a value: X(e) -/
end Dl
set_option Elab.async false
set_option linter.all false
set_option maxRecDepth 100000
set_option maxHeartbeats 4000000
set_option autoImplicit false
namespace Dl
open PySem PySem.Spec PyProof.Rows L2
/-! ## a def with defaults -/
end Dl
set_option Elab.async false
set_option linter.all false
set_option maxRecDepth 100000
set_option maxHeartbeats 4000000
set_option autoImplicit false
namespace Dl
open PySem PySem.Spec PyProof.Rows L2
/-! ## {'I': .., 'X': .., 'Z': .., 'Y': ..}[letter] -/
end Dl
set_option Elab.async false
set_option linter.all false
set_option maxRecDepth 100000
set_option maxHeartbeats 4000000
set_option autoImplicit false
namespace GQB
open PySem PySem.SeqAt GQ
open AutoSeq1 (wpAny_loadPart')
open MeetsSeq MeetsSeq2 MeetsSeq3 SeqRoads2
section
variable {prog : Program} {w : World} {A : Around} {R : Result → Shared → Prop}
theorem tuple_eqB (l b : Addr) (items items2 : Array Value) (n n2 : Nat) (dd dd2 : Option Addr) (sl sl2 : Array (Option Value)) (I : Nat → Shared → Prop) (q : Nat → Bool)
    (turn : ∀ i (h1 : i < items.size) (h2 : i < items2.size) s, I i s → wpAny (model prog w) A.in1 (eqBool items[i] items2[i]) (fun r s' => r = q i ∧ I (i + 1) s') (fun e s' => R (.error e) s') s)
    (stop : ∀ i s, i < items.size → i < items2.size → q i = false → I (i + 1) s → R (.ok (.ret (.bool false))) s)
    (fin : ∀ i s, i = min items.size items2.size → (∀ j, j < i → q j = true) → I i s → R (.ok (.ret (.bool (items.size == items2.size)))) s) {s : Shared} (hl1 : s.heap.get? l = some { cls := .type "tuple", dict := dd, data := .seq items n, slots := sl }) (hb1 : s.heap.get? b = some { cls := .type "tuple", dict := dd2, data := .seq items2 n2, slots := sl2 }) (h : I 0 s) :
    wpAny (model prog w) A.in1 (Builtin.«tuple.__eq__» ⟨[.ref l, .ref b], []⟩) (FinOf prog w A R) (fun e s' => R (.error e) s') s := by
  have f2 := AutoSeq1.sub_tuple_tuple
  have hZ : (items.toList.zip items2.toList).length = min items.size items2.size := by simp
  have h0 := h
  obtain ⟨hp, g, d, tk, os⟩ := s
  wp_walk using wpAny_loadPart' hl1, wpAny_loadPart' hb1, wpAny_forIn_list _ (fun rest b s' => b.1 = none ∧ ∃ i, rest = (items.toList.zip items2.toList).drop i ∧ i ≤ min items.size items2.size ∧ (∀ j, j < i → q j = true) ∧ I i s') _
  case turn =>
    rintro ⟨y, x⟩ rest b s' ⟨hb', i, hz, hi, hall, hI⟩
    have hlt : i < (items.toList.zip items2.toList).length := by
      rcases Nat.lt_or_ge i (items.toList.zip items2.toList).length with h' | h'
      · exact h'
      · rw [List.drop_of_length_le h'] at hz; cases hz
    have h12 : i < min items.size items2.size := hZ ▸ hlt
    have h1 : i < items.size := by omega
    have h2 : i < items2.size := by omega
    rw [List.drop_eq_getElem_cons hlt] at hz
    injection hz with hyx hrest
    have hy : y = items[i] := by have := congrArg Prod.fst hyx; simpa using this
    have hx : x = items2[i] := by have := congrArg Prod.snd hyx; simpa using this
    subst hy hx
    refine wpAny_bind (wpAny_mono (turn i h1 h2 s' hI) (fun r s2 q2 => ?_) fun _ _ x => x)
    obtain ⟨hr, q2⟩ := q2
    subst hr
    cases hq : q i with
    | true =>
      wp_walk
      exact ⟨rfl, i + 1, hrest, h12, (fun j hj => by rcases Nat.lt_succ_iff_lt_or_eq.mp hj with h | rfl; exact hall j h; exact hq), q2⟩
    | false =>
      have hs := stop i s2 h1 h2 hq q2
      wp_walk
      exact hs
  case fin =>
    rintro ⟨b1, b2⟩ s' ⟨hb', i, hz, hi, hall, hI⟩
    simp only at hb'
    subst hb'
    have hge : min items.size items2.size ≤ i := by
      rcases Nat.lt_or_ge i (items.toList.zip items2.toList).length with h' | h'
      · rw [List.drop_eq_getElem_cons h'] at hz; cases hz
      · exact hZ ▸ h'
    have hi' : i = min items.size items2.size := by omega
    have hR := fin i s' hi' hall hI
    wp_walk
    simpa [Builtin.Tuple.tupleCompareSizes] using hR
  case h =>
    exact ⟨rfl, 0, rfl, Nat.zero_le _, (fun j hj => absurd hj (Nat.not_lt_zero j)), h0⟩
theorem tuple_neB (l b : Addr) (items items2 : Array Value) (n n2 : Nat) (dd dd2 : Option Addr) (sl sl2 : Array (Option Value)) (I : Nat → Shared → Prop) (q : Nat → Bool)
    (turn : ∀ i (h1 : i < items.size) (h2 : i < items2.size) s, I i s → wpAny (model prog w) A.in1 (eqBool items[i] items2[i]) (fun r s' => r = q i ∧ I (i + 1) s') (fun e s' => R (.error e) s') s)
    (stop : ∀ i s, i < items.size → i < items2.size → q i = false → I (i + 1) s → R (.ok (.ret (.bool true))) s)
    (fin : ∀ i s, i = min items.size items2.size → (∀ j, j < i → q j = true) → I i s → R (.ok (.ret (.bool (items.size != items2.size)))) s) {s : Shared} (hl1 : s.heap.get? l = some { cls := .type "tuple", dict := dd, data := .seq items n, slots := sl }) (hb1 : s.heap.get? b = some { cls := .type "tuple", dict := dd2, data := .seq items2 n2, slots := sl2 }) (h : I 0 s) :
    wpAny (model prog w) A.in1 (Builtin.«tuple.__ne__» ⟨[.ref l, .ref b], []⟩) (FinOf prog w A R) (fun e s' => R (.error e) s') s := by
  have f2 := AutoSeq1.sub_tuple_tuple
  have hZ : (items.toList.zip items2.toList).length = min items.size items2.size := by simp
  have h0 := h
  obtain ⟨hp, g, d, tk, os⟩ := s
  wp_walk using wpAny_loadPart' hl1, wpAny_loadPart' hb1, wpAny_forIn_list _ (fun rest b s' => b.1 = none ∧ ∃ i, rest = (items.toList.zip items2.toList).drop i ∧ i ≤ min items.size items2.size ∧ (∀ j, j < i → q j = true) ∧ I i s') _
  case turn =>
    rintro ⟨y, x⟩ rest b s' ⟨hb', i, hz, hi, hall, hI⟩
    have hlt : i < (items.toList.zip items2.toList).length := by
      rcases Nat.lt_or_ge i (items.toList.zip items2.toList).length with h' | h'
      · exact h'
      · rw [List.drop_of_length_le h'] at hz; cases hz
    have h12 : i < min items.size items2.size := hZ ▸ hlt
    have h1 : i < items.size := by omega
    have h2 : i < items2.size := by omega
    rw [List.drop_eq_getElem_cons hlt] at hz
    injection hz with hyx hrest
    have hy : y = items[i] := by have := congrArg Prod.fst hyx; simpa using this
    have hx : x = items2[i] := by have := congrArg Prod.snd hyx; simpa using this
    subst hy hx
    refine wpAny_bind (wpAny_mono (turn i h1 h2 s' hI) (fun r s2 q2 => ?_) fun _ _ x => x)
    obtain ⟨hr, q2⟩ := q2
    subst hr
    cases hq : q i with
    | true =>
      wp_walk
      exact ⟨rfl, i + 1, hrest, h12, (fun j hj => by rcases Nat.lt_succ_iff_lt_or_eq.mp hj with h | rfl; exact hall j h; exact hq), q2⟩
    | false =>
      have hs := stop i s2 h1 h2 hq q2
      wp_walk
      exact hs
  case fin =>
    rintro ⟨b1, b2⟩ s' ⟨hb', i, hz, hi, hall, hI⟩
    simp only at hb'
    subst hb'
    have hge : min items.size items2.size ≤ i := by
      rcases Nat.lt_or_ge i (items.toList.zip items2.toList).length with h' | h'
      · rw [List.drop_eq_getElem_cons h'] at hz; cases hz
      · exact hZ ▸ h'
    have hi' : i = min items.size items2.size := by omega
    have hR := fin i s' hi' hall hI
    wp_walk
    simpa [Builtin.Tuple.tupleCompareSizes, bne] using hR
  case h =>
    exact ⟨rfl, 0, rfl, Nat.zero_le _, (fun j hj => absurd hj (Nat.not_lt_zero j)), h0⟩
theorem rc_tupB {l b : Addr} {items items2 : Array Value} {E : Value → Shared → Prop} {Q : Value → Shared → Prop} (hu : A.units < cLine) (I : Nat → Shared → Prop) (q : Nat → Bool) {s : Shared}
    (hl : s.heap.IsTuple l items) (hb : s.heap.IsTuple b items2)
    (turn : ∀ i (h1 : i < items.size) (h2 : i < items2.size) s, I i s → wpAny (model prog w) A.in1 (eqBool items[i] items2[i]) (fun r s' => r = q i ∧ I (i + 1) s') E s)
    (stop : ∀ i s, i < items.size → i < items2.size → q i = false → I (i + 1) s → Q (.bool false) s)
    (fin : ∀ i s, i = min items.size items2.size → (∀ j, j < i → q j = true) → I i s → Q (.bool (items.size == items2.size)) s) (h : I 0 s) : wpAny (model prog w) A (richCompare .Eq (.ref l) (.ref b)) Q E s := by
  obtain ⟨⟨cls, dd, data, sl⟩, ho, hc, n, hd⟩ := id hl
  obtain ⟨⟨cls2, dd2, data2, sl2⟩, ho2, hc2, n2, hd2⟩ := id hb
  simp only at hc hd hc2 hd2
  subst hc hd hc2 hd2
  refine wpAny_richCompare_same_room (op := .Eq) ⟨_, ho, rfl⟩ ⟨_, ho2, rfl⟩ F.slot_tuple_eq (call_here F.slot_tuple_eq ⟨_, ho, rfl⟩ F.entry_tuple_eq (F.args_tuple_eq_2 _ _) ?_) hu
  exact tuple_eqB (R := wants (fun v s' => v ≠ .notImplemented ∧ Q v s') E) l b items items2 n n2 dd dd2 sl sl2 I q turn (fun i s a c d e => ⟨(fun x => nomatch x), stop i s a c d e⟩) (fun i s a c d => ⟨(fun x => nomatch x), fin i s a c d⟩) ho ho2 h
theorem rc_tupN {l b : Addr} {items items2 : Array Value} {E : Value → Shared → Prop} {Q : Value → Shared → Prop} (hu : A.units < cLine) (I : Nat → Shared → Prop) (q : Nat → Bool) {s : Shared}
    (hl : s.heap.IsTuple l items) (hb : s.heap.IsTuple b items2)
    (turn : ∀ i (h1 : i < items.size) (h2 : i < items2.size) s, I i s → wpAny (model prog w) A.in1 (eqBool items[i] items2[i]) (fun r s' => r = q i ∧ I (i + 1) s') E s)
    (stop : ∀ i s, i < items.size → i < items2.size → q i = false → I (i + 1) s → Q (.bool true) s)
    (fin : ∀ i s, i = min items.size items2.size → (∀ j, j < i → q j = true) → I i s → Q (.bool (items.size != items2.size)) s) (h : I 0 s) : wpAny (model prog w) A (richCompare .NotEq (.ref l) (.ref b)) Q E s := by
  obtain ⟨⟨cls, dd, data, sl⟩, ho, hc, n, hd⟩ := id hl
  obtain ⟨⟨cls2, dd2, data2, sl2⟩, ho2, hc2, n2, hd2⟩ := id hb
  simp only at hc hd hc2 hd2
  subst hc hd hc2 hd2
  refine wpAny_richCompare_same_room (op := .NotEq) ⟨_, ho, rfl⟩ ⟨_, ho2, rfl⟩ F.slot_tuple_ne (call_here F.slot_tuple_ne ⟨_, ho, rfl⟩ F.entry_tuple_ne (F.args_tuple_ne_2 _ _) ?_) hu
  exact tuple_neB (R := wants (fun v s' => v ≠ .notImplemented ∧ Q v s') E) l b items items2 n n2 dd dd2 sl sl2 I q turn (fun i s a c d e => ⟨(fun x => nomatch x), stop i s a c d e⟩) (fun i s a c d => ⟨(fun x => nomatch x), fin i s a c d⟩) ho ho2 h
end
end GQB
set_option Elab.async false
set_option linter.all false
set_option maxRecDepth 100000
set_option maxHeartbeats 4000000
set_option autoImplicit false
namespace Dl
open PySem PySem.Spec PyProof.Rows L2
/-! ## == of data that hold own objects -/
theorem Rc.ext {N : En} {F : Hp} {A : List Addr} {H H' : Hp} {μ : List M} (r : Rc N F A H μ) (e : Ext H H') : Rc N F A H' μ where
  sub := r.sub.trans fun a o h => e a o h
  base := r.base
  new := r.new
  keep := fun a o h hA => e _ _ (r.keep a o h hA)
  pre := r.pre
  nd := r.nd
  len := r.len
  mus := fun j a m h1 h2 => by
    obtain ⟨o, ho⟩ := r.there (List.mem_of_getElem? h1)
    exact (r.mus j a m h1 h2).mono (Same.refl _) (List.prefix_refl _) ((e _ _ ho).trans ho.symm)
  fr := r.fr
theorem Rl.ext {N : En} {F : Hp} {A : List Addr} {H H' : Hp} {σ : L2.St} {δ : List (Option S)} {μ : List M} (r : Rl N F A H σ δ μ) (e : Ext H H') : Rl N F A H' σ δ μ := ⟨r.rc.ext e, r.len, r.sl⟩
/-- == inside a builtin, of what stands for d1 and d2, gives b -/
def EB (X : Cx) (n : Nat) (d1 d2 : D) (b : Bool) : Prop :=
  ∀ (A : Around) (pins : List (Addr × Obj)) (s : Shared) (σ : L2.St) (H F : Hp) (x y : V) (u v : Value), Sub X n A → Inv X pins σ H s → Same F H → RelV x u → RelV y v → Rep X.K F x d1 → Rep X.K F y d2 →
    wpAny (model X.prog X.w) A (eqBool u v) (fun r s' => r = b ∧ ∃ H', Inv X pins σ H' s' ∧ Ext H H') X.xe s
inductive FlatD : D → Prop
  | non : FlatD .non
  | bl (b) : FlatD (.bl b)
  | int (i) : FlatD (.int i)
  | str (z) : FlatD (.str z)
def flatB : D → V
  | .bl b => .bl b
  | .int i => .int i
  | .str z => .str z
  | _ => .non
theorem flat_rep {K : PySem.W.Frag} {F : Hp} {x : V} {d : D} (h : FlatD d) (r : Rep K F x d) : x = flatB d ∧ flatV x = true := by
  cases h <;> cases r <;> exact ⟨rfl, rfl⟩
section
variable {X : Cx} {N : En} {W : WX} {n : Nat} {δ δ' δ1 δ2 : List (Option S)} {μ μ' μ1 μ2 μ3 : List M} {e a b c o : Expr} {pos p apos : Pos} {d : D} {s s1 s2 : S} {r : Rx} {R : Rel} {k : Nat} {C : Addr}
theorem EB.mono {m : Nat} {d1 d2 : D} {b : Bool} (h : EB X n d1 d2 b) (hn : n ≤ m) : EB X m d1 d2 b := fun A pins s σ H F x y u v sb => h A pins s σ H F x y u v (sb.mono hn)
theorem eb_flat {d1 d2 : D} {b : Bool} (h1 : FlatD d1) (h2 : FlatD d2) (hb : eqV (flatB d1) (flatB d2) = b) : EB X 0 d1 d2 b := by
  intro A pins s σ H F x y u v sb I sm rx ry r1 r2
  obtain ⟨e1, f1⟩ := flat_rep h1 r1
  obtain ⟨e2, f2⟩ := flat_rep h2 r2
  have q := eqAt_V (A := A) (s := s) rx ry f1 f2
  rw [e1, e2, hb] at q
  exact q X.prog X.w X.xe _ ⟨rfl, H, I, Ext.rfl'⟩
/-- own objects, by the class's own == -/
theorem eb_ins {ns ms : List Str} {ds es : List D} {q : Bool} (g : Go X N W n) (cm : Cm X.prog X.w X.K X.mg X.base k C "__eq__" [] R) (hR : R [.p (.ins C ns ds), .p (.ins C ms es)] [] (.v (.p (.bl q))) [])
    (same : ∀ F x, Rep X.K F x (.ins C ns ds) → Rep X.K F x (.ins C ms es) → q = true) : EB X k (.ins C ns ds) (.ins C ms es) q := by
  intro A pins s σ H F x y u v sb I sm rx ry r1 r2
  obtain ⟨f, fd, ps, dl, dvs, Fo, hme, hbi, hd, rd⟩ := cm.ex
  obtain ⟨a1, dx1, fs1, rfl, g1, g2, g3⟩ := rep_ins r1
  obtain ⟨a2, dx2, fs2, rfl, k1, k2, k3⟩ := rep_ins r2
  cases rx
  cases ry
  by_cases hab : a1 = a2
  · subst hab
    rw [same F _ r1 r2]
    exact SeqAt.EqAt.same (A := A) (s := s) (.ref a1) X.prog X.w X.xe _ ⟨rfl, H, I, Ext.rfl'⟩
  · obtain ⟨mA, J, _⟩ := ins_get I.hok (sm _ _ g1)
    obtain ⟨mB, J', _⟩ := ins_get I.hok (sm _ _ k1)
    obtain ⟨od, J, _⟩ := J.look
    obtain ⟨od', J', _⟩ := J'.look
    obtain ⟨m, hF⟩ := I.fr
    refine GQ.eqBool_refG hab (PySem.W.cmp_K (op := .Eq) (tb := .ref C) sb.room.units0 hF I.ok.mod.kin J J'.type (by simp [PySem.W.notFirst]) hme.at_ hme.fn ?_)
    have hsp : spD X.K R [.ref a1, .ref a2] H (fun v H' => v = .bl q ∧ Ext H H') (fun _ _ _ => False) := by
      refine ⟨F, [], [.p (.ins C ns ds), .p (.ins C ms es)], [], .v (.p (.bl q)), [], hR, ⟨sm, Same.refl _, fun a o h => .inl ⟨o, h⟩, fun _ _ h _ => h, ⟨[], rfl, fun _ h => by cases h⟩, List.nodup_nil, rfl, fun j a m h => by simp at h, fun j a m h => by simp at h⟩, .cons r1 (.cons r2 .nil), fun v F' A' H' rc rv => ?_⟩
      have rv' : Rep X.K F' v (.bl q) := rv
      cases rv'
      exact ⟨rfl, fun a o h => rc.keep a o h (by simp)⟩
    have e0 : Env0 X.prog X.w X.K X.mg X.base A X.stack s H := by
      have e := I.env0
      exact ⟨by rw [sb.fr]; exact e.frames, e.mod, e.bs, e.bsz, e.funs, e.frf, e.hok, e.bare⟩
    have hdn : dl = [] := by
      have h0 := rd F
      cases h0
      cases hd
      rfl
    subst hdn
    have hl := Fo.len _ _ _ _ hsp
    refine wpAny_call (codeAny_mono (Fo.run A X.stack s H ⟨[.ref a1, .ref a2], []⟩ [.ref a1, .ref a2] [.ref a1, .ref a2] _ _ sb.room e0 (by
      have := hbi s [.ref a1, .ref a2] I.kIn (by simpa using hl)
      simpa using this) (.cons rfl (.cons rfl .nil)) hsp) fun r s' hq => ?_)
    cases r with
    | error e =>
      have hx : Passes (L2.CX X.prog X.w) X (fun _ _ _ => False) := fun _ _ _ _ _ _ _ c => by
        obtain ⟨_, _, _, _, _, _, _, _, _, _, _, _, z⟩ := c
        exact z.elim
      exact hx pins σ H s e s' I hq
    | ok fl =>
      cases fl with
      | ret w =>
        obtain ⟨z, H', I', rz, ez, ex⟩ := I.after hq
        subst ez
        cases rz
        exact ⟨q, rfl, rfl, H', I', ex⟩
      | next => exact False.elim hq
      | brk => exact False.elim hq
      | cont => exact False.elim hq
def eqL (qf : D → D → Bool) : List D → List D → Bool
  | [], [] => true
  | a :: l, b :: m => qf a b && eqL qf l m
  | _, _ => false
theorem eqL_no {qf : D → D → Bool} : ∀ {l m : List D} {i : Nat} {a b : D}, l[i]? = some a → m[i]? = some b → qf a b = false → eqL qf l m = false
  | a :: l, b :: m, 0, _, _, h1, h2, h => by
    simp at h1 h2
    subst h1 h2
    unfold eqL
    rw [h]
    rfl
  | a :: l, b :: m, i + 1, _, _, h1, h2, h => by
    unfold eqL
    rw [eqL_no (l := l) (m := m) (i := i) (by simpa using h1) (by simpa using h2) h, Bool.and_false]
  | [], _, _, _, _, h1, _, _ => by simp at h1
  | _ :: _, [], _, _, _, _, h2, _ => by simp at h2
theorem eqL_yes {qf : D → D → Bool} : ∀ {l m : List D}, (∀ (i : Nat) (a b : D), l[i]? = some a → m[i]? = some b → qf a b = true) → eqL qf l m = (l.length == m.length)
  | [], [], _ => rfl
  | [], _ :: _, _ => rfl
  | _ :: _, [], _ => rfl
  | a :: l, b :: m, h => by
    unfold eqL
    rw [h 0 a b rfl rfl, eqL_yes (l := l) (m := m) fun i x y h1 h2 => h (i + 1) x y (by simpa using h1) (by simpa using h2)]
    simp
theorem tup_turn {ds es : List D} {qf : D → D → Bool} (hE : ∀ (i : Nat) (a b : D), ds[i]? = some a → es[i]? = some b → EB X n a b (qf a b)) {A : Around} (sb : Sub X (n + 1) A) {pins : List (Addr × Obj)} {σ : L2.St} {H F : Hp} (sm : Same F H) {xs ys : List V} {its its2 : List Value} (r1 : Reps X.K F xs ds) (r2 : Reps X.K F ys es) (r : Vals xs its) (q : Vals ys its2)
    (i : Nat) (h1 : i < its.toArray.size) (h2 : i < its2.toArray.size) (s' : Shared) (l : LoopI X pins σ H s') :
    wpAny (model X.prog X.w) A.in1 (eqBool its.toArray[i] its2.toArray[i]) (fun r s2 => r = qf (ds.getD i .non) (es.getD i .non) ∧ LoopI X pins σ H s2) X.xe s' := by
  obtain ⟨H1, I1, e1⟩ := l
  have g1 : its[i]? = some its.toArray[i] := by
    have h1' : i < its.length := by simpa using h1
    rw [List.getElem?_eq_getElem h1'] <;> simp
  have g2 : its2[i]? = some its2.toArray[i] := by
    have h2' : i < its2.length := by simpa using h2
    rw [List.getElem?_eq_getElem h2'] <;> simp
  have k1 : i < xs.length := by rw [r.length]; simpa using h1
  have k2 : i < ys.length := by rw [q.length]; simpa using h2
  obtain ⟨u, hu, ru⟩ := r.get (List.getElem?_eq_getElem k1)
  obtain ⟨v, hv, rv⟩ := q.get (List.getElem?_eq_getElem k2)
  rw [g1] at hu
  rw [g2] at hv
  obtain ⟨a, ha, ra⟩ := r1.get' (List.getElem?_eq_getElem k1)
  obtain ⟨b, hb, rb⟩ := r2.get' (List.getElem?_eq_getElem k2)
  rw [Option.some.inj hu, Option.some.inj hv, List.getD_eq_getElem?_getD, List.getD_eq_getElem?_getD, ha, hb]
  refine wpAny_mono (hE i a b ha hb A.in1 pins s' σ H1 F _ _ u v sb.in1 I1 (sm.trans fun a o h => e1 a o h) ru rv ra rb) (fun r s2 q => ?_) fun _ _ x => x
  obtain ⟨hr, H2, I2, e2⟩ := q
  exact ⟨hr, H2, I2, e1.trans e2⟩
def rTup (K : PySem.W.Frag) (ds es : List D) (b : Bool) : R2 := fun x y H Q => ∃ F, Same F H ∧ Rep K F x (.tup ds) ∧ Rep K F y (.tup es) ∧ ∀ H', Ext H H' → Q (.bl b) H'
theorem op_tupEq {ds es : List D} {qf : D → D → Bool} (hE : ∀ (i : Nat) (a b : D), ds[i]? = some a → es[i]? = some b → EB X n a b (qf a b)) (hr : Room (n + 1) X.A) : OpR X (compareOp .Eq) (rTup X.K ds es (eqL qf ds es)) := by
  intro pins s σ H x y v u Q I rx ry ⟨F, sm, r1, r2, hq⟩
  obtain ⟨a, xs, rfl, h1, h2⟩ := rep_tup r1
  obtain ⟨b, ys, rfl, k1, k2⟩ := rep_tup r2
  cases rx
  cases ry
  obtain ⟨its, r, e, z⟩ := I.tuple (same_sqT sm h1)
  obtain ⟨its2, r2, e2, z2⟩ := I.tuple (same_sqT sm k1)
  have sb : Sub X (n + 1) X.A := ⟨hr, rfl⟩
  have l1 : its.toArray.size = ds.length := by rw [List.size_toArray, ← r.length, h2.length]
  have l2 : its2.toArray.size = es.length := by rw [List.size_toArray, ← r2.length, k2.length]
  show wpAny (model X.prog X.w) X.A (richCompare .Eq (.ref a) (.ref b)) (EP X pins σ Q) X.xe s
  refine GQB.rc_tupB sb.room.units0 (fun _ s' => LoopI X pins σ H s') (fun i => qf (ds.getD i .non) (es.getD i .non)) e e2 (fun i g1 g2 s' q => tup_turn hE sb sm h2 k2 r r2 i g1 g2 s' q) (fun i s' g1 g2 hf q => ?_) (fun i s' hi hall q => ?_) ⟨H, I, Ext.rfl'⟩
  · obtain ⟨H', I', ex⟩ := q
    rw [l1] at g1
    rw [l2] at g2
    have hb : eqL qf ds es = false := by
      refine eqL_no (i := i) (List.getElem?_eq_getElem g1) (List.getElem?_eq_getElem g2) ?_
      simpa [List.getD_eq_getElem?_getD, List.getElem?_eq_getElem g1, List.getElem?_eq_getElem g2] using hf
    rw [hb] at hq
    exact ⟨.bl false, H', I', rfl, hq H' ex⟩
  · obtain ⟨H', I', ex⟩ := q
    have hb : eqL qf ds es = (ds.length == es.length) := by
      refine eqL_yes fun j x y hx hy => ?_
      have j1 := (List.getElem?_eq_some_iff.mp hx).1
      have j2 := (List.getElem?_eq_some_iff.mp hy).1
      have := hall j (by rw [hi, l1, l2]; omega)
      simpa [List.getD_eq_getElem?_getD, hx, hy] using this
    rw [hb] at hq
    rw [l1, l2]
    exact ⟨.bl _, H', I', rfl, hq H' ex⟩
theorem op_tupNe {ds es : List D} {qf : D → D → Bool} (hE : ∀ (i : Nat) (a b : D), ds[i]? = some a → es[i]? = some b → EB X n a b (qf a b)) (hr : Room (n + 1) X.A) : OpR X (compareOp .NotEq) (rTup X.K ds es (!eqL qf ds es)) := by
  intro pins s σ H x y v u Q I rx ry ⟨F, sm, r1, r2, hq⟩
  obtain ⟨a, xs, rfl, h1, h2⟩ := rep_tup r1
  obtain ⟨b, ys, rfl, k1, k2⟩ := rep_tup r2
  cases rx
  cases ry
  obtain ⟨its, r, e, z⟩ := I.tuple (same_sqT sm h1)
  obtain ⟨its2, r2, e2, z2⟩ := I.tuple (same_sqT sm k1)
  have sb : Sub X (n + 1) X.A := ⟨hr, rfl⟩
  have l1 : its.toArray.size = ds.length := by rw [List.size_toArray, ← r.length, h2.length]
  have l2 : its2.toArray.size = es.length := by rw [List.size_toArray, ← r2.length, k2.length]
  show wpAny (model X.prog X.w) X.A (richCompare .NotEq (.ref a) (.ref b)) (EP X pins σ Q) X.xe s
  refine GQB.rc_tupN sb.room.units0 (fun _ s' => LoopI X pins σ H s') (fun i => qf (ds.getD i .non) (es.getD i .non)) e e2 (fun i g1 g2 s' q => tup_turn hE sb sm h2 k2 r r2 i g1 g2 s' q) (fun i s' g1 g2 hf q => ?_) (fun i s' hi hall q => ?_) ⟨H, I, Ext.rfl'⟩
  · obtain ⟨H', I', ex⟩ := q
    rw [l1] at g1
    rw [l2] at g2
    have hb : eqL qf ds es = false := by
      refine eqL_no (i := i) (List.getElem?_eq_getElem g1) (List.getElem?_eq_getElem g2) ?_
      simpa [List.getD_eq_getElem?_getD, List.getElem?_eq_getElem g1, List.getElem?_eq_getElem g2] using hf
    rw [hb] at hq
    exact ⟨.bl true, H', I', rfl, hq H' ex⟩
  · obtain ⟨H', I', ex⟩ := q
    have hb : eqL qf ds es = (ds.length == es.length) := by
      refine eqL_yes fun j x y hx hy => ?_
      have j1 := (List.getElem?_eq_some_iff.mp hx).1
      have j2 := (List.getElem?_eq_some_iff.mp hy).1
      have := hall j (by rw [hi, l1, l2]; omega)
      simpa [List.getD_eq_getElem?_getD, hx, hy] using this
    rw [hb] at hq
    rw [l1, l2]
    exact ⟨.bl _, H', I', rfl, hq H' ex⟩
theorem o_tupEq {ds es : List D} {qf : D → D → Bool} (g : Go X N W n) {m : Nat} (hE : ∀ (i : Nat) (a b : D), ds[i]? = some a → es[i]? = some b → EB X m a b (qf a b)) (hm : m + 1 ≤ n := by decide) : OpOk X N W (compareOp .Eq) μ (.p (.tup ds)) (.p (.tup es)) (.v (.p (.bl (eqL qf ds es)))) μ :=
  ⟨_, op_tupEq hE (g.room.mono hm), fun σ δ F A H x y Q R rx ry k => ⟨F, R.rc.sub, by rw [← g.hK]; exact rx, by rw [← g.hK]; exact ry, fun H' e => k (.bl _) F A H' (Same.refl _) (List.prefix_refl _) (R.ext e) (.bl _)⟩⟩
theorem o_tupNe {ds es : List D} {qf : D → D → Bool} (g : Go X N W n) {m : Nat} (hE : ∀ (i : Nat) (a b : D), ds[i]? = some a → es[i]? = some b → EB X m a b (qf a b)) (hm : m + 1 ≤ n := by decide) : OpOk X N W (compareOp .NotEq) μ (.p (.tup ds)) (.p (.tup es)) (.v (.p (.bl (!eqL qf ds es)))) μ :=
  ⟨_, op_tupNe hE (g.room.mono hm), fun σ δ F A H x y Q R rx ry k => ⟨F, R.rc.sub, by rw [← g.hK]; exact rx, by rw [← g.hK]; exact ry, fun H' e => k (.bl _) F A H' (Same.refl _) (List.prefix_refl _) (R.ext e) (.bl _)⟩⟩
end
end Dl
set_option Elab.async false
set_option linter.all false
set_option maxRecDepth 100000
set_option maxHeartbeats 4000000
set_option autoImplicit false
namespace K62
open PySem PySem.Spec PyProof.Rows L2 Dl Cq
def top (i : Nat) : Stmt := PySem.Challenge.pw_looseknobs_k62_starts_as_they_are_told.main.body.getD i (.Pass ⟨0, 0, 0, 0⟩)
abbrev sErr : Stmt := inClass (top 2) 0
abbrev sInit : Stmt := inClass (top 12) 0
abbrev sLen : Stmt := inClass (top 12) 2
abbrev sEq : Stmt := inClass (top 12) 3
abbrev sMul : Stmt := inClass (top 12) 5
abbrev sPasses : Stmt := inClass (top 12) 7
abbrev sBeside : Stmt := inClass (top 12) 8
abbrev sNeed : Stmt := top 13
abbrev sAre : Stmt := top 15
abbrev sSigned : Stmt := top 16
abbrev sQuarters : Stmt := top 17
abbrev sMade : Stmt := top 18
abbrev sLetter : Stmt := top 19
abbrev sIsWordOf : Stmt := top 14
abbrev sSInit : Stmt := inClass (top 21) 0
abbrev sSEq : Stmt := inClass (top 21) 1
abbrev sSignOf : Stmt := inClass (top 21) 2
abbrev sLike : Stmt := inClass (top 21) 3
abbrev sAreWords : Stmt := top 22
abbrev sProducts : Stmt := top 23
abbrev sPot : Stmt := top 25
abbrev sTake : Stmt := top 26
abbrev sOf : Stmt := top 33
abbrev sSome : Stmt := top 32
abbrev sCells : Stmt := top 34
abbrev sHeard : Stmt := top 35
abbrev sOdd : Stmt := top 36
abbrev sWText : Stmt := top 37
abbrev sLQuarters : Stmt := top 38
abbrev sDoPass : Stmt := top 39
abbrev sLMade : Stmt := top 40
abbrev sProduct : Stmt := top 41
abbrev sLLone : Stmt := top 42
abbrev sDWord : Stmt := top 43
abbrev sGate : Stmt := top 44
abbrev sQuartersOf : Stmt := top 45
abbrev sLedFixed : Stmt := top 46
abbrev sAllLetters : Stmt := top 31
abbrev sMadeWords : Stmt := top 29
abbrev sFarWord : Stmt := top 30
abbrev sGroup : Stmt := top 27
abbrev sStartWords : Stmt := top 28
abbrev sOtherWords : Stmt := top 47
abbrev sValuesRight : Stmt := top 48
abbrev sRight : Stmt := top 49
abbrev sLaw : Stmt := top 50
structure TM (mg : Str → Option Value) : Prop where
  len : mg "len" = none
  int : mg "int" = none
  abs : mg "abs" = none
  max : mg "max" = none
  min : mg "min" = none
  range : mg "range" = none
  list : mg "list" = none
  all : mg "all" = none
  any : mg "any" = none
  isinstance : mg "isinstance" = none
  str : mg "str" = none
  tuple : mg "tuple" = none
  enum : mg "enumerate" = none
  zip : mg "zip" = none
  set : mg "set" = none
  repr : mg "repr" = none
  sum : mg "sum" = none
  bool : mg "bool" = none
def bodyOf (s : Stmt) (i : Nat) : List Stmt := match (defBody s).getD i (.Pass ⟨0, 0, 0, 0⟩) with
  | .For _ _ b _ _ => b
  | _ => []
def ifC : Stmt → Expr
  | .If c _ _ _ => c
  | _ => .Constant .none 0 ⟨0, 0, 0, 0⟩
theorem sgn_sgL (L : List Nat) (s : Int) : sgn L s = st (sgL L s) := by
  unfold sgn sgL
  rfl
theorem end_at {μ : List M} {a : M} {k : Nat} (h : μ.length = k) : (μ ++ [a])[k]? = some a := by
  subst h
  rw [List.getElem?_append_right (Nat.le_refl _), Nat.sub_self]
  rfl
theorem end_set {μ : List M} {a b : M} {k : Nat} (h : μ.length = k) : (μ ++ [a]).set k b = μ ++ [b] := by
  subst h
  rw [List.set_append_right _ _ (Nat.le_refl _)]
  simp
theorem sz {n : Nat} (h : n ≤ 100000) : n ≤ sizeLine := by rw [sizeLine_eq]; omega
theorem sz' {n : Nat} (h : n ≤ 100000) : n < sizeLine := by rw [sizeLine_eq]; omega
end K62
set_option Elab.async false
set_option linter.all false
set_option maxRecDepth 100000
set_option maxHeartbeats 4000000
set_option autoImplicit false
namespace K62
open PySem PySem.Spec PyProof.Rows L2 Dl Cq
def rAre : Rel := fun ss μ r μ' => ∃ L, okL L ∧ ss = [.p (.str (st L))] ∧ r = .v (.p (.bl true)) ∧ μ' = μ
def rSigned : Rel := fun ss μ r μ' => ∃ (L : List Nat) (s : Int), L.length ≤ 4 ∧ ss = [.p (.str (st L)), .p (.int s)] ∧ r = .v (.p (.str (sgn L s))) ∧ μ' = μ
def rQuarters : Rel := fun ss μ r μ' => ∃ (A B : List Nat), okL A ∧ okL B ∧ A.length = B.length ∧ ss = [.p (.str (st A)), .p (.str (st B))] ∧ r = .v (.p (.int (qs A B))) ∧ μ' = μ
def rLetter : Rel := fun ss μ r μ' => ∃ a b : Nat, a ∈ IXYZ ∧ b ∈ IXYZ ∧ ss = [.p (.str ⟨#[a]⟩), .p (.str ⟨#[b]⟩)] ∧ r = .v (.p (.str ⟨#[third a b]⟩)) ∧ μ' = μ
def rMade : Rel := fun ss μ r μ' => ∃ (A B : List Nat), okL A ∧ okL B ∧ A.length = B.length ∧ ss = [.p (.str (st A)), .p (.str (st B))] ∧ r = .v (.p (.str (st (mk A B)))) ∧ μ' = μ
structure TW (w : World) (K : PySem.W.Frag) (mg : Str → Option Value) (qa ta : Addr) : Prop where
  len : mg "len" = none
  all : mg "all" = none
  sum : mg "sum" = none
  zip : mg "zip" = none
  isi : mg "isinstance" = none
  str : mg "str" = none
  lets : ∃ u, mg "LETTERS" = some u ∧ RelV (.str (st IXYZ)) u
  most : ∃ u, mg "MOST_WIRES" = some u ∧ RelV (.int 4) u
  mq : mg "QUARTER" = some (.ref qa)
  mt : mg "THIRD" = some (.ref ta)
  kq : ∃ es m, KDict K w qa es m
  kt : ∃ es m, KDict K w ta es m
  dq : ∀ a b, a ∈ IXYZ → b ∈ IXYZ → ∃ u, PySem.W.nsIn K qa (st [a, b]) = some u ∧ match u with | some u => ∃ v, RelV v u ∧ ∀ K F, Rep K F v (.int (qt a b)) | none => D.int (qt a b) = .int 0
  dt : ∀ a b, a ∈ IXYZ → b ∈ IXYZ → a ≠ b → a ≠ 73 → b ≠ 73 → ∃ u, PySem.W.nsIn K ta (st [a, b]) = some (some u) ∧ RelV (.str ⟨#[third a b]⟩) u
theorem scAre : FnScope ["text", "letter"] ["text"] (defScope sAre) := ⟨rfl, rfl, rfl, by decide +kernel, rfl, by decide +kernel, by decide +kernel⟩
theorem scSigned : FnScope ["letters", "sign"] ["letters", "sign"] (defScope sSigned) := ⟨rfl, rfl, rfl, by decide +kernel, rfl, by decide +kernel, by decide +kernel⟩
theorem scQuarters : FnScope ["one", "other", "a", "b"] ["one", "other"] (defScope sQuarters) := ⟨rfl, rfl, rfl, by decide +kernel, rfl, by decide +kernel, by decide +kernel⟩
theorem scMade : FnScope ["one", "other", "a", "b"] ["one", "other"] (defScope sMade) := ⟨rfl, rfl, rfl, by decide +kernel, rfl, by decide +kernel, by decide +kernel⟩
theorem scLetter : FnScope ["one", "other"] ["one", "other"] (defScope sLetter) := ⟨rfl, rfl, rfl, by decide +kernel, rfl, by decide +kernel, by decide +kernel⟩
section
variable {P : Program} {w : World} {K : PySem.W.Frag} {mg : Str → Option Value} {base : Heap} {qa ta f : Addr} {fd : FuncData}
theorem ok_are (F : Fun K "are_letters" "are_letters" sAre f fd) (T : TW w K mg qa ta) : FnOk P w K mg base (L2.CX P w) 1 f fd ["text"] (spD K rAre) := by
  refine fn_D (k := 0) F scAre (fun ss μ r μ' h => by obtain ⟨L, _, rfl, _⟩ := h; rfl) ?_
  intro cdv A outer s H E N W ss μ r μ' g hA hR
  obtain ⟨L, hL, rfl, rfl, rfl⟩ := hR
  obtain ⟨u1, hu1, ru1⟩ := T.lets
  obtain ⟨u2, hu2, ru2⟩ := T.most
  have h4 := hL.four
  have h1 := hL.one
  refine ⟨_, dss_ret (de_of (de_and (de_chn de_int (de_callB (da_cons (de_var 0) da_nil) (c_lenS (by rw [st_len]; exact size4 (by omega))) T.len (by decide +kernel)) o_le (fun _ => de_glob hu2 ru2 (fun _ _ => .int 4)) (fun _ => o_le))
    (fun _ => de_one (de_callB (id := "all") (da_cons (de_lc g [("letter", 1)] (di_of (di_str (de_var 0)) (chars_st L)) (fun s H C cl fp => dg_name 1 g.nd)
      (of_maps (fy := fun c => .bl (decide (c ∈ IXYZ))) fun c hc => ⟨_, rfl, fun s H C cl fp N' hK g' => de_cmp (de_var 1) (de_glob hu1 ru1 (fun _ _ => .str _)) o_inS⟩) (ok := blkOk_by (by rfl)) (hds := by rw [List.length_map]; exact size4' (by omega))) da_nil) (c_allm g) T.all (by decide +kernel)))) ?_), .rt⟩
  rw [st_len, decide_eq_true (show (1 : Int) ≤ (L.length : Int) by omega), decide_eq_true (show (L.length : Int) ≤ 4 by omega), show (L.all fun c => decide (c ∈ IXYZ)) = true by simpa using hL.all]
  rfl
theorem sgn_neg {L : List Nat} {s : Int} (h : s < 0) : Str.ofString "-" ++ st L = sgn L s := by
  unfold sgn
  rw [if_pos h]
  exact st_app [45] L
theorem sgn_pos {L : List Nat} {s : Int} (h : ¬ s < 0) : st L = sgn L s := by
  unfold sgn
  rw [if_neg h]
theorem ok_signed (F : Fun K "signed_text" "signed_text" sSigned f fd) : FnOk P w K mg base (L2.CX P w) 1 f fd ["letters", "sign"] (spD K rSigned) := by
  refine fn_D (k := 0) F scSigned (fun ss μ r μ' h => by obtain ⟨L, s, _, rfl, _⟩ := h; rfl) ?_
  intro cdv A outer s H E N W ss μ r μ' g hA hR
  obtain ⟨L, i, hL, rfl, rfl, rfl⟩ := hR
  by_cases hi : i < 0
  · exact ⟨_, dss_ifT (dt_of (dt_cmp (de_var 1) de_int o_lt) (decide_eq_true hi)) (dss_ret (de_of (de_bin de_str (de_var 0) (o_addS (by rw [st_len]; show 1 + _ ≤ _; exact size4 (by omega)))) (congrArg D.str (sgn_neg hi)))) cr, .rt⟩
  · exact ⟨_, dss_skip (dt_of (dt_cmp (de_var 1) de_int o_lt) (decide_eq_false hi)) (dss_ret (de_of (de_var 0) (congrArg D.str (sgn_pos hi)))), .rt⟩
theorem zip_chars (A B : List Nat) : (chars (st A)).zipWith (fun a b => D.tup [a, b]) (chars (st B)) = (A.zip B).map fun p => .tup [.str ⟨#[p.1]⟩, .str ⟨#[p.2]⟩] := by
  rw [chars_st, chars_st, List.zipWith_map, List.zip, List.map_zipWith]
theorem zip_mem {A B : List Nat} {p : Nat × Nat} (h : p ∈ A.zip B) : p.1 ∈ A ∧ p.2 ∈ B := by
  obtain ⟨a, b⟩ := p
  exact List.of_mem_zip h
theorem two_st (a b : Nat) : (⟨#[a]⟩ : Str) ++ ⟨#[b]⟩ = st [a, b] := st_app [a] [b]
theorem ok_quarters (F : Fun K "quarters" "quarters" sQuarters f fd) (T : TW w K mg qa ta) : FnOk P w K mg base (L2.CX P w) 1 f fd ["one", "other"] (spD K rQuarters) := by
  refine fn_D (k := 0) F scQuarters (fun ss μ r μ' h => by obtain ⟨A, B, _, _, _, rfl, _⟩ := h; rfl) ?_
  intro cdv A0 outer s H E N W ss μ r μ' g hA hR
  obtain ⟨A, B, hLA, hLB, hl, rfl, rfl, rfl⟩ := hR
  obtain ⟨es, m, kq⟩ := T.kq
  have h4 := hLA.four
  refine ⟨_, dss_ret (de_of (de_callB (id := "sum") (da_cons (de_lc g [("a", 2), ("b", 3)] (di_of (di_zip g (da_cons (de_var 0) (da_cons (de_var 1) da_nil)) (.str _) (.str _) T.zip) (zip_chars A B))
    (fun s H C cl fp => dg_tup (dgs_cons (dg_name 2 g.nd) (dgs_cons (dg_name 3 g.nd) dgs_nil)) g.hK g.calm)
    (of_maps (fy := fun p => .int (qt p.1 p.2)) fun p hp => ⟨_, rfl, fun s H C cl fp N' hK g' => ?_⟩) (ok := blkOk_by (by rfl)) (hds := by rw [List.length_map, List.length_zip]; exact size4' (by omega))) da_nil) (c_summ g) T.sum (by decide +kernel)) ?_), .rt⟩
  · obtain ⟨hp1, hp2⟩ := zip_mem hp
    obtain ⟨u, h1, h2⟩ := T.dq p.1 p.2 (hLA.all _ hp1) (hLB.all _ hp2)
    cases u <;> exact de_kdGet kq (de_glob (v := .ref qa) T.mq rfl (fun _ _ => .adr _)) (de_of (de_bin (de_var 2) (de_var 3) (o_addS (by show 1 + 1 ≤ _; exact size4 (by omega)))) (congrArg D.str (two_st _ _))) de_int h1 h2 ⟨rfl, rfl, rfl, rfl⟩
  · rw [List.zip, List.map_zipWith]
    rfl
theorem ch_eq (a b : Nat) : decide ((⟨#[a]⟩ : Str) = ⟨#[b]⟩) = decide (a = b) := by simp
theorem ok_letter (F : Fun K "_made_letter" "_made_letter" sLetter f fd) (T : TW w K mg qa ta) : FnOk P w K mg base (L2.CX P w) 1 f fd ["one", "other"] (spD K rLetter) := by
  refine fn_D (k := 0) F scLetter (fun ss μ r μ' h => by obtain ⟨A, B, _, _, rfl, _⟩ := h; rfl) ?_
  intro cdv A0 outer s H E N W ss μ r μ' g hA hR
  obtain ⟨a, b, ha, hb, rfl, rfl, rfl⟩ := hR
  obtain ⟨es, m, kt⟩ := T.kt
  by_cases h1 : a = b
  · exact ⟨_, dss_ifT (dt_of (dt_cmp (de_var 0) (de_var 1) o_eqS) ((ch_eq a b).trans (decide_eq_true h1))) (dss_ret (de_of de_str (congrArg D.str (by rw [third, if_pos h1] <;> rfl)))) cr, .rt⟩
  by_cases h2 : a = 73
  · exact ⟨_, dss_skip (dt_of (dt_cmp (de_var 0) (de_var 1) o_eqS) ((ch_eq a b).trans (decide_eq_false h1))) (dss_ifT (dt_of (dt_cmp (de_var 0) de_str o_eqS) ((ch_eq a 73).trans (decide_eq_true h2))) (dss_ret (de_of (de_var 1) (congrArg D.str (by rw [third, if_neg h1, if_pos h2] <;> rfl)))) cr), .rt⟩
  by_cases h3 : b = 73
  · exact ⟨_, dss_skip (dt_of (dt_cmp (de_var 0) (de_var 1) o_eqS) ((ch_eq a b).trans (decide_eq_false h1))) (dss_skip (dt_of (dt_cmp (de_var 0) de_str o_eqS) ((ch_eq a 73).trans (decide_eq_false h2)))
      (dss_ifT (dt_of (dt_cmp (de_var 1) de_str o_eqS) ((ch_eq b 73).trans (decide_eq_true h3))) (dss_ret (de_of (de_var 0) (congrArg D.str (by rw [third, if_neg h1, if_neg h2, if_pos h3] <;> rfl)))) cr)), .rt⟩
  obtain ⟨u, h4, h5⟩ := T.dt a b ha hb h1 h2 h3
  exact ⟨_, dss_skip (dt_of (dt_cmp (de_var 0) (de_var 1) o_eqS) ((ch_eq a b).trans (decide_eq_false h1))) (dss_skip (dt_of (dt_cmp (de_var 0) de_str o_eqS) ((ch_eq a 73).trans (decide_eq_false h2)))
      (dss_skip (dt_of (dt_cmp (de_var 1) de_str o_eqS) ((ch_eq b 73).trans (decide_eq_false h3))) (dss_ret (de_kdIx kt (de_glob (v := .ref ta) T.mt rfl (fun _ _ => .adr _)) (de_of (de_bin (de_var 0) (de_var 1) (o_addS (by show 1 + 1 ≤ _; exact size4 (by omega)))) (congrArg D.str (two_st _ _))) h4 h5 (fun _ _ => .str _))))), .rt⟩
theorem ok_made (F : Fun K "made_letters" "made_letters" sMade f fd) (T : TW w K mg qa ta) (cl : Cf P w K mg base 1 "_made_letter" [] rLetter) : FnOk P w K mg base (L2.CX P w) 2 f fd ["one", "other"] (spD K rMade) := by
  refine fn_D (k := 1) F scMade (fun ss μ r μ' h => by obtain ⟨A, B, _, _, _, rfl, _⟩ := h; rfl) ?_
  intro cdv A0 outer s H E N W ss μ r μ' g hA hR
  obtain ⟨A, B, hLA, hLB, hl, rfl, rfl, rfl⟩ := hR
  have h4 := hLA.four
  refine ⟨_, dss_ret (de_of (de_bm PySem.F.plainAttrs_str PySem.F.slot_str_join PySem.F.type_str_join de_str (da_cons (de_lc g [("a", 2), ("b", 3)] (di_of (di_zip g (da_cons (de_var 0) (da_cons (de_var 1) da_nil)) (.str _) (.str _) T.zip) (zip_chars A B))
    (fun s H C cl fp => dg_tup (dgs_cons (dg_name 2 g.nd) (dgs_cons (dg_name 3 g.nd) dgs_nil)) g.hK g.calm)
    (of_maps (fy := fun p => .str ⟨#[third p.1 p.2]⟩) fun p hp => ⟨_, rfl, fun s H C cl' fp N' hK g' => ?_⟩) (ok := blkOk_by (by rfl)) (hds := by rw [List.length_map, List.length_zip]; exact size4' (by omega))) da_nil) (m_joinm (by rw [List.length_zip]; omega))) ?_), .rt⟩
  · obtain ⟨hp1, hp2⟩ := zip_mem hp
    exact de_call g' cl (da_cons (de_var 2) (da_cons (de_var 3) da_nil)) ⟨p.1, p.2, hLA.all _ hp1, hLB.all _ hp2, rfl, rfl, rfl⟩
  · rw [List.zip, List.map_zipWith]
    rfl
end
end K62
set_option Elab.async false
set_option linter.all false
set_option maxRecDepth 100000
set_option maxHeartbeats 4000000
set_option autoImplicit false
namespace K62
open PySem PySem.Spec PyProof.Rows L2 Dl Cq
structure TC (K : PySem.W.Frag) (mg : Str → Option Value) (C : Addr) : Prop where
  ci : ClsI K C
  nL : NoAttr K C "letters"
  nS : NoAttr K C "sign"
  at_ : mg "Word" = some (.ref C)
  sf : PySem.W.selfFirst K C = true
  nf : PySem.W.notFirst K C (.ref C) = true
  ne : NeOk K C
def pm (s : Int) : Prop := s = 1 ∨ s = -1
def wF : List Str := ["letters", "sign"]
def rInit (C : Addr) : Rel := fun ss μ r μ' => ∃ (j : Nat) (L : List Nat) (s : Int), okL L ∧ pm s ∧ ss = [.l j, .p (.str (sgn L s))] ∧ μ[j]? = some (.obj C [] []) ∧ r = .v (.p .non) ∧ μ' = μ.set j (.obj C wF [.str (st L), .int s])
def rLen (C : Addr) : Rel := fun ss μ r μ' => ∃ (L : List Nat) (s : Int), okL L ∧ ss = [.p (wd C L s)] ∧ r = .v (.p (.int L.length)) ∧ μ' = μ
def rEq (C : Addr) : Rel := fun ss μ r μ' => ∃ (L M : List Nat) (s t : Int), ss = [.p (wd C L s), .p (wd C M t)] ∧ r = .v (.p (.bl (decide (L = M) && decide (s = t)))) ∧ μ' = μ
def rMul (C : Addr) : Rel := fun ss μ r μ' => ∃ (A B : List Nat) (s t : Int), okL A ∧ okL B ∧ A.length = B.length ∧ pm s ∧ pm t ∧ qs A B % 2 = 0 ∧ ss = [.p (wd C A s), .p (wd C B t)] ∧ r = .v (.p (wd C (mk A B) (bes s t (qs A B)))) ∧ μ' = μ
def rPasses (C : Addr) : Rel := fun ss μ r μ' => ∃ (A B : List Nat) (s t : Int), okL A ∧ okL B ∧ A.length = B.length ∧ ss = [.p (wd C A s), .p (wd C B t)] ∧ r = .v (.p (.bl (decide (qs A B % 2 = 0)))) ∧ μ' = μ
def rBeside (C : Addr) : Rel := fun ss μ r μ' => ∃ (A B : List Nat) (s t q : Int), okL A ∧ okL B ∧ A.length = B.length ∧ pm s ∧ pm t ∧ ss = [.p (wd C A s), .p (wd C B t), .p (.int q)] ∧ r = .v (.p (wd C (mk A B) (bes s t q))) ∧ μ' = μ
theorem scInit : FnScope ["self", "text", "letters"] ["self", "text"] (defScope sInit) := ⟨rfl, rfl, rfl, by decide +kernel, rfl, by decide +kernel, by decide +kernel⟩
theorem scLen : FnScope ["self"] ["self"] (defScope sLen) := ⟨rfl, rfl, rfl, by decide +kernel, rfl, by decide +kernel, by decide +kernel⟩
theorem scEq : FnScope ["self", "other"] ["self", "other"] (defScope sEq) := ⟨rfl, rfl, rfl, by decide +kernel, rfl, by decide +kernel, by decide +kernel⟩
theorem scMul : FnScope ["self", "other", "turned"] ["self", "other"] (defScope sMul) := ⟨rfl, rfl, rfl, by decide +kernel, rfl, by decide +kernel, by decide +kernel⟩
theorem scPasses : FnScope ["self", "other"] ["self", "other"] (defScope sPasses) := ⟨rfl, rfl, rfl, by decide +kernel, rfl, by decide +kernel, by decide +kernel⟩
theorem scBeside : FnScope ["self", "other", "turned", "sign"] ["self", "other", "turned"] (defScope sBeside) := ⟨rfl, rfl, rfl, by decide +kernel, rfl, by decide +kernel, by decide +kernel⟩
theorem kit_same {K : PySem.W.Frag} {t : Value} : PySem.W.kitOne K t t = some true := by
  unfold PySem.W.kitOne
  rw [if_pos (by simp)]
theorem sgn_prefix {L : List Nat} {s : Int} (h : okL L) : Txt.removeprefix (sgn L s) (Str.ofString "-") = st L := by
  obtain ⟨h1, h4, ha⟩ := h
  unfold sgn
  split
  · match L, h1, h4 with
    | [a], _, _ => rfl
    | [a, b], _, _ => rfl
    | [a, b, c], _, _ => rfl
    | [a, b, c, d], _, _ => rfl
  · match L, h1, h4, ha with
    | a :: l, _, h4, ha =>
      have hm := ha a (by simp)
      clear ha
      simp only [IXYZ, List.mem_cons, List.not_mem_nil, or_false] at hm
      rcases hm with rfl | rfl | rfl | rfl <;> (match l, h4 with
        | [], _ => rfl
        | [b], _ => rfl
        | [b, c], _ => rfl
        | [b, c, d], _ => rfl)
theorem sgn_starts {L : List Nat} {s : Int} (h : okL L) : Txt.startswith (sgn L s) (Str.ofString "-") = decide (s < 0) := by
  obtain ⟨h1, h4, ha⟩ := h
  unfold sgn
  split
  · rename_i hs
    rw [decide_eq_true hs]
    match L, h1, h4 with
    | [a], _, _ => rfl
    | [a, b], _, _ => rfl
    | [a, b, c], _, _ => rfl
    | [a, b, c, d], _, _ => rfl
  · rename_i hs
    rw [decide_eq_false hs]
    match L, h1, h4, ha with
    | a :: l, _, h4, ha =>
      have hm := ha a (by simp)
      clear ha
      simp only [IXYZ, List.mem_cons, List.not_mem_nil, or_false] at hm
      rcases hm with rfl | rfl | rfl | rfl <;> (match l, h4 with
        | [], _ => rfl
        | [b], _ => rfl
        | [b, c], _ => rfl
        | [b, c, d], _ => rfl)
section
variable {P : Program} {w : World} {K : PySem.W.Frag} {mg : Str → Option Value} {base : Heap} {qa ta f C : Addr} {fd : FuncData}
theorem ok_init (F : Fun K "__init__" "Word.__init__" sInit f fd) (T : TW w K mg qa ta) (T2 : TC K mg C) (ca : Cf P w K mg base 1 "are_letters" [] rAre) : FnOk P w K mg base (L2.CX P w) 2 f fd ["self", "text"] (spD K (rInit C)) := by
  refine fn_D (k := 1) F scInit (fun ss μ r μ' h => by obtain ⟨j, L, s, _, _, rfl, _⟩ := h; rfl) ?_
  intro cdv A0 outer s0 H E N W ss μ r μ' g hA hR
  obtain ⟨j, L, s, hL, hs, rfl, hj, rfl, rfl⟩ := hR
  have h4 := hL.four
  have hlen : (sgn L s).length ≤ sizeLine := by
    unfold sgn
    rw [st_len]
    split
    · exact size4 (by rw [List.length_cons]; omega)
    · exact size4 (by omega)
  refine ⟨_, dss_skip (dt_not (dt_val (de_callB (id := "isinstance") (da_cons (de_var 1) (da_cons (de_ty T.str (by decide +kernel)) da_nil)) (c_isi g (.str _) (.ty _) kit_same) T.isi (by decide +kernel))))
    (dss_cons (ds_set 2 (de_of (de_bm PySem.F.plainAttrs_str PySem.F.slot_str_removeprefix PySem.F.type_str_removeprefix (de_var 1) (da_cons de_str da_nil) (m_removeprefix hlen)) (congrArg D.str (sgn_prefix hL))) g.nd) (cn
    (dss_skip (dt_not (dt_val (de_call g ca (da_cons (de_var 2) da_nil) ⟨L, hL, rfl, rfl, rfl⟩)))
    (dss_cons (ds_fldNew (de_var 2) (de_var 0) T2.ci.cl T2.nL hj) (cn
    (dss_cons (ds_fldNew (de_if (r := .v (.p (.int s))) (k := decide (s < 0)) (dt_of (dt_val (de_bm PySem.F.plainAttrs_str PySem.F.slot_str_startswith PySem.F.type_str_startswith (de_var 1) (da_cons de_str da_nil) m_startswith)) (sgn_starts hL)) (fun h => de_of (de_un de_int u_neg) (congrArg D.int ?_)) (fun h => de_of de_int (congrArg D.int ?_))) (de_var 0) T2.ci.cl T2.nS (List.getElem?_set_self (List.getElem?_eq_some_iff.mp hj).1)) (cn dss_nil))))))), ?_⟩
  · rcases hs with rfl | rfl
    · simp at h
    · rfl
  · rcases hs with rfl | rfl
    · rfl
    · simp at h
  · rw [List.set_set]
    exact .nx
theorem ok_len (F : Fun K "__len__" "Word.__len__" sLen f fd) (T : TW w K mg qa ta) (T2 : TC K mg C) : FnOk P w K mg base (L2.CX P w) 1 f fd ["self"] (spD K (rLen C)) := by
  refine fn_D (k := 0) F scLen (fun ss μ r μ' h => by obtain ⟨L, s, _, rfl, _⟩ := h; rfl) ?_
  intro cdv A0 outer s0 H E N W ss μ r μ' g hA hR
  obtain ⟨L, s, hL, rfl, rfl, rfl⟩ := hR
  have h4 := hL.four
  exact ⟨_, dss_ret (de_of (de_callB (id := "len") (da_cons (de_fld (de_var 0) g T2.ci.cl T2.nL) da_nil) (c_lenS (by rw [st_len]; exact size4 (by omega))) T.len (by decide +kernel)) (by rw [st_len])), .rt⟩
theorem ok_eq (F : Fun K "__eq__" "Word.__eq__" sEq f fd) (T : TW w K mg qa ta) (T2 : TC K mg C) : FnOk P w K mg base (L2.CX P w) 1 f fd ["self", "other"] (spD K (rEq C)) := by
  refine fn_D (k := 0) F scEq (fun ss μ r μ' h => by obtain ⟨L, M, s, t, rfl, _⟩ := h; rfl) ?_
  intro cdv A0 outer s0 H E N W ss μ r μ' g hA hR
  obtain ⟨L, M, s, t, rfl, rfl, rfl⟩ := hR
  refine ⟨_, dss_ret (de_of (de_and (de_callB (id := "isinstance") (da_cons (de_var 1) (da_cons (de_glob (v := .ref C) T2.at_ rfl (fun _ _ => .adr _)) da_nil)) (c_isi g (.ins _ _ _ T2.ci) (.adr C) kit_same) T.isi (by decide +kernel))
    (fun _ => de_and (de_cmp (de_fld (de_var 0) g T2.ci.cl T2.nL) (de_fld (de_var 1) g T2.ci.cl T2.nL) o_eqS) (fun _ => de_one (de_cmp (de_fld (de_var 0) g T2.ci.cl T2.nS) (de_fld (de_var 1) g T2.ci.cl T2.nS) o_eqI)))) ?_), .rt⟩
  rw [Bool.true_and]
  simp only [st_inj]
end
section
variable {X : Cx} {N : En} {W : WX} {n : Nat} {δ : List (Option S)} {μ μ1 μ2 : List M} {e o a b : Expr} {p pos apos : Pos} {C : Addr} {L A B : List Nat} {s t : Int}
theorem de_word (g : Go X N W n) (ci : Ci X.prog X.w X.K X.mg X.base 2 C "Word" [] (rInit C)) (hL : okL L) (hs : pm s) (h : DE X N W δ μ e (.v (.p (.str (sgn L s)))) μ1) (hk : 2 + 1 ≤ n := by decide) (hg : Gl X "Word" := by rfl)
    (he : starEach [e] X.env = (false, eval e X.env) :: starEach [] X.env := by rfl) (hpl : (backTo pos (starEach [] X.env)).any (·.1) = false := by rfl) : DE X N W δ μ (.Call (.Name "Word" p) [e] [] pos) (.v (.p (wd C L s))) μ1 := by
  refine de_make g ci (da_cons h da_nil he) (μ0 := (μ1 ++ [M.obj C [] []]).set μ1.length (M.obj C wF [.str (st L), .int s])) ⟨μ1.length, L, s, hL, hs, rfl, by simp, rfl, rfl⟩ (List.getElem?_set_self (by simp)) ?_ hk hg (by decide) he hpl
  rw [List.set_append_right _ _ (Nat.le_refl _)]
  simp
end
section
variable {P : Program} {w : World} {K : PySem.W.Frag} {mg : Str → Option Value} {base : Heap} {qa ta f C : Addr} {fd : FuncData}
theorem pm_small {s : Int} (h : pm s) : -(2 ^ 64) < s ∧ s < 2 ^ 64 := by
  rcases h with rfl | rfl <;> decide
theorem ok_beside (F : Fun K "_beside" "Word._beside" sBeside f fd) (T2 : TC K mg C) (cs : Cf P w K mg base 1 "signed_text" [] rSigned) (cm : Cf P w K mg base 2 "made_letters" [] rMade) (ci : Ci P w K mg base 2 C "Word" [] (rInit C)) : FnOk P w K mg base (L2.CX P w) 4 f fd ["self", "other", "turned"] (spD K (rBeside C)) := by
  refine fn_D (k := 3) F scBeside (fun ss μ r μ' h => by obtain ⟨A, B, s, t, q, _, _, _, _, _, rfl, _⟩ := h; rfl) ?_
  intro cdv A0 outer s0 H E N W ss μ r μ' g hA hR
  obtain ⟨A, B, s, t, q, hLA, hLB, hl, hs, ht, rfl, rfl, rfl⟩ := hR
  have hm := mk_ok hLA hLB hl
  by_cases hq : q % 4 = 0
  · have e : bes s t q = s * t := if_neg (fun z => z hq)
    rw [e]
    exact ⟨_, dss_cons (ds_set 3 (de_bin (de_fld (de_var 0) g T2.ci.cl T2.nS) (de_fld (de_var 1) g T2.ci.cl T2.nS) (o_mul (.inl (pm_small hs)))) g.nd) (cn
      (dss_skip (dt_of (dt_cmp (de_bin (de_var 2) de_int (o_mod (by decide))) de_int o_neI) (by rw [decide_eq_true hq] <;> rfl))
      (dss_ret (de_word g ci hm (e ▸ bes_pm hs ht) (de_call g cs (da_cons (de_call g cm (da_cons (de_fld (de_var 0) g T2.ci.cl T2.nL) (da_cons (de_fld (de_var 1) g T2.ci.cl T2.nL) da_nil)) ⟨A, B, hLA, hLB, hl, rfl, rfl, rfl⟩) (da_cons (de_var 3) da_nil)) ⟨_, _, hm.four, rfl, rfl, rfl⟩))))), .rt⟩
  · have e : bes s t q = -(s * t) := if_pos hq
    rw [e]
    exact ⟨_, dss_cons (ds_set 3 (de_bin (de_fld (de_var 0) g T2.ci.cl T2.nS) (de_fld (de_var 1) g T2.ci.cl T2.nS) (o_mul (.inl (pm_small hs)))) g.nd) (cn
      (dss_ifT (dt_of (dt_cmp (de_bin (de_var 2) de_int (o_mod (by decide))) de_int o_neI) (by rw [decide_eq_false hq] <;> rfl)) (dss_cons (ds_set 3 (de_un (de_var 3) u_neg) g.nd) (cn dss_nil)) (cn
      (dss_ret (de_word g ci hm (e ▸ bes_pm hs ht) (de_call g cs (da_cons (de_call g cm (da_cons (de_fld (de_var 0) g T2.ci.cl T2.nL) (da_cons (de_fld (de_var 1) g T2.ci.cl T2.nL) da_nil)) ⟨A, B, hLA, hLB, hl, rfl, rfl, rfl⟩) (da_cons (de_var 3) da_nil)) ⟨_, _, hm.four, rfl, rfl, rfl⟩)))))), .rt⟩
theorem len_ne {A B : List Nat} (hl : A.length = B.length) : (!decide (((st B).length : Int) = ((st A).length : Int))) = false := by
  rw [st_len, st_len, hl]
  simp
theorem scNeed : FnScope ["value", "wires"] ["value", "wires"] (defScope sNeed) := ⟨rfl, rfl, rfl, by decide +kernel, rfl, by decide +kernel, by decide +kernel⟩
def rNeed (C : Addr) : Rel := fun ss μ r μ' => ∃ (B : List Nat) (t : Int), okL B ∧ ss = [.p (wd C B t), .p (.int (B.length : Int))] ∧ r = .v (.p .non) ∧ μ' = μ
theorem ok_need (F : Fun K "need_word" "need_word" sNeed f fd) (T : TW w K mg qa ta) (T2 : TC K mg C) : FnOk P w K mg base (L2.CX P w) 1 f fd ["value", "wires"] (spD K (rNeed C)) := by
  refine fn_D (k := 0) F scNeed (fun ss μ r μ' h => by obtain ⟨B, t, _, rfl, _⟩ := h; rfl) ?_
  intro cdv A0 outer s0 H E N W ss μ r μ' g hA hR
  obtain ⟨B, t, hLB, rfl, rfl, rfl⟩ := hR
  have h5 := hLB.four
  exact ⟨_, dss_skip (dt_not (dt_val (de_callB (id := "isinstance") (da_cons (de_var 0) (da_cons (de_glob (v := .ref C) T2.at_ rfl (fun _ _ => .adr _)) da_nil)) (c_isi g (.ins _ _ _ T2.ci) (.adr C) kit_same) T.isi (by decide +kernel)))) (dss_skip (dt_of (dt_cmp (de_callB (id := "len") (da_cons (de_fld (de_var 0) g T2.ci.cl T2.nL) da_nil) (c_lenS (by rw [st_len]; exact size4 (by omega))) T.len (by decide +kernel)) (de_var 1) o_neI) (by rw [st_len]; simp)) dss_nil), .nx⟩
theorem ok_passes (F : Fun K "passes" "Word.passes" sPasses f fd) (T : TW w K mg qa ta) (T2 : TC K mg C) (cn_ : Cf P w K mg base 1 "need_word" [] (rNeed C)) (cq : Cf P w K mg base 1 "quarters" [] rQuarters) : FnOk P w K mg base (L2.CX P w) 2 f fd ["self", "other"] (spD K (rPasses C)) := by
  refine fn_D (k := 1) F scPasses (fun ss μ r μ' h => by obtain ⟨A, B, s, t, _, _, _, rfl, _⟩ := h; rfl) ?_
  intro cdv A0 outer s0 H E N W ss μ r μ' g hA hR
  obtain ⟨A, B, s, t, hLA, hLB, hl, rfl, rfl, rfl⟩ := hR
  have h4 := hLA.four
  have h5 := hLB.four
  exact ⟨_, dss_cons (ds_expr (de_call g cn_ (da_cons (de_var 1) (da_cons (de_of (d' := .int (B.length : Int)) (de_callB (id := "len") (da_cons (de_fld (de_var 0) g T2.ci.cl T2.nL) da_nil) (c_lenS (by rw [st_len]; exact size4 (by omega))) T.len (by decide +kernel)) (by rw [st_len, hl])) da_nil)) ⟨B, t, hLB, rfl, rfl, rfl⟩)) (cn
    (dss_ret (de_cmp (de_bin (de_call g cq (da_cons (de_fld (de_var 0) g T2.ci.cl T2.nL) (da_cons (de_fld (de_var 1) g T2.ci.cl T2.nL) da_nil)) ⟨A, B, hLA, hLB, hl, rfl, rfl, rfl⟩) de_int (o_mod (by decide))) de_int o_eqI))), .rt⟩
theorem ok_mul (F : Fun K "__mul__" "Word.__mul__" sMul f fd) (T : TW w K mg qa ta) (T2 : TC K mg C) (cq : Cf P w K mg base 1 "quarters" [] rQuarters) (cb : Cm P w K mg base 4 C "_beside" [] (rBeside C)) : FnOk P w K mg base (L2.CX P w) 5 f fd ["self", "other"] (spD K (rMul C)) := by
  refine fn_D (k := 4) F scMul (fun ss μ r μ' h => by obtain ⟨A, B, s, t, _, _, _, _, _, _, rfl, _⟩ := h; rfl) ?_
  intro cdv A0 outer s0 H E N W ss μ r μ' g hA hR
  obtain ⟨A, B, s, t, hLA, hLB, hl, hs, ht, hq, rfl, rfl, rfl⟩ := hR
  have h4 := hLA.four
  have h5 := hLB.four
  exact ⟨_, dss_skip (dt_not (dt_val (de_callB (id := "isinstance") (da_cons (de_var 1) (da_cons (de_glob (v := .ref C) T2.at_ rfl (fun _ _ => .adr _)) da_nil)) (c_isi g (.ins _ _ _ T2.ci) (.adr C) kit_same) T.isi (by decide +kernel))))
    (dss_skip (dt_of (dt_cmp (de_callB (id := "len") (da_cons (de_fld (de_var 1) g T2.ci.cl T2.nL) da_nil) (c_lenS (by rw [st_len]; exact size4 (by omega))) T.len (by decide +kernel)) (de_callB (id := "len") (da_cons (de_fld (de_var 0) g T2.ci.cl T2.nL) da_nil) (c_lenS (by rw [st_len]; exact size4 (by omega))) T.len (by decide +kernel)) o_neI) (len_ne hl))
    (dss_cons (ds_set 2 (de_call g cq (da_cons (de_fld (de_var 0) g T2.ci.cl T2.nL) (da_cons (de_fld (de_var 1) g T2.ci.cl T2.nL) da_nil)) ⟨A, B, hLA, hLB, hl, rfl, rfl, rfl⟩) g.nd) (cn
    (dss_skip (dt_of (dt_cmp (de_bin (de_var 2) de_int (o_mod (by decide))) de_int o_neI) (by rw [decide_eq_true hq] <;> rfl))
    (dss_ret (de_meth g cb (de_var 0) (da_cons (de_var 1) (da_cons (de_var 2) da_nil)) ⟨A, B, s, t, _, hLA, hLB, hl, hs, ht, rfl, rfl, rfl⟩)))))), .rt⟩
end
end K62
set_option Elab.async false
set_option linter.all false
set_option maxRecDepth 100000
set_option maxHeartbeats 4000000
set_option autoImplicit false
namespace K62
open PySem PySem.Spec PyProof.Rows L2 Dl Cq
theorem scPot : FnScope ["script", "place", "cell", "own", "small"] ["script", "place"] (defScope sPot) := ⟨rfl, rfl, rfl, by decide +kernel, rfl, by decide +kernel, by decide +kernel⟩
theorem scTake : FnScope ["pot", "upto", "digit", "prime", "blend"] ["pot", "upto"] (defScope sTake) := ⟨rfl, rfl, rfl, by decide +kernel, rfl, by decide +kernel, by decide +kernel⟩
theorem scOf : FnScope ["pot", "some"] ["pot", "some"] (defScope sOf) := ⟨rfl, rfl, rfl, by decide +kernel, rfl, by decide +kernel, by decide +kernel⟩
theorem scCells : FnScope ["script", "most"] ["script", "most"] (defScope sCells) := ⟨rfl, rfl, rfl, by decide +kernel, rfl, by decide +kernel, by decide +kernel⟩
theorem scSome : FnScope ["pot", "pool", "many", "rest", "found", "lap"] ["pot", "pool", "many"] (defScope sSome) := ⟨rfl, rfl, rfl, by decide +kernel, rfl, by decide +kernel, by decide +kernel⟩
theorem scWText : FnScope ["word"] ["word"] (defScope sWText) := ⟨rfl, rfl, rfl, by decide +kernel, rfl, by decide +kernel, by decide +kernel⟩
theorem scDWord : FnScope ["pot", "wires", "letters", "wire"] ["pot", "wires"] (defScope sDWord) := ⟨rfl, rfl, rfl, by decide +kernel, rfl, by decide +kernel, by decide +kernel⟩
/-! ### the pot of digits -/
structure Pot where
  a : Int
  b : Int
  c : Int
def Pot.m (p : Pot) : M := .lst [.int p.a, .int p.b, .int p.c]
structure Pot.ok (n : Nat) (p : Pot) : Prop where
  b0 : 0 ≤ p.b
  b1 : p.b < 2 ^ 62
  c0 : 0 ≤ p.c
  c1 : p.c ≤ n
def absF (c : Int) : Int := if c < 0 then -c else c
def cellF (ns : List Int) (i : Nat) : Int := if i < ns.length then ns.getD i 0 else 283 * (i : Int) + 247
def potF (ns : List Int) (i : Nat) : Pot :=
  ⟨absF (cellF ns i) % ((10 ^ 60) ^ 5) * (if decide ((10 : Int) ^ 18 ≤ absF (cellF ns i)) then 1 else 0), (cellF ns i % 2305843009213693951 * 79797 + 8613 * (i : Int) * (i : Int) + 845) % 2305843009213693921, 0⟩
theorem potF_ok (ns : List Int) (i : Nat) : (potF ns i).ok 0 :=
  ⟨Int.emod_nonneg _ (by decide), Int.lt_trans (Int.emod_lt_of_pos _ (by decide)) (by decide), Int.le_refl _, Int.le_refl _⟩
def primeF (c : Int) : Int := ([2147483647, 2147483629, 2147483587, 2147483579, 2147483563] : List Int).getD (c % 5).toNat 0
def blendF (b c : Int) : Int := (b + 92863 * c * c + 661) ^ 3 % primeF c
def takeF (p : Pot) (u : Int) : Int × Pot :=
  if 0 < p.a then (p.a % u, ⟨p.a / u, p.b, p.c⟩) else (blendF p.b (p.c + 1) * (blendF p.b (p.c + 1) % 10255 + 227 * (p.c + 1)) / 149 % u, ⟨p.a, p.b, p.c + 1⟩)
theorem takeF_ok {n : Nat} {p : Pot} {u : Int} (h : p.ok n) : (takeF p u).2.ok (n + 1) := by
  obtain ⟨h1, h2, h3, h4⟩ := h
  unfold takeF
  split
  · exact ⟨h1, h2, h3, by show p.c ≤ _; omega⟩
  · exact ⟨h1, h2, by show 0 ≤ p.c + 1; omega, by show p.c + 1 ≤ _; omega⟩
theorem takeF_lt {p : Pot} {u : Int} (h : 0 < u) : 0 ≤ (takeF p u).1 ∧ (takeF p u).1 < u := by
  unfold takeF
  split
  · exact ⟨Int.emod_nonneg _ (by omega), Int.emod_lt_of_pos _ h⟩
  · exact ⟨Int.emod_nonneg _ (by omega), Int.emod_lt_of_pos _ h⟩
theorem prime_in (c : Int) : ∃ k : Nat, c % 5 = (k : Int) ∧ k < 5 := by
  have h1 := Int.emod_nonneg c (show (5 : Int) ≠ 0 by decide)
  have h2 := Int.emod_lt_of_pos c (show (0 : Int) < 5 by decide)
  exact ⟨(c % 5).toNat, by omega, by omega⟩
theorem prime_at (c : Int) : atI [D.int 2147483647, .int 2147483629, .int 2147483587, .int 2147483579, .int 2147483563] (c % 5) = some (.int (primeF c)) := by
  obtain ⟨k, h1, h2⟩ := prime_in c
  unfold primeF
  rw [h1]
  match k, h2 with
  | 0, _ => rfl
  | 1, _ => rfl
  | 2, _ => rfl
  | 3, _ => rfl
  | 4, _ => rfl
theorem prime_pos (c : Int) : 0 < primeF c ∧ primeF c < 2 ^ 31 := by
  obtain ⟨k, h1, h2⟩ := prime_in c
  unfold primeF
  rw [h1]
  match k, h2 with
  | 0, _ => decide
  | 1, _ => decide
  | 2, _ => decide
  | 3, _ => decide
  | 4, _ => decide
theorem blend_pos (b c : Int) : 0 ≤ blendF b c ∧ blendF b c < 2 ^ 31 := by
  have h := prime_pos c
  exact ⟨Int.emod_nonneg _ (by omega), Int.lt_trans (Int.emod_lt_of_pos _ h.1) h.2⟩
def rPot : Rel := fun ss μ r μ' => ∃ (ns : List Int) (i : Nat), i ≤ 100 ∧ ss = [.p (.sc ns), .p (.int (i : Int))] ∧ r = .v (.l μ.length) ∧ μ' = μ ++ [(potF ns i).m]
def rTake : Rel := fun ss μ r μ' => ∃ (j : Nat) (p : Pot) (u : Int), p.ok 9000 ∧ 0 < u ∧ u < 1000 ∧ ss = [.l j, .p (.int u)] ∧ μ[j]? = some p.m ∧ r = .v (.p (.int (takeF p u).1)) ∧ μ' = μ.set j (takeF p u).2.m
section
variable {P : Program} {w : World} {K : PySem.W.Frag} {mg : Str → Option Value} {base : Heap} {f C : Addr} {fd : FuncData}
theorem cell_at {ns : List Int} {i : Nat} (h : i < ns.length) : ns[i]? = some (cellF ns i) := by
  unfold cellF
  rw [if_pos h, List.getD, List.getElem?_eq_getElem h]
  rfl
theorem ite01 (q : Bool) : -(2 ^ 64) < (if q then (1 : Int) else 0) ∧ (if q then (1 : Int) else 0) < 2 ^ 64 := by cases q <;> decide
theorem ok_pot (F : Fun K "_law_pot" "_law_pot" sPot f fd) (T : TM mg) : FnOk P w K mg base (L2.CX P w) 1 f fd ["script", "place"] (spD K rPot) := by
  refine fn_D (k := 0) F scPot (fun ss μ r μ' h => by obtain ⟨ns, i, _, rfl, _⟩ := h; rfl) ?_
  intro cdv A0 outer s0 H E N W ss μ r μ' g hA hR
  obtain ⟨ns, i, hi, rfl, rfl, rfl⟩ := hR
  refine ⟨_, dss_cons (ds_set 2 (de_if (r := .v (.p (.int (cellF ns i)))) (k := decide ((i : Int) < (ns.length : Int))) (dt_cmp (de_var 1) (de_callB (id := "len") (da_cons (de_var 0) da_nil) (c_lenSc g) T.len (by decide +kernel)) o_lt)
      (fun h => de_ix (de_var 0) (de_var 1) (i_sc g (cell_at (by have := of_decide_eq_true h; omega)))) (fun h => de_of (de_bin (de_bin de_int (de_var 1) (o_mul (.inl (by decide)))) de_int o_add) (congrArg D.int ?_))) g.nd) (cn
    (dss_cons (ds_set 3 (de_of (de_bin (de_bin (de_callT (T := "int") (da_cons (de_callB (id := "abs") (da_cons (de_var 2) da_nil) c_abs T.abs (by decide +kernel)) da_nil) c_int T.int (by decide +kernel)) (de_bin (de_bin de_int de_int (o_pow ?_)) de_int (o_pow ?_)) (o_mod ?_))
      (de_callT (T := "int") (da_cons (de_cmp (de_callB (id := "abs") (da_cons (de_var 2) da_nil) c_abs T.abs (by decide +kernel)) (de_bin de_int de_int (o_pow ?_)) o_ge) da_nil) c_intB T.int (by decide +kernel)) (o_mul (.inr ?_))) (congrArg D.int (show _ = (potF ns i).a from rfl))) g.nd) (cn
    (dss_cons (ds_set 4 (de_bin (de_callT (T := "int") (da_cons (de_var 2) da_nil) c_int T.int (by decide +kernel)) de_int (o_mod (by decide))) g.nd) (cn
    (dss_ret (de_lstM (dp_cons (de_var 3) (dp_cons (de_of (de_bin (de_callT (T := "int") (da_cons (de_bin (de_bin (de_bin (de_var 4) de_int (o_mul (.inr (by decide)))) (de_bin (de_bin de_int (de_var 1) (o_mul (.inl (by decide)))) (de_var 1) (o_mul (.inr (by omega)))) o_add) de_int o_add) da_nil) c_int T.int (by decide +kernel)) de_int (o_mod (by decide))) (congrArg D.int (show _ = (potF ns i).b from rfl))) (dp_cons (de_of de_int (congrArg D.int (show _ = (potF ns i).c from rfl))) dp_nil)))))))))), .rt⟩
  · unfold cellF
    rw [if_neg (fun z => of_decide_eq_false h (by omega))]
  · exact ⟨by decide, by decide +kernel⟩
  · exact ⟨by decide, by decide +kernel⟩
  · decide +kernel
  · exact ⟨by decide, by decide +kernel⟩
  · exact ite01 _
theorem set_at {μ : List M} {j : Nat} {m x : M} (h : μ[j]? = some m) : (μ.set j x)[j]? = some x := List.getElem?_set_self (List.getElem?_eq_some_iff.mp h).1
theorem ok_take (F : Fun K "_law_take" "_law_take" sTake f fd) (T : TM mg) : FnOk P w K mg base (L2.CX P w) 1 f fd ["pot", "upto"] (spD K rTake) := by
  refine fn_D (k := 0) F scTake (fun ss μ r μ' h => by obtain ⟨j, p, u, _, _, _, rfl, _⟩ := h; rfl) ?_
  intro cdv A0 outer s0 H E N W ss μ r μ' g hA hR
  obtain ⟨j, p, u, hp, hu, hu2, rfl, hj, rfl, rfl⟩ := hR
  obtain ⟨b0, b1, c0, c1⟩ := hp
  by_cases ha : 0 < p.a
  · have e : takeF p u = (p.a % u, ⟨p.a / u, p.b, p.c⟩) := if_pos ha
    rw [e]
    exact ⟨_, dss_ifT (dt_of (dt_cmp (de_ix (de_var 0) de_int (i_lstM (i := 0) hj rfl)) de_int o_gt) (decide_eq_true ha))
      (dss_cons (ds_set 2 (de_bin (de_callT (T := "int") (da_cons (de_ix (de_var 0) de_int (i_lstM (i := 0) hj rfl)) da_nil) c_int T.int (by decide +kernel)) (de_var 1) (o_mod hu)) g.nd) (cn
      (dss_cons (ds_setM (de_bin (de_ix (de_var 0) de_int (i_lstM (i := 0) hj rfl)) (de_var 1) (o_div ⟨hu, by omega⟩)) (de_var 0) de_int hj rfl) (cn
      (dss_ret (de_var 2)))))) cr, .rt⟩
  · have e : takeF p u = (blendF p.b (p.c + 1) * (blendF p.b (p.c + 1) % 10255 + 227 * (p.c + 1)) / 149 % u, ⟨p.a, p.b, p.c + 1⟩) := if_neg ha
    rw [e]
    have hc : (0 : Int) ≤ p.c + 1 ∧ p.c + 1 ≤ 9001 := by omega
    have hb := blend_pos p.b (p.c + 1)
    have hm : 92863 * (p.c + 1) * (p.c + 1) ≤ 92863 * 9001 * 9001 := Int.mul_le_mul (by omega) hc.2 hc.1 (by decide)
    have hm0 : 0 ≤ 92863 * (p.c + 1) * (p.c + 1) := Int.mul_nonneg (by omega) hc.1
    refine ⟨_, dss_skip (dt_of (dt_cmp (de_ix (de_var 0) de_int (i_lstM (i := 0) hj rfl)) de_int o_gt) (decide_eq_false ha))
      (dss_cons (ds_setM (de_bin (de_ix (de_var 0) de_int (i_lstM (i := 2) hj rfl)) de_int o_add) (de_var 0) de_int hj rfl) (cn
      (dss_cons (ds_set 3 (de_ix (de_lst (dp_cons de_int (dp_cons de_int (dp_cons de_int (dp_cons de_int (dp_cons de_int dp_nil)))))) (de_bin (de_callT (T := "int") (da_cons (de_ix (de_var 0) de_int (i_lstM (i := 2) (set_at hj) rfl)) da_nil) c_int T.int (by decide +kernel)) de_int (o_mod (by decide))) (i_lst g (prime_at _))) g.nd) (cn
      (dss_cons (ds_set 4 (de_of (de_bin (de_callT (T := "int") (da_cons (de_bin (de_callT (T := "int") (da_cons (de_bin (de_bin (de_ix (de_var 0) de_int (i_lstM (i := 1) (set_at hj) rfl)) (de_bin (de_bin de_int (de_ix (de_var 0) de_int (i_lstM (i := 2) (set_at hj) rfl)) (o_mul (.inl (by decide)))) (de_ix (de_var 0) de_int (i_lstM (i := 2) (set_at hj) rfl)) (o_mul (.inr (by omega)))) o_add) de_int o_add) da_nil) c_int T.int (by decide +kernel)) de_int (o_pow ?_)) da_nil) c_int T.int (by decide +kernel)) (de_var 3) (o_mod (prime_pos _).1)) (congrArg D.int (show _ = blendF p.b (p.c + 1) from rfl))) g.nd) (cn
      (dss_ret (de_bin (de_callT (T := "int") (da_cons (de_bin (de_bin (de_var 4) (de_bin (de_bin (de_callT (T := "int") (da_cons (de_var 4) da_nil) c_int T.int (by decide +kernel)) de_int (o_mod (by decide))) (de_bin de_int (de_ix (de_var 0) de_int (i_lstM (i := 2) (set_at hj) rfl)) (o_mul (.inl (by decide)))) o_add) (o_mul (.inl (by omega)))) de_int (o_div ⟨by decide, by decide⟩)) da_nil) c_int T.int (by decide +kernel)) (de_var 1) (o_mod hu))))))))), .rt⟩
    refine ⟨by decide, ?_⟩
    have hx := intBits_le_64 (k := p.b + 92863 * (p.c + 1) * (p.c + 1) + 661) (by omega) (by omega)
    show ((Builtin.Int.intBits (p.b + 92863 * (p.c + 1) * (p.c + 1) + 661) : Nat) : Int) * 3 ≤ _
    omega
end
theorem Pot.ok.mono {n m : Nat} {p : Pot} (h : p.ok n) (q : n ≤ m) : p.ok m := ⟨h.b0, h.b1, h.c0, by have := h.c1; omega⟩
theorem set_self {μ : List M} {j : Nat} {m : M} (h : μ[j]? = some m) : μ.set j m = μ := by
  obtain ⟨h1, h2⟩ := List.getElem?_eq_some_iff.mp h
  subst h2
  exact List.set_getElem_self h1
/-! ### choices -/
def tk (p : Pot) (u : Nat) : Nat := (takeF p u).1.toNat
def tkP (p : Pot) (u : Nat) : Pot := (takeF p u).2
theorem tk_lt {p : Pot} {u : Nat} (h : 0 < u) : tk p u < u := by
  have := takeF_lt (p := p) (u := (u : Int)) (by omega)
  unfold tk
  omega
theorem tk_eq {p : Pot} {u : Nat} (h : 0 < u) : (takeF p u).1 = ((tk p u : Nat) : Int) := by
  have := takeF_lt (p := p) (u := (u : Int)) (by omega)
  unfold tk
  omega
theorem tkP_ok {n : Nat} {p : Pot} {u : Nat} (h : p.ok n) : (tkP p u).ok (n + 1) := takeF_ok h
def rTk : Rel := fun ss μ r μ' => ∃ (j : Nat) (p : Pot) (u : Nat), p.ok 9000 ∧ 0 < u ∧ u < 1000 ∧ ss = [.l j, .p (.int (u : Nat))] ∧ μ[j]? = some p.m ∧ r = .v (.p (.int (tk p u : Nat))) ∧ μ' = μ.set j (tkP p u).m
theorem tk_of {ss : List S} {μ : List M} {r : Rx} {μ' : List M} (h : rTk ss μ r μ') : rTake ss μ r μ' := by
  obtain ⟨j, p, u, h1, h2, h3, h4, h5, h6, h7⟩ := h
  exact ⟨j, p, (u : Int), h1, by omega, by omega, h4, h5, by rw [h6, tk_eq h2], h7⟩
def rOf : Rel := fun ss μ r μ' => ∃ (j : Nat) (p : Pot), p.ok 9000 ∧ μ[j]? = some p.m ∧
  ((∃ (α : Type) (q : α → D) (d : α) (l : List α), l ≠ [] ∧ l.length < 100 ∧ ss = [.l j, .p (.lst (l.map q))] ∧ r = .v (.p (q (l.getD (tk p l.length) d))) ∧ μ' = μ.set j (tkP p l.length).m) ∨
   (∃ (L : List Nat), L ≠ [] ∧ L.length < 100 ∧ ss = [.l j, .p (.str (st L))] ∧ r = .v (.p (.str ⟨#[L.getD (tk p L.length) 0]⟩)) ∧ μ' = μ.set j (tkP p L.length).m))
theorem at_getD {α : Type} {q : α → D} {d : α} {l : List α} {i : Nat} (h : i < l.length) : atI (l.map q) ((i : Nat) : Int) = some (q (l.getD i d)) := by
  refine atI_nat ?_
  rw [List.getElem?_map, List.getElem?_eq_getElem h, List.getD_eq_getElem?_getD, List.getElem?_eq_getElem h]
  rfl
theorem at_getN {l : List Nat} {d i : Nat} (h : i < l.length) : atI l ((i : Nat) : Int) = some (l.getD i d) := by
  refine atI_nat ?_
  rw [List.getElem?_eq_getElem h, List.getD_eq_getElem?_getD, List.getElem?_eq_getElem h]
  rfl
def cellsN (ns : List Int) : Nat := max 1 (min 4 ns.length)
def rCells : Rel := fun ss μ r μ' => ∃ (ns : List Int), ss = [.p (.sc ns), .p (.int 4)] ∧ r = .v (.p (.lst (rangeD 0 (cellsN ns)))) ∧ μ' = μ
def tupW (L : List Nat) (s : Int) : D := .tup [.int s, .str (st L)]
def rWText : Rel := fun ss μ r μ' => ∃ (L : List Nat) (s : Int), L.length ≤ 4 ∧ ss = [.p (tupW L s)] ∧ r = .v (.p (.str (st (sgL L s)))) ∧ μ' = μ
section
variable {P : Program} {w : World} {K : PySem.W.Frag} {mg : Str → Option Value} {base : Heap} {f C : Addr} {fd : FuncData}
theorem ok_tk (F : Fun K "_law_take" "_law_take" sTake f fd) (T : TM mg) : FnOk P w K mg base (L2.CX P w) 1 f fd ["pot", "upto"] (spD K rTk) := by
  exact (ok_take (P := P) (w := w) (base := base) F T).imp fun vs H Q E h => by
    obtain ⟨F1, A1, ss, μ, r, μ', h1, h2⟩ := h
    exact ⟨F1, A1, ss, μ, r, μ', tk_of h1, h2⟩
theorem ok_of (F : Fun K "_law_of" "_law_of" sOf f fd) (T : TM mg) (ct : Cf P w K mg base 1 "_law_take" [] rTk) : FnOk P w K mg base (L2.CX P w) 2 f fd ["pot", "some"] (spD K rOf) := by
  refine fn_D (k := 1) F scOf (fun ss μ r μ' h => by obtain ⟨j, p, _, _, (⟨_, _, _, _, _, _, rfl, _⟩ | ⟨L, _, _, rfl, _⟩)⟩ := h <;> rfl) ?_
  intro cdv A0 outer s0 H E N W ss μ r μ' g hA hR
  obtain ⟨j, p, hp, hj, (⟨α, q, d, l, h0, h1, rfl, rfl, rfl⟩ | ⟨L, h0, h1, rfl, rfl, rfl⟩)⟩ := hR
  · have h2 := List.length_pos_iff.mpr h0
    exact ⟨_, dss_ret (de_ix (de_var 1) (de_call g ct (da_cons (de_var 0) (da_cons (de_of (de_callB (id := "len") (da_cons (de_var 1) da_nil) (c_lenL g) T.len (by decide +kernel)) (by rw [List.length_map])) da_nil)) ⟨j, p, l.length, hp, by omega, by omega, rfl, hj, rfl, rfl⟩) (i_lst g (at_getD (tk_lt h2)))), .rt⟩
  · have h2 := List.length_pos_iff.mpr h0
    exact ⟨_, dss_ret (de_ix (de_var 1) (de_call g ct (da_cons (de_var 0) (da_cons (de_of (de_callB (id := "len") (da_cons (de_var 1) da_nil) (c_lenS (by rw [st_len]; exact size4 (by omega))) T.len (by decide +kernel)) (by rw [st_len])) da_nil)) ⟨j, p, L.length, hp, by omega, by omega, rfl, hj, rfl, rfl⟩) (i_str (by rw [st_len]; exact size4 (by omega)) (at_getN (tk_lt h2)))), .rt⟩
theorem ok_cells (F : Fun K "_law_cells" "_law_cells" sCells f fd) (T : TM mg) : FnOk P w K mg base (L2.CX P w) 1 f fd ["script", "most"] (spD K rCells) := by
  refine fn_D (k := 0) F scCells (fun ss μ r μ' h => by obtain ⟨ns, rfl, _⟩ := h; rfl) ?_
  intro cdv A0 outer s0 H E N W ss μ r μ' g hA hR
  obtain ⟨ns, rfl, rfl, rfl⟩ := hR
  refine ⟨_, dss_ret (de_of (de_listRg g (de_callB (id := "max") (da_cons de_int (da_cons (de_callB (id := "min") (da_cons (de_var 1) (da_cons (de_callB (id := "len") (da_cons (de_var 0) da_nil) (c_lenSc g) T.len (by decide +kernel)) da_nil)) (c_min2 g) T.min (by decide +kernel)) da_nil)) (c_max2 g) T.max (by decide +kernel)) T.list T.range ?_) ?_), .rt⟩
  · split <;> split at * <;> omega
  · congr 2
    unfold cellsN
    split <;> split at * <;> omega
theorem sgn_made (L : List Nat) (s : Int) : (if decide (s < 0) then Str.ofString "-" else Str.empty) ++ st L = st (sgL L s) := by
  rw [← sgn_sgL]
  by_cases h : s < 0
  · rw [decide_eq_true h, if_pos rfl]
    unfold sgn
    rw [if_pos h]
    exact st_app [45] L
  · rw [decide_eq_false h, if_neg (by decide)]
    unfold sgn
    rw [if_neg h]
    show Str.append _ _ = _
    simp [Str.append, Str.empty, Dl.st]
theorem ok_wtext (F : Fun K "_law_word_text" "_law_word_text" sWText f fd) (T : TM mg) : FnOk P w K mg base (L2.CX P w) 1 f fd ["word"] (spD K rWText) := by
  refine fn_D (k := 0) F scWText (fun ss μ r μ' h => by obtain ⟨L, s, _, rfl, _⟩ := h; rfl) ?_
  intro cdv A0 outer s0 H E N W ss μ r μ' g hA hR
  obtain ⟨L, s, h4, rfl, rfl, rfl⟩ := hR
  refine ⟨_, dss_ret (de_of (de_bin (de_bin de_str (de_callT (T := "int") (da_cons (de_cmp (de_ix (de_var 0) de_int (i_tup (i := 0) g rfl)) de_int o_lt) da_nil) c_intB T.int (by decide +kernel)) o_mulS) (de_ix (de_var 0) de_int (i_tup (i := 1) g rfl)) (o_addS ?_)) (congrArg D.str (sgn_made L s))), .rt⟩
  rw [st_len]
  split
  · show 1 + _ ≤ _
    exact size4 (by omega)
  · show 0 + _ ≤ _
    exact size4 (by omega)
end
/-! ### some of a row -/
structure SmT (α : Type) where
  p : Pot
  rest : List α
  found : List α
def smX {α : Type} (d : α) (t : SmT α) : SmT α := ⟨tkP t.p t.rest.length, t.rest.eraseIdx (tk t.p t.rest.length), t.found ++ [t.rest.getD (tk t.p t.rest.length) d]⟩
def iter {T : Type} (nx : T → T) : Nat → T → T
  | 0, t => t
  | n + 1, t => iter nx n (nx t)
def someF {α : Type} (d : α) (n : Nat) (p : Pot) (l : List α) : List α × Pot := ((iter (smX d) n ⟨p, l, []⟩).found, (iter (smX d) n ⟨p, l, []⟩).p)
def rSome : Rel := fun ss μ r μ' => ∃ (α : Type) (q : α → D) (d : α) (j : Nat) (p : Pot) (l : List α) (n : Nat), p.ok 8900 ∧ n ≤ l.length ∧ l.length ≤ 20 ∧ ss = [.l j, .p (.lst (l.map q)), .p (.int (n : Nat))] ∧ μ[j]? = some p.m ∧ r = .v (.p (.lst ((someF d n p l).1.map q))) ∧ μ' = μ.set j (someF d n p l).2.m
theorem sm_ok {α : Type} (d : α) : ∀ (n m : Nat) (t : SmT α), t.p.ok m → (iter (smX d) n t).p.ok (m + n)
  | 0, _, _, h => h
  | n + 1, m, t, h => (sm_ok d n (m + 1) (smX d t) (tkP_ok h)).mono (by omega)
theorem someF_ok {α : Type} {d : α} {n m : Nat} {p : Pot} {l : List α} (h : p.ok m) : (someF d n p l).2.ok (m + n) := sm_ok d n m ⟨p, l, []⟩ h
theorem erase_perm {α : Type} : ∀ (l : List α) (i : Nat) (h : i < l.length), (l[i] :: l.eraseIdx i).Perm l
  | a :: l, 0, _ => List.Perm.refl _
  | a :: l, i + 1, h => by
    have h' : i < l.length := by simpa using h
    have ih := erase_perm l i h'
    show (l[i] :: a :: l.eraseIdx i).Perm (a :: l)
    exact (List.Perm.swap a l[i] _).trans (List.Perm.cons a ih)
/-- what is drawn: as many, none twice, out of the row -/
theorem sm_sub {α : Type} (d : α) : ∀ (n : Nat) (t : SmT α), n ≤ t.rest.length → (t.found ++ t.rest).Nodup → (iter (smX d) n t).found.length = t.found.length + n ∧ ((iter (smX d) n t).found ++ (iter (smX d) n t).rest).Nodup ∧ ∀ x ∈ (iter (smX d) n t).found ++ (iter (smX d) n t).rest, x ∈ t.found ++ t.rest
  | 0, t, _, h => ⟨rfl, h, fun x hx => hx⟩
  | n + 1, t, hn, h => by
    have hi : tk t.p t.rest.length < t.rest.length := tk_lt (by omega)
    have hg : t.rest.getD (tk t.p t.rest.length) d = t.rest[tk t.p t.rest.length] := by rw [List.getD_eq_getElem?_getD, List.getElem?_eq_getElem hi]; rfl
    have hperm : ((smX d t).found ++ (smX d t).rest).Perm (t.found ++ t.rest) := by
      show ((t.found ++ [t.rest.getD (tk t.p t.rest.length) d]) ++ t.rest.eraseIdx (tk t.p t.rest.length)).Perm _
      rw [List.append_assoc, hg]
      refine List.Perm.append_left _ ?_
      exact erase_perm t.rest _ hi
    obtain ⟨h1, h2, h3⟩ := sm_sub d n (smX d t) (by show n ≤ (t.rest.eraseIdx _).length; rw [List.length_eraseIdx]; split <;> omega) (hperm.nodup_iff.mpr h)
    refine ⟨?_, h2, fun x hx => hperm.mem_iff.mp (h3 x hx)⟩
    show (iter (smX d) n (smX d t)).found.length = _
    rw [h1]
    show (t.found ++ [_]).length + n = _
    simp
    omega
theorem someF_is {α : Type} {d : α} {n : Nat} {p : Pot} {l : List α} (h : n ≤ l.length) (hd : l.Nodup) : (someF d n p l).1.length = n ∧ (someF d n p l).1.Nodup ∧ ∀ x ∈ (someF d n p l).1, x ∈ l := by
  obtain ⟨h1, h2, h3⟩ := sm_sub d n ⟨p, l, []⟩ h hd
  refine ⟨h1.trans (Nat.zero_add n), (List.nodup_append.mp h2).1, fun x hx => ?_⟩
  simpa using h3 x (List.mem_append_left _ hx)
def muS {α : Type} (q : α → D) (j : Nat) (μ0 : List M) (t : SmT α) : List M := μ0.set j t.p.m ++ [.lst (t.rest.map q), .lst (t.found.map q)]
section
variable {α : Type} {q : α → D} {j : Nat} {μ0 : List M} {x : M} {p p' : Pot} {r f r' f' : List α}
theorem ms_at (h : μ0[j]? = some x) : (muS q j μ0 ⟨p, r, f⟩)[j]? = some p.m := by
  have := (List.getElem?_eq_some_iff.mp h).1
  unfold muS
  rw [List.getElem?_append_left (by simpa using this)]
  exact set_at h
theorem ms_r : (muS q j μ0 ⟨p, r, f⟩)[μ0.length]? = some (.lst (r.map q)) := by
  unfold muS
  rw [List.getElem?_append_right (by simp)]
  simp
theorem ms_f : (muS q j μ0 ⟨p, r, f⟩)[μ0.length + 1]? = some (.lst (f.map q)) := by
  unfold muS
  rw [List.getElem?_append_right (by simp)]
  simp
theorem ms_set (h : μ0[j]? = some x) : (muS q j μ0 ⟨p, r, f⟩).set j p'.m = muS q j μ0 ⟨p', r, f⟩ := by
  have := (List.getElem?_eq_some_iff.mp h).1
  unfold muS
  rw [List.set_append_left _ _ (by simpa using this), List.set_set]
theorem ms_rset : (muS q j μ0 ⟨p, r, f⟩).set μ0.length (.lst (r'.map q)) = muS q j μ0 ⟨p, r', f⟩ := by
  unfold muS
  rw [List.set_append_right _ _ (by simp)]
  simp
theorem ms_fset : (muS q j μ0 ⟨p, r, f⟩).set (μ0.length + 1) (.lst (f'.map q)) = muS q j μ0 ⟨p, r, f'⟩ := by
  unfold muS
  rw [List.set_append_right _ _ (by simp)]
  simp
end
theorem map_erase {α : Type} (q : α → D) : ∀ (l : List α) (i : Nat), (l.map q).eraseIdx i = (l.eraseIdx i).map q
  | [], _ => rfl
  | _ :: _, 0 => rfl
  | n :: l, i + 1 => congrArg (q n :: ·) (map_erase q l i)
section
variable {X : Cx} {N : En} {W : WX} {f : As} {body : List Stmt}
theorem loop_st {T : Type} {mu : T → List M} {nx : T → T} (I : Nat → T → Prop) (Δ : T → List (Option S) → Prop)
    (h : ∀ k t d δ, Δ t δ → I (k + 1) t → I k (nx t) ∧ ∃ δt δ1, f d δ = some δt ∧ DSs X N W δt (mu t) body (.nx δ1 (mu (nx t))) ∧ Δ (nx t) δ1) :
    ∀ (ds : List D) (δ : List (Option S)) (t : T), Δ t δ → I ds.length t → ∃ δ', Loop X N W f body ds δ (mu t) (.nx δ' (mu (iter nx ds.length t))) ∧ Δ (iter nx ds.length t) δ' ∧ I 0 (iter nx ds.length t)
  | [], δ, t, h0, hi => ⟨δ, .nil, h0, hi⟩
  | d :: ds, δ, t, h0, hi => by
    obtain ⟨h1, δt, δ1, h2, h3, h4⟩ := h ds.length t d δ h0 hi
    obtain ⟨δ', h5, h6, h7⟩ := loop_st I Δ h ds δ1 (nx t) h4 h1
    exact ⟨δ', .next h2 h3 h5, h6, h7⟩
end
section
variable {P : Program} {w : World} {K : PySem.W.Frag} {mg : Str → Option Value} {base : Heap} {f C : Addr} {fd : FuncData}
theorem ok_some (F : Fun K "_law_some" "_law_some" sSome f fd) (T : TM mg) (ct : Cf P w K mg base 1 "_law_take" [] rTk) : FnOk P w K mg base (L2.CX P w) 2 f fd ["pot", "pool", "many"] (spD K rSome) := by
  refine fn_D (k := 1) F scSome (fun ss μ r μ' h => by obtain ⟨_, _, _, _, _, _, _, _, _, _, rfl, _⟩ := h; rfl) ?_
  intro cdv A0 outer s0 H E N W ss μ r μ' g hA hR
  obtain ⟨α, q, dd, j, p0, ns, n, hp, hn, h10, rfl, hj, rfl, rfl⟩ := hR
  have hone : ∀ k t d δ, (∃ x5, δ = [some (.l j), some (.p (.lst (ns.map q))), some (.p (.int (n : Nat))), some (.l μ.length), some (.l (μ.length + 1)), x5]) → (t.p.ok (8950 - (k + 1)) ∧ k + 1 ≤ t.rest.length ∧ t.rest.length ≤ 20 ∧ t.found.length ≤ 30 - (k + 1) ∧ k + 1 ≤ 20) → (((smX dd t).p.ok (8950 - k) ∧ k ≤ (smX dd t).rest.length ∧ (smX dd t).rest.length ≤ 20 ∧ (smX dd t).found.length ≤ 30 - k ∧ k ≤ 20)) ∧
      ∃ δt δ1, (asName 5) d δ = some δt ∧ DSs (cxOf (L2.CX P w) P w K mg base ["pot", "pool", "many", "rest", "found", "lap"] "_law_some" (defScope sSome) f cdv A0 outer s0 H E) N W δt (muS q j μ t) (bodyOf sSome 1) (.nx δ1 (muS q j μ (smX dd t))) ∧ (∃ x5, δ1 = [some (.l j), some (.p (.lst (ns.map q))), some (.p (.int (n : Nat))), some (.l μ.length), some (.l (μ.length + 1)), x5]) := by
    rintro k ⟨p, rs, fo⟩ d _ ⟨x5, rfl⟩ ⟨ok, hk, h10', hf, hk10⟩
    simp only at ok hk h10' hf
    have hi : tk p rs.length < rs.length := tk_lt (by omega)
    have lr : (rs.map q).length = rs.length := List.length_map ..
    have hx : (rs.map q)[tk p rs.length]? = some (q (rs.getD (tk p rs.length) dd)) := by
      rw [List.getElem?_map, List.getElem?_eq_getElem hi, List.getD_eq_getElem?_getD, List.getElem?_eq_getElem hi]
      rfl
    refine ⟨⟨(tkP_ok ok).mono (by omega), ?_, ?_, ?_, by omega⟩, _, _, rfl, dss_cons (ds_expr (de_bm PySem.F.plainAttrs_list PySem.F.slot_list_append PySem.F.type_list_append (de_var 4) (da_cons
        (de_bm PySem.F.plainAttrs_list PySem.F.slot_list_pop PySem.F.type_list_pop (de_var 3) (da_cons (de_call g ct (da_cons (de_var 0) (da_cons (de_of (de_callB (id := "len") (da_cons (de_var 3) da_nil) (c_lenM ms_r) T.len (by decide +kernel)) (by rw [lr])) da_nil)) ⟨j, p, rs.length, ok.mono (by omega), by omega, by omega, rfl, ms_at hj, rfl, (ms_set hj).symm⟩) da_nil)
          (m_popAt (q := tk p rs.length) ms_r ms_r (by omega) (by rw [lr, seqIndex_of (by omega) (by omega), Int.toNat_natCast]) hx)) da_nil)
        (m_append ms_f (by rw [map_erase, ms_rset]; exact ms_f) (by rw [List.length_map]; exact size4' (by omega))))) (cn (Eq.mp (congrArg (fun ν => DSs _ N W _ ν [] _) ?_) dss_nil)), _, rfl⟩
    · show k ≤ (rs.eraseIdx _).length
      rw [List.length_eraseIdx]
      split <;> omega
    · show (rs.eraseIdx _).length ≤ 20
      rw [List.length_eraseIdx]
      split <;> omega
    · show (fo ++ [_]).length ≤ _
      rw [List.length_append]
      show fo.length + 1 ≤ _
      omega
    · rw [map_erase, ms_rset, show fo.map q ++ [q (rs.getD (tk p rs.length) dd)] = (fo ++ [rs.getD (tk p rs.length) dd]).map q by simp, ms_fset]
      rfl
  have e0 : muS q j μ ⟨p0, ns, []⟩ = (μ ++ [.lst (ns.map q)]) ++ [.lst []] := by
    unfold muS
    rw [set_self hj, List.append_assoc]
    rfl
  have er : (rangeD 0 n).length = n := by simp [rangeD]
  obtain ⟨δ', hl, ⟨x5, rfl⟩, hI⟩ := loop_st (X := cxOf (L2.CX P w) P w K mg base ["pot", "pool", "many", "rest", "found", "lap"] "_law_some" (defScope sSome) f cdv A0 outer s0 H E) (N := N) (W := W) (f := asName 5) (body := bodyOf sSome 1) (T := SmT α) (mu := muS q j μ) (nx := smX dd)
    (fun k t => t.p.ok (8950 - k) ∧ k ≤ t.rest.length ∧ t.rest.length ≤ 20 ∧ t.found.length ≤ 30 - k ∧ k ≤ 20) (fun t δ => ∃ x5, δ = [some (.l j), some (.p (.lst (ns.map q))), some (.p (.int (n : Nat))), some (.l μ.length), some (.l (μ.length + 1)), x5]) hone (rangeD 0 n) [some (.l j), some (.p (.lst (ns.map q))), some (.p (.int (n : Nat))), some (.l μ.length), some (.l (μ.length + 1)), none] ⟨p0, ns, []⟩ ⟨_, rfl⟩
    (by
      rw [er]
      exact ⟨hp.mono (by omega), hn, h10, by show 0 ≤ _; omega, by omega⟩)
  rw [er] at hl
  rw [e0] at hl
  have lenF : (μ ++ [M.lst (ns.map q)]).length = μ.length + 1 := by simp
  have hfin : ∀ t : SmT α, (muS q j μ t).set (μ.length + 1) .gone = μ.set j t.p.m ++ [.lst (t.rest.map q), .gone] := fun t => by
    unfold muS
    rw [List.set_append_right _ _ (by simp)]
    simp
  refine ⟨_, dss_cons (ds_par 3 4 g (da_cons (de_callT (T := "list") (da_cons (de_var 1) da_nil) c_listM T.list (by decide +kernel)) (da_cons (de_lstM dp_nil) da_nil))) (cn
    (dss_cons (ds_for g (di_range1 (da_cons (s := .p (.int (n : Nat))) (de_of (de_callB (id := "min") (da_cons (de_var 2) (da_cons (de_callB (id := "len") (da_cons (de_var 3) da_nil) (c_lenM (ds := ns.map q) (by rw [← e0]; exact ms_r)) T.len (by decide +kernel)) da_nil)) (c_min2 g) T.min (by decide +kernel)) (congrArg D.int (by rw [List.length_map]; split <;> omega))) da_nil) T.range (by omega)) (dg_name 5 g.nd) (by rw [lenF]; exact hl)) (cn
    (dss_freeze ms_f (by omega) 4 rfl (dss_ret (de_var 4)))))), ?_⟩
  rw [hfin]
  have e2 : (μ.set j (someF dd n p0 ns).2.m ++ [M.lst ((iter (smX dd) n ⟨p0, ns, []⟩).rest.map q), M.gone]).take μ.length = μ.set j (someF dd n p0 ns).2.m := by
    rw [List.take_append_of_le_length (by simp), List.take_of_length_le (by simp)]
  conv => rhs; rw [← e2]
  exact .rtT (Nat.le_refl _)
end
end K62
set_option Elab.async false
set_option linter.all false
set_option maxRecDepth 100000
set_option maxHeartbeats 4000000
set_option autoImplicit false
namespace K62
open PySem PySem.Spec PyProof.Rows L2 Dl Cq
/-! ### a drawn word -/
def IIXYZ : List Nat := [73, 73, 88, 89, 90]
def XYZ : List Nat := [88, 89, 90]
def ltrs (n : Nat) (p : Pot) : List Nat := scanO (fun _ p => IIXYZ.getD (tk p 5) 0) (fun _ p => tkP p 5) (List.range n) p
def ltrsP (n : Nat) (p : Pot) : Pot := scanT (fun _ p => tkP p 5) (List.range n) p
def dwL (n : Nat) (p : Pot) : List Nat := if ltrs n p = List.replicate n 73 then (ltrs n p).set (tk (tkP (ltrsP n p) 3) n) (XYZ.getD (tk (ltrsP n p) 3) 0) else ltrs n p
def dwQ (n : Nat) (p : Pot) : Pot := if ltrs n p = List.replicate n 73 then tkP (tkP (ltrsP n p) 3) n else ltrsP n p
def dwS (n : Nat) (p : Pot) : Int := ([1, 1, -1] : List Int).getD (tk (dwQ n p) 3) 1
def dwP (n : Nat) (p : Pot) : Pot := tkP (dwQ n p) 3
theorem scanT_ok {α : Type} (u : Nat) : ∀ (l : List α) (m : Nat) (p : Pot), p.ok m → (scanT (fun _ p => tkP p u) l p).ok (m + l.length)
  | [], _, _, h => h
  | a :: l, m, p, h => (scanT_ok u l (m + 1) _ (tkP_ok h)).mono (by simp; omega)
theorem ltrsP_ok {n m : Nat} {p : Pot} (h : p.ok m) : (ltrsP n p).ok (m + n) := by
  have := scanT_ok 5 (List.range n) m p h
  rw [List.length_range] at this
  exact this
theorem dwQ_ok {n m : Nat} {p : Pot} (h : p.ok m) : (dwQ n p).ok (m + n + 2) := by
  unfold dwQ
  split
  · exact tkP_ok (tkP_ok (ltrsP_ok h))
  · exact (ltrsP_ok h).mono (by omega)
theorem dwP_ok {n m : Nat} {p : Pot} (h : p.ok m) : (dwP n p).ok (m + n + 3) := tkP_ok (dwQ_ok h)
theorem getD_in {α : Type} {q : α → Prop} : ∀ {l : List α} {i : Nat} {d : α}, (∀ x ∈ l, q x) → i < l.length → q (l.getD i d)
  | x :: l, 0, d, h, _ => h x (by simp)
  | x :: l, i + 1, d, h, hi => getD_in (l := l) (fun y hy => h y (by simp [hy])) (by simpa using hi)
theorem ltrs_in (n : Nat) (p : Pot) : ∀ c ∈ ltrs n p, c ∈ IXYZ := by
  refine scanO_all (P := fun c => c ∈ IXYZ) (fun _ => True) (fun _ _ _ => trivial) (fun _ t _ => ?_) _ p trivial
  have : ∀ x ∈ IIXYZ, x ∈ IXYZ := by decide
  exact getD_in this (tk_lt (by decide))
theorem ltrs_len (n : Nat) (p : Pot) : (ltrs n p).length = n := by
  unfold ltrs
  rw [scanO_len, List.length_range]
theorem xyz_in (p : Pot) : XYZ.getD (tk p 3) 0 ∈ [88, 89, 90] := getD_in (q := fun c => c ∈ [88, 89, 90]) (l := XYZ) (by decide) (tk_lt (by decide))
theorem dw_is {n : Nat} {p : Pot} (h1 : 1 ≤ n) (h4 : n ≤ 4) : okWd n (dwS n p) (dwL n p) := by
  have hx := xyz_in (ltrsP n p)
  have hx1 : XYZ.getD (tk (ltrsP n p) 3) 0 ∈ IXYZ := by
    have : ∀ c ∈ [88, 89, 90], c ∈ IXYZ := by decide
    exact this _ hx
  have hx2 : XYZ.getD (tk (ltrsP n p) 3) 0 ≠ 73 := by
    intro e
    rw [e] at hx
    simp at hx
  have hl : (dwL n p).length = n := by
    unfold dwL
    split
    · rw [List.length_set, ltrs_len]
    · exact ltrs_len n p
  refine ⟨⟨by omega, by omega, fun c hc => ?_⟩, ?_, hl, ?_⟩
  · unfold dwL at hc
    split at hc
    · rcases List.mem_or_eq_of_mem_set hc with hc | rfl
      · exact ltrs_in n p c hc
      · exact hx1
    · exact ltrs_in n p c hc
  · have : ∀ x ∈ ([1, 1, -1] : List Int), x = 1 ∨ x = -1 := by decide
    exact getD_in this (tk_lt (by decide))
  · unfold dwL
    split
    · intro e
      have hi : tk (tkP (ltrsP n p) 3) n < (ltrs n p).length := by rw [ltrs_len]; exact tk_lt h1
      have := congrArg (fun l => l[tk (tkP (ltrsP n p) 3) n]?) e
      simp only [List.getElem?_set_self hi] at this
      rw [List.getElem?_replicate, if_pos (tk_lt h1)] at this
      exact hx2 (Option.some.inj this)
    · rename_i h
      exact h
def rDWord : Rel := fun ss μ r μ' => ∃ (j : Nat) (p : Pot) (n : Nat), p.ok 8900 ∧ 1 ≤ n ∧ n ≤ 4 ∧ ss = [.l j, .p (.int (n : Nat))] ∧ μ[j]? = some p.m ∧ r = .v (.p (tupW (dwL n p) (dwS n p))) ∧ μ' = μ.set j (dwP n p).m
/-! ### a list of signs beside another -/
abbrev chD (c : Nat) : D := .str ⟨#[c]⟩
abbrev chPy (c : Nat) : PyData := .str ⟨#[c]⟩
theorem ch_pys : ∀ L : List Nat, PyDs (L.map chD) (L.map chPy)
  | [] => .nil
  | c :: L => .cons (.str _) (ch_pys L)
theorem ch_eqv : ∀ L M : List Nat, PyData.eqvAll (L.map chPy) (M.map chPy) = decide (L = M)
  | [], [] => rfl
  | [], _ :: _ => rfl
  | _ :: _, [] => rfl
  | a :: L, b :: M => by
    rw [List.map_cons, List.map_cons, PyData.eqvAll, ch_eqv L M, PyData.eqv]
    have e : ((⟨#[a]⟩ : Str) == (⟨#[b]⟩ : Str)) = decide (a = b) := by
      by_cases h : a = b
      · subst h; simp
      · have : (⟨#[a]⟩ : Str) ≠ ⟨#[b]⟩ := fun z => h (by injection z with z; simpa using z)
        simp [h, this]
    rw [e]
    by_cases h : a = b <;> by_cases h2 : L = M <;> simp [h, h2]
theorem ch_lay : ∀ {L : List Nat}, (∀ c ∈ L, c < 1000) → PyData.canLayAll0 (L.map chPy) = true
  | [], _ => rfl
  | c :: L, h => by
    rw [List.map_cons]
    simp only [PyData.canLayAll0, PyData.canLay0, Bool.and_eq_true]
    refine ⟨?_, ch_lay fun x hx => h x (by simp [hx])⟩
    have := h c (by simp)
    show (#[c] : Array Nat).all (· < 0x110000) = true
    simp
    omega
theorem ch_depth : ∀ L : List Nat, PyData.depthAll (L.map chPy) = 0
  | [] => rfl
  | c :: L => by
    rw [List.map_cons]
    simp only [PyData.depthAll, PyData.depth, ch_depth L]
    rfl
theorem ch_shaped {L : List Nat} (h : ∀ c ∈ L, c < 1000) : SeqAt.shaped (.list (L.map chPy)) = true := by
  unfold SeqAt.shaped
  have e1 : (PyData.list (L.map chPy)).canLay0 = true := by
    rw [PyData.canLay0]
    exact ch_lay h
  have e2 : (PyData.list (L.map chPy)).depth ≤ 64 := by
    rw [PyData.depth, ch_depth]
    decide
  rw [e1, decide_eq_true e2]
  rfl
theorem rep_I : ∀ n : Nat, (List.replicate n [D.str (Str.ofString "I")]).flatten = (List.replicate n 73).map chD
  | 0 => rfl
  | n + 1 => by
    rw [List.replicate_succ, List.flatten_cons, rep_I n]
    rfl
theorem IXYZ_lt {c : Nat} (h : c ∈ IXYZ) : c < 1000 := by rcases in_IXYZ h with rfl | rfl | rfl | rfl <;> decide
theorem pj {μ : List M} {j : Nat} {m x y : M} (h : μ[j]? = some m) : (μ.set j x ++ [y])[j]? = some x := by
  have := (List.getElem?_eq_some_iff.mp h).1
  rw [List.getElem?_append_left (by simpa using this)]
  exact set_at h
theorem pjs {μ : List M} {j : Nat} {m x x' y : M} (h : μ[j]? = some m) : (μ.set j x ++ [y]).set j x' = μ.set j x' ++ [y] := by
  have := (List.getElem?_eq_some_iff.mp h).1
  rw [List.set_append_left _ _ (by simpa using this), List.set_set]
theorem join_ch (L : List Nat) : Txt.join (Str.ofString "") (L.map fun c => (⟨#[c]⟩ : Str)) = st L := by
  rw [show (L.map fun c => (⟨#[c]⟩ : Str)) = (L.map fun c => [c]).map st by rw [List.map_map]; rfl, show Txt.join (Str.ofString "") ((L.map fun c => [c]).map st) = st (TL.joinL [] (L.map fun c => [c])) from SX.join_S [] _]
  congr 1
  induction L with
  | nil => rfl
  | cons a L ih =>
    cases L with
    | nil => rfl
    | cons b L =>
      show [a] ++ ([] ++ TL.joinL [] ((b :: L).map fun c => [c])) = _
      rw [ih]
      rfl
theorem cmp_start {P : List (Option S) → List M → Option D → List M → Prop} {f : As} {δ : List (Option S)} {ds ys : List D} {μ μ' μ2 : List M} (e : μ = μ') (h : CmpL P f δ ds μ' ys μ2) : CmpL P f δ ds μ ys μ2 := e ▸ h
abbrev dwN : List Str := ["pot", "wires", "letters", "wire"]
section
variable {P : Program} {w : World} {K : PySem.W.Frag} {mg : Str → Option Value} {base : Heap} {f C : Addr} {fd : FuncData}
theorem ok_dword (F : Fun K "_law_drawn_word" "_law_drawn_word" sDWord f fd) (T : TM mg) (ct : Cf P w K mg base 1 "_law_take" [] rTk) (co : Cf P w K mg base 2 "_law_of" [] rOf) : FnOk P w K mg base (L2.CX P w) 3 f fd ["pot", "wires"] (spD K rDWord) := by
  refine fn_D (k := 2) F scDWord (fun ss μ r μ' h => by obtain ⟨_, _, _, _, _, _, rfl, _⟩ := h; rfl) ?_
  intro cdv A0 outer s0 H E N W ss μ r μ' g hA hR
  obtain ⟨j, p, n, hp, h1, h4, rfl, hj, rfl, rfl⟩ := hR
  have hlp : (ltrsP n p).ok 8904 := (ltrsP_ok hp).mono (by omega)
  have hll := ltrs_len n p
  have hlen := (dw_is (p := p) h1 h4).len
  have lc : DS (cxOf (L2.CX P w) P w K mg base dwN "_law_drawn_word" (defScope sDWord) f cdv A0 outer s0 H E) N W (starts dwN [.l j, .p (.int (n : Nat))]) μ ((defBody sDWord).getD 0 (.Pass ⟨0, 0, 0, 0⟩)) (.nx ((starts dwN [.l j, .p (.int (n : Nat))]).set 2 (some (.l μ.length))) (μ.set j (ltrsP n p).m ++ [.lst ((ltrs n p).map chD)])) := by
    have e : (.l μ.length : S) = .l (μ.set j (ltrsP n p).m).length := by rw [List.length_set]
    rw [e]
    refine ds_setLcM 2 g [("wire", 3)] (di_range1 (da_cons (de_var 1) da_nil) T.range (by omega)) (fun s H C cl fp => dg_name 3 g.nd) ?_ (ok := blkOk_by (by rfl)) (hds := ?_)
    · have e0 : μ = μ.set j p.m := (set_self hj).symm
      refine cmp_start e0 ?_
      rw [← show scanO (fun (_ : Nat) p => chD (IIXYZ.getD (tk p 5) 0)) (fun _ p => tkP p 5) (List.range n) p = (ltrs n p).map chD from scanO_map chD _ _ _ _]
      exact of_scan (T := Pot) (mu := fun t => μ.set j t.m) (fun m t => m ≤ 4 ∧ t.ok (8950 - m)) (List.range n) p ⟨by simpa using h4, hp.mono (by simp; omega)⟩ fun m t a _ hi => ⟨⟨by omega, (tkP_ok hi.2).mono (by omega)⟩, _, rfl, fun s H C cl fp N' hK g' => de_call g' co (da_cons (de_var 0) (da_cons de_str da_nil)) ⟨j, t, hi.2.mono (by omega), set_at hj, .inr ⟨IIXYZ, by decide, by decide, rfl, rfl, (List.set_set ..).symm⟩⟩⟩
    · rw [rangeD, List.length_map, List.length_range]
      exact sz' (by omega)
  have cmp : DT (cxOf (L2.CX P w) P w K mg base dwN "_law_drawn_word" (defScope sDWord) f cdv A0 outer s0 H E) N W ((starts dwN [.l j, .p (.int (n : Nat))]).set 2 (some (.l μ.length))) (μ.set j (ltrsP n p).m ++ [.lst ((ltrs n p).map chD)]) (match (defBody sDWord).getD 1 (.Pass ⟨0, 0, 0, 0⟩) with | .If c _ _ _ => c | _ => .Constant .none 0 ⟨0, 0, 0, 0⟩) (decide (ltrs n p = List.replicate n 73)) (μ.set j (ltrsP n p).m ++ [.lst ((ltrs n p).map chD)]) :=
    dt_cmp (de_var 2) (de_of (d' := .lst ((List.replicate n 73).map chD)) (de_bin (de_lst (dp_cons de_str dp_nil) (sz (by show 1 ≤ 100000; decide))) (de_var 1) (o_timesL (by omega) (by omega) (by show 1 * _ ≤ _; exact sz (by omega)))) (by rw [Int.toNat_natCast, rep_I])) (o_eqM g (end_at (by rw [List.length_set])) (.lst (ch_pys _)) (.lst (ch_pys _)) (ch_shaped fun c hc => IXYZ_lt (ltrs_in n p c hc)) (ch_shaped fun c hc => by rw [(List.mem_replicate.mp hc).2]; decide) (by rw [PyData.eqv, ch_eqv]))
  have fin : ∀ (L : List Nat) (q : Pot), L.length = n → q.ok 8950 → ∃ o, DSs (cxOf (L2.CX P w) P w K mg base dwN "_law_drawn_word" (defScope sDWord) f cdv A0 outer s0 H E) N W ((starts dwN [.l j, .p (.int (n : Nat))]).set 2 (some (.l μ.length))) (μ.set j q.m ++ [.lst (L.map chD)]) ((defBody sDWord).drop 2) o ∧ Fit μ.length o (.v (.p (tupW L (([1, 1, -1] : List Int).getD (tk q 3) 1)))) (μ.set j (tkP q 3).m) := by
    intro L q hL hq
    refine ⟨_, dss_freeze (end_at (by rw [List.length_set])) (by omega) 2 rfl (dss_ret (de_tup (dp_cons (de_call (r := .v (.p (.int (([1, 1, -1] : List Int).getD (tk q 3) 1)))) g co (da_cons (de_var 0) (da_cons (s := .p (.lst (([1, 1, -1] : List Int).map D.int))) (de_lst (dp_cons de_int (dp_cons de_int (dp_cons (de_un de_int u_neg) dp_nil)))) da_nil)) ⟨j, q, hq.mono (by omega), by rw [end_set (by rw [List.length_set])]; exact pj hj, .inl ⟨Int, D.int, 1, [1, 1, -1], by simp, by decide, rfl, rfl, rfl⟩⟩) (dp_cons (de_of (d' := .str (st L)) (de_bm PySem.F.plainAttrs_str PySem.F.slot_str_join PySem.F.type_str_join de_str (da_cons (s := .p (.lst ((L.map fun c => (⟨#[c]⟩ : Str)).map D.str))) (de_of (de_var 2) (by rw [List.map_map]; rfl)) da_nil) (m_join ?hj)) (congrArg D.str (join_ch L))) dp_nil)))), ?_⟩
    case hj =>
      rw [List.map_map]
      have e : (L.map (Str.length ∘ fun c => (⟨#[c]⟩ : Str))) = L.map fun _ => 1 := rfl
      rw [e]
      have e2 : ∀ M : List Nat, (M.map fun _ => 1).sum = M.length := fun M => by
        induction M with
        | nil => rfl
        | cons a M ih => rw [List.map_cons, List.sum_cons, ih, List.length_cons]; omega
      rw [e2, List.length_map, show (Str.ofString "").length = 0 from rfl]
      omega
    · rw [end_set (by rw [List.length_set]), pjs hj]
      have e2 : (μ.set j (tkP q 3).m ++ [M.gone]).take μ.length = μ.set j (tkP q 3).m := by
        rw [List.take_append_of_le_length (by simp), List.take_of_length_le (by simp)]
      conv => rhs; rw [← e2]
      exact .rtT (Nat.le_refl _)
  by_cases hI : ltrs n p = List.replicate n 73
  · have eL : dwL n p = (ltrs n p).set (tk (tkP (ltrsP n p) 3) n) (XYZ.getD (tk (ltrsP n p) 3) 0) := if_pos hI
    have eQ : dwQ n p = tkP (tkP (ltrsP n p) 3) n := if_pos hI
    obtain ⟨o, ho1, ho2⟩ := fin (dwL n p) (dwQ n p) hlen ((dwQ_ok hp).mono (by omega))
    refine ⟨o, dss_cons lc (cn (dss_ifT (dt_of cmp (decide_eq_true hI)) (dss_cons (ds_setI (de_call (r := .v (.p (chD (XYZ.getD (tk (ltrsP n p) 3) 0)))) g co (da_cons (de_var 0) (da_cons de_str da_nil)) ⟨j, ltrsP n p, hlp.mono (by omega), pj hj, .inr ⟨XYZ, by decide, by decide, rfl, rfl, rfl⟩⟩) (de_var 2) (de_call g ct (da_cons (de_var 0) (da_cons (de_var 1) da_nil)) ⟨j, tkP (ltrsP n p) 3, n, (tkP_ok hlp).mono (by omega), by omega, by omega, rfl, by rw [pjs hj]; exact pj hj, rfl, rfl⟩) (q := μ.length) (ds := (ltrs n p).map chD) (k := tk (tkP (ltrsP n p) 3) n) ?a1 ?a2) (cn dss_nil)) (cn ?a3))), ho2⟩
    case a1 =>
      rw [show XYZ.length = 3 from rfl, pjs hj, pjs hj]
      exact end_at (by rw [List.length_set])
    case a2 =>
      rw [List.length_map, hll]
      have := tk_lt (p := tkP (ltrsP n p) 3) (u := n) (by omega)
      unfold ixN
      simp
      omega
    case a3 =>
      rw [show XYZ.length = 3 from rfl, pjs hj, pjs hj, end_set (by rw [List.length_set]), ← List.map_set, ← eL, ← eQ]
      exact ho1
  · have eL : dwL n p = ltrs n p := if_neg hI
    have eQ : dwQ n p = ltrsP n p := if_neg hI
    obtain ⟨o, ho1, ho2⟩ := fin (dwL n p) (dwQ n p) hlen ((dwQ_ok hp).mono (by omega))
    rw [eL, eQ] at ho1
    exact ⟨o, dss_cons lc (cn (dss_skip (dt_of cmp (decide_eq_false hI)) ho1)), ho2⟩
end
end K62
set_option Elab.async false
set_option linter.all false
set_option maxRecDepth 100000
set_option maxHeartbeats 4000000
set_option autoImplicit false
namespace K62
open PySem PySem.Spec PyProof.Rows L2 Dl Cq
def prD (p : List Nat × Int) : D := .tup [.str (st p.1), .int p.2]
def lnD : Ln → D
  | .ab q s L => .tup [.str (st (if q = true then wQuarter else wFlip)), tupW L s]
  | .h a => .tup [.str (st [104]), .int (a : Nat)]
  | .pr k a b => .tup [.str (st (pn k)), .int (a : Nat), .int (b : Nat)]
  | .tn s L ps => .tup [.str (st wTurn), tupW L s, .tup (ps.map prD)]
theorem scGate : FnScope ["pot", "wires", "way"] ["pot", "wires"] (defScope sGate) := ⟨rfl, rfl, rfl, by decide +kernel, rfl, by decide +kernel, by decide +kernel⟩
/-! ### a drawn fixed line -/
def gU (n : Nat) : Nat := if 1 < n then 6 else 3
abbrev inD (a : Nat) : D := .int (a : Nat)
def gateS (n : Nat) (p : Pot) : List Nat × Pot := someF 0 2 (tkP p (gU n)) (List.range n)
def gateF (n : Nat) (p : Pot) : Ln :=
  if tk p (gU n) < 2 then .ab (tk p (gU n) == 1) (dwS n (tkP p (gU n))) (dwL n (tkP p (gU n)))
  else if tk p (gU n) = 2 then .h (tk (tkP p (gU n)) n)
  else .pr (tk p (gU n) - 3) ((gateS n p).1.getD 0 0) ((gateS n p).1.getD 1 0)
def gateP (n : Nat) (p : Pot) : Pot :=
  if tk p (gU n) < 2 then dwP n (tkP p (gU n)) else if tk p (gU n) = 2 then tkP (tkP p (gU n)) n else (gateS n p).2
theorem gU_pos (n : Nat) : 0 < gU n ∧ gU n < 1000 := by
  unfold gU
  split <;> exact ⟨by decide, by decide⟩
theorem gateP_ok {n m : Nat} {p : Pot} (h4 : n ≤ 4) (h : p.ok m) : (gateP n p).ok (m + 8) := by
  unfold gateP
  split
  · exact (dwP_ok (tkP_ok h)).mono (by omega)
  · split
    · exact (tkP_ok (tkP_ok h)).mono (by omega)
    · exact (someF_ok (tkP_ok h)).mono (by omega)
theorem gate_two {n : Nat} {p : Pot} (h : ¬ tk p (gU n) < 2) (h2 : ¬ tk p (gU n) = 2) : 2 ≤ n ∧ tk p (gU n) < 6 := by
  have h3 := tk_lt (p := p) (gU_pos n).1
  by_cases hn : 1 < n
  · rw [show gU n = 6 from if_pos hn] at h h2 h3 ⊢
    omega
  · rw [show gU n = 3 from if_neg hn] at h h2 h3 ⊢
    omega
theorem len2 {α : Type} {q : α → D} {d : α} : ∀ {l : List α}, l.length = 2 → l.map q = [q (l.getD 0 d), q (l.getD 1 d)]
  | [a, b], _ => rfl
theorem gate_is {n : Nat} {p : Pot} (h1 : 1 ≤ n) (h4 : n ≤ 4) : okLn n (gateF n p) := by
  unfold gateF
  split
  · exact dw_is h1 h4
  · split
    · exact tk_lt h1
    · rename_i ha hb
      obtain ⟨h2, h6⟩ := gate_two ha hb
      obtain ⟨l1, l2, l3⟩ := someF_is (d := 0) (n := 2) (p := tkP p (gU n)) (l := List.range n) (by rw [List.length_range]; exact h2) List.nodup_range
      unfold gateS
      match hl : (someF 0 2 (tkP p (gU n)) (List.range n)).1, l1, l2, l3 with
      | [a, b], _, l2, l3 =>
        have e1 := List.mem_range.mp (l3 a (by simp))
        have e2 := List.mem_range.mp (l3 b (by simp))
        refine ⟨by omega, e1, e2, ?_⟩
        simp at l2
        exact l2
theorem gate_isT (n : Nat) (p : Pot) : isT (gateF n p) = false := by
  unfold gateF
  split
  · rfl
  · split <;> rfl
def rGate : Rel := fun ss μ r μ' => ∃ (j : Nat) (p : Pot) (n : Nat), p.ok 8880 ∧ 1 ≤ n ∧ n ≤ 4 ∧ ss = [.l j, .p (.int (n : Nat))] ∧ μ[j]? = some p.m ∧ r = .v (.p (lnD (gateF n p))) ∧ μ' = μ.set j (gateP n p).m
theorem at_gate : ∀ k : Nat, k < 2 → atI [D.str (Str.ofString "flip"), D.str (Str.ofString "quarter")] (k : Int) = some (.str (st (if (k == 1) = true then wQuarter else wFlip)))
  | 0, _ => rfl
  | 1, _ => rfl
theorem at_pair : ∀ k : Nat, k < 6 → 3 ≤ k → atI [D.str (Str.ofString "cz"), D.str (Str.ofString "cx"), D.str (Str.ofString "swap")] ((k : Int) - 3) = some (.str (st (pn (k - 3))))
  | 3, _, _ => rfl
  | 4, _, _ => rfl
  | 5, _, _ => rfl
theorem rng_in (n : Nat) : rangeD 0 n = (List.range n).map inD := by
  unfold rangeD inD
  exact List.map_congr_left fun i _ => by simp
section
variable {P : Program} {w : World} {K : PySem.W.Frag} {mg : Str → Option Value} {base : Heap} {f C : Addr} {fd : FuncData} {CC : Addr}
theorem ok_gate (F : Fun K "_law_gate" "_law_gate" sGate f fd) (T : TM mg) (ct : Cf P w K mg base 1 "_law_take" [] rTk) (cd : Cf P w K mg base 3 "_law_drawn_word" [] rDWord) (cs : Cf P w K mg base 2 "_law_some" [] rSome) : FnOk P w K mg base (L2.CX P w) 4 f fd ["pot", "wires"] (spD K rGate) := by
  refine fn_D (k := 3) F scGate (fun ss μ r μ' h => by obtain ⟨_, _, _, _, _, _, rfl, _⟩ := h; rfl) ?_
  intro cdv A0 outer s0 H E N W ss μ r μ' g hA hR
  obtain ⟨j, p, n, hp, h1, h4, rfl, hj, rfl, rfl⟩ := hR
  have lg := gU_pos n
  have hk := tk_lt (p := p) lg.1
  have hway : DS (cxOf (L2.CX P w) P w K mg base ["pot", "wires", "way"] "_law_gate" (defScope sGate) f cdv A0 outer s0 H E) N W (starts ["pot", "wires", "way"] [.l j, .p (.int (n : Nat))]) μ ((defBody sGate).getD 0 (.Pass ⟨0, 0, 0, 0⟩)) (.nx ((starts ["pot", "wires", "way"] [.l j, .p (.int (n : Nat))]).set 2 (some (.p (.int (tk p (gU n) : Nat))))) (μ.set j (tkP p (gU n)).m)) :=
    ds_set 2 (de_call g ct (da_cons (de_var 0) (da_cons (de_if (r := .v (.p (.int (gU n : Nat)))) (k := decide (1 < n)) (dt_of (dt_cmp (de_var 1) de_int o_gt) (decide_eq_decide.mpr (by omega))) (fun h => de_of de_int (congrArg D.int (by unfold gU; rw [if_pos (of_decide_eq_true h)]; rfl))) (fun h => de_of de_int (congrArg D.int (by unfold gU; rw [if_neg (of_decide_eq_false h)]; rfl)))) da_nil)) ⟨j, p, gU n, hp.mono (by omega), lg.1, lg.2, rfl, hj, rfl, rfl⟩) g.nd
  by_cases ha : tk p (gU n) < 2
  · have e1 : gateF n p = .ab (tk p (gU n) == 1) (dwS n (tkP p (gU n))) (dwL n (tkP p (gU n))) := if_pos ha
    have e2 : gateP n p = dwP n (tkP p (gU n)) := if_pos ha
    rw [e1, e2]
    exact ⟨_, dss_cons hway (cn (dss_ifT (dt_of (dt_cmp (de_var 2) de_int o_lt) (decide_eq_true (by omega))) (dss_ret (de_tup (dp_cons (de_ix (de_lst (dp_cons de_str (dp_cons de_str dp_nil)) (sz (by show 2 ≤ 100000; decide))) (de_var 2) (i_lst g (at_gate _ ha))) (dp_cons (de_call g cd (da_cons (de_var 0) (da_cons (de_var 1) da_nil)) ⟨j, tkP p (gU n), n, (tkP_ok hp).mono (by omega), h1, h4, rfl, set_at hj, rfl, (List.set_set ..).symm⟩) dp_nil)))) cr)), .rt⟩
  by_cases hb : tk p (gU n) = 2
  · have e1 : gateF n p = .h (tk (tkP p (gU n)) n) := (if_neg ha).trans (if_pos hb)
    have e2 : gateP n p = tkP (tkP p (gU n)) n := (if_neg ha).trans (if_pos hb)
    rw [e1, e2]
    exact ⟨_, dss_cons hway (cn (dss_skip (dt_of (dt_cmp (de_var 2) de_int o_lt) (decide_eq_false (by omega))) (dss_ifT (dt_of (dt_cmp (de_var 2) de_int o_eqI) (decide_eq_true (by omega))) (dss_ret (de_tup (dp_cons de_str (dp_cons (de_call g ct (da_cons (de_var 0) (da_cons (de_var 1) da_nil)) ⟨j, tkP p (gU n), n, (tkP_ok hp).mono (by omega), h1, by omega, rfl, set_at hj, rfl, (List.set_set ..).symm⟩) dp_nil)))) cr))), .rt⟩
  · have e1 : gateF n p = .pr (tk p (gU n) - 3) ((gateS n p).1.getD 0 0) ((gateS n p).1.getD 1 0) := (if_neg ha).trans (if_neg hb)
    have e2 : gateP n p = (gateS n p).2 := (if_neg ha).trans (if_neg hb)
    obtain ⟨g2, g6⟩ := gate_two ha hb
    have l1 := (someF_is (d := 0) (n := 2) (p := tkP p (gU n)) (l := List.range n) (by rw [List.length_range]; exact g2) List.nodup_range).1
    rw [e1, e2]
    exact ⟨_, dss_cons hway (cn (dss_skip (dt_of (dt_cmp (de_var 2) de_int o_lt) (decide_eq_false (by omega))) (dss_skip (dt_of (dt_cmp (de_var 2) de_int o_eqI) (decide_eq_false (by omega))) (dss_ret (de_of (de_bin (de_tup (dp_cons (de_ix (de_lst (dp_cons de_str (dp_cons de_str (dp_cons de_str dp_nil))) (sz (by show 3 ≤ 100000; decide))) (de_bin (de_var 2) de_int o_sub) (i_lst g (at_pair _ g6 (by omega)))) dp_nil)) (de_callT (T := "tuple") (da_cons (de_call g cs (da_cons (de_var 0) (da_cons (de_of (de_listRg g (de_var 1) T.list T.range (by omega)) (congrArg D.lst ((congrArg (rangeD 0) (Int.toNat_natCast n)).trans (rng_in n)))) (da_cons (de_of (d' := .int ((2 : Nat) : Int)) de_int rfl) da_nil))) ⟨Nat, inD, 0, j, tkP p (gU n), List.range n, 2, (tkP_ok hp).mono (by omega), by rw [List.length_range]; exact g2, by rw [List.length_range]; omega, rfl, set_at hj, rfl, (List.set_set ..).symm⟩) da_nil) c_tupL T.tuple (by decide +kernel)) (o_catT g (by rw [List.length_map, l1]; exact sz (by show 3 ≤ _; decide)))) (by rw [len2 (d := 0) l1]; rfl)))))), .rt⟩
end
end K62
set_option Elab.async false
set_option linter.all false
set_option maxRecDepth 100000
set_option maxHeartbeats 4000000
set_option autoImplicit false
namespace Dl
open PySem PySem.Spec PyProof.Rows L2
/-! ## dicts written: {}, and one text as key with an int as value -/
section
variable {X : Cx} {N : En} {W : WX} {δ : List (Option S)} {μ : List M} {p1 p2 pos : Pos} {x : Str} {i : Int} {j1 j2}
theorem de_dic0 : DE X N W δ μ (.Dict [] [] pos) (.v (.p (.dic [] []))) μ :=
  PE.imp pe_dnewK fun σ H Q ⟨F, A, R, q⟩ p np => by
    have sm := same_updN (o := .dK []) (R.rc.fresh np).2.1
    exact q (.ref p) _ A _ sm (List.prefix_refl _) (R.to sm (List.prefix_refl _) (R.rc.frozen np _)) (.dic (kvs := []) upd_same .nil)
theorem de_dic1 : DE X N W δ μ (.Dict [some (.Constant (.str x) j1 p1)] [.Constant (.int i) j2 p2] pos) (.v (.p (.dic [.inr x] [.int i]))) μ :=
  PE.imp (pe_disp (pps_cons pe_str pe_int pps_nil) rfl rfl (by simp) (by show 1 ≤ 15; decide)) fun σ H Q ⟨F, A, R, q⟩ p np => by
    have sm := same_updN (o := .dK [((.inr x : Key), V.int i)]) (R.rc.fresh np).2.1
    refine ⟨upd_same, [(.inr x, .int i)], rfl, by show 1 ≤ 15; decide, ?_⟩
    rw [upd_upd]
    exact q (.ref p) _ A _ sm (List.prefix_refl _) (R.to sm (List.prefix_refl _) (R.rc.frozen np _)) (.dic (kvs := [(.inr x, .int i)]) upd_same (.cons (.int i) .nil))
end
end Dl
set_option Elab.async false
set_option linter.all false
set_option maxRecDepth 100000
set_option maxHeartbeats 4000000
set_option autoImplicit false
namespace Dl
open PySem PySem.Spec PyProof.Rows L2
/-! ## dicts written with ints as keys -/
theorem Rc.room0 {N : En} {F : Hp} {A : List Addr} {H : Hp} {μ : List M} (r : Rc N F A H μ) : N.A0.length ≤ μ.length := by
  rw [← r.len]
  obtain ⟨B, e, _⟩ := r.pre
  rw [e]
  simp
theorem rep_i {K : PySem.W.Frag} {F : Hp} {A : List Addr} {v : V} {i : Int} (h : RepS K F A v (.p (.int i))) : v = .int i := rs_int h
theorem app_one {α : Type} {A A3 : List α} {p : α} (h : (A ++ [p]) <+: A3) (l : A3.length = A.length + 1) : A3 = A ++ [p] := by
  obtain ⟨B, rfl⟩ := h
  simp only [List.length_append, List.length_cons, List.length_nil] at l
  have : B = [] := List.eq_nil_of_length_eq_zero (by omega)
  subst this
  exact List.append_nil _
/-- behind the items: the dict is filled, frozen, let go -/
theorem dic_end {N : En} {F F3 : Hp} {A A3 : List Addr} {H H3 : Hp} {σ : L2.St} {δ : List (Option S)} {μ : List M} {p : Addr} {W : WX} {Q : VK} {ks : List Key} {ds : List D} (R : Rl N F A H σ δ μ) (sm : Same F F3) (pp : (A ++ [p]) <+: A3) (R3 : Rl N F3 A3 H3 σ δ (μ ++ [.dic [] []]))
    (kvs : List (Key × V)) (hk : kvs.map (·.1) = ks) (hd : Reps N.K F3 (kvs.map (·.2)) ds) (k : EndE N W σ δ F A μ Q (.v (.p (.dic ks ds)))) : H3 p = some (.dK []) ∧ Q (.ref p) (upd H3 p (.dK kvs)) := by
  have lA : A.length = μ.length := R.rc.len
  have e3 : A3 = A ++ [p] := app_one pp (by rw [R3.rc.len, List.length_append, lA]; rfl)
  subst e3
  have ha : (A ++ [p])[μ.length]? = some p := by rw [← lA, List.getElem?_append_right (Nat.le_refl _), Nat.sub_self]; rfl
  have hm : (μ ++ [M.dic [] []])[μ.length]? = some (.dic [] []) := by rw [List.getElem?_append_right (Nat.le_refl _), Nat.sub_self]; rfl
  obtain ⟨k0, h0, h1, h2⟩ := R3.rc.mus _ _ _ ha hm
  have k0e : k0 = [] := by simpa using h1
  subst k0e
  refine ⟨h0, ?_⟩
  have r4 := R3.rc.write ha hm trivial (o := .dK kvs) (m' := .dic ks ds) ⟨kvs, upd_same, hk, hd⟩
  have hm4 : ((μ ++ [M.dic [] []]).set μ.length (.dic ks ds))[μ.length]? = some (.dic ks ds) := List.getElem?_set_self (by simp)
  obtain ⟨r5, s5⟩ := r4.freeze ha hm4 trivial R.rc.room0 (o := .dK kvs) upd_same
  have r6 := r5.trim (n := μ.length) R.rc.room0
  rw [List.set_set, List.set_append_right _ _ (Nat.le_refl _), Nat.sub_self, List.take_left, ← lA, List.take_left] at r6
  have sm5 : Same F (upd F3 p (.dK kvs)) := sm.trans s5
  subst hk
  exact k (.ref p) _ A _ sm5 (List.prefix_refl _) (R.to sm5 (List.prefix_refl _) r6) (.dic (kvs := kvs) upd_same (hd.mono s5))
section
variable {X : Cx} {N : En} {W : WX} {n : Nat} {δ : List (Option S)} {μ : List M} {a b c e : Expr} {pos : Pos} {i j : Int} {d d2 : D}
theorem de_dicI1 (hk : DE X N W δ (μ ++ [.dic [] []]) a (.v (.p (.int i))) (μ ++ [.dic [] []])) (hv : DE X N W δ (μ ++ [.dic [] []]) b (.v (.p d)) (μ ++ [.dic [] []])) :
    DE X N W δ μ (.Dict [some a] [b] pos) (.v (.p (.dic [.inl i] [d]))) μ :=
  PE.imp (pe_disp (pps_cons hk hv pps_nil) rfl rfl (by simp) (by show 1 ≤ 15; decide)) fun σ H Q ⟨F, A, R, q⟩ p np => by
    have r1 := R.rc.newM (m := .dic [] []) np (o := .dK []) ⟨[], upd_same, rfl, .nil⟩
    refine ⟨F, A ++ [p], R.to (Same.refl _) (List.prefix_append _ _) r1, fun x F1 A1 H1 e1 p1 R1 rx => ⟨F1, A1, R1, fun y F2 A2 H2 e2 p2 R2 ry => ?_⟩⟩
    have hx := rep_i rx
    subst hx
    obtain ⟨h0, hq⟩ := dic_end R (e1.trans e2) (p1.trans p2) R2 [(.inl i, y)] (ks := [.inl i]) (ds := [d]) rfl (.cons ry .nil) q
    exact ⟨h0, [(.inl i, y)], rfl, by show 1 ≤ 15; decide, hq⟩
theorem de_dicI2 (hk : DE X N W δ (μ ++ [.dic [] []]) a (.v (.p (.int i))) (μ ++ [.dic [] []])) (hv : DE X N W δ (μ ++ [.dic [] []]) b (.v (.p d)) (μ ++ [.dic [] []])) (hk2 : DE X N W δ (μ ++ [.dic [] []]) c (.v (.p (.int j))) (μ ++ [.dic [] []])) (hv2 : DE X N W δ (μ ++ [.dic [] []]) e (.v (.p d2)) (μ ++ [.dic [] []])) (hij : i ≠ j) :
    DE X N W δ μ (.Dict [some a, some c] [b, e] pos) (.v (.p (.dic [.inl i, .inl j] [d, d2]))) μ :=
  PE.imp (pe_disp (pps_cons hk hv (pps_cons hk2 hv2 pps_nil)) rfl rfl (by simp) (by show 2 ≤ 15; decide)) fun σ H Q ⟨F, A, R, q⟩ p np => by
    have r1 := R.rc.newM (m := .dic [] []) np (o := .dK []) ⟨[], upd_same, rfl, .nil⟩
    refine ⟨F, A ++ [p], R.to (Same.refl _) (List.prefix_append _ _) r1, fun x F1 A1 H1 e1 p1 R1 rx => ⟨F1, A1, R1, fun y F2 A2 H2 e2 p2 R2 ry => ⟨F2, A2, R2, fun x2 F3 A3 H3 e3 p3 R3 rx2 => ⟨F3, A3, R3, fun y2 F4 A4 H4 e4 p4 R4 ry2 => ?_⟩⟩⟩⟩
    have hx := rep_i rx
    subst hx
    have hx2 := rep_i rx2
    subst hx2
    obtain ⟨h0, hq⟩ := dic_end R (((e1.trans e2).trans e3).trans e4) (((p1.trans p2).trans p3).trans p4) R4 [(.inl i, y), (.inl j, y2)] (ks := [.inl i, .inl j]) (ds := [d, d2]) rfl (.cons (ry.mono (e3.trans e4) (p3.trans p4)) (.cons ry2 .nil)) q
    refine ⟨h0, [(.inl i, y), (.inl j, y2)], rfl, by show 2 ≤ 15; decide, ?_⟩
    rw [merge_new [(.inl i, y), (.inl j, y2)] [] (by simp [hij])]
    exact hq
end
end Dl
set_option Elab.async false
set_option linter.all false
set_option maxRecDepth 100000
set_option maxHeartbeats 4000000
set_option autoImplicit false
namespace K62
open PySem PySem.Spec PyProof.Rows L2 Dl Cq
/-! ### the law's own words: quarters, products -/
theorem scLQuarters : FnScope ["one", "other", "found", "here", "there"] ["one", "other"] (defScope sLQuarters) := ⟨rfl, rfl, rfl, by decide +kernel, rfl, by decide +kernel, by decide +kernel⟩
theorem scDoPass : FnScope ["one", "other"] ["one", "other"] (defScope sDoPass) := ⟨rfl, rfl, rfl, by decide +kernel, rfl, by decide +kernel, by decide +kernel⟩
theorem scLMade : FnScope ["one", "other", "found", "here", "there", "sign"] ["one", "other"] (defScope sLMade) := ⟨rfl, rfl, rfl, by decide +kernel, rfl, by decide +kernel, by decide +kernel⟩
theorem scProduct : FnScope ["one", "other", "more", "sign"] ["one", "other", "more"] (defScope sProduct) := ⟨rfl, rfl, rfl, by decide +kernel, rfl, by decide +kernel, by decide +kernel⟩
def rLQuarters : Rel := fun ss μ r μ' => ∃ (A B : List Nat), okL A ∧ okL B ∧ A.length = B.length ∧ ss = [.p (.str (st A)), .p (.str (st B))] ∧ r = .v (.p (.int (qs A B))) ∧ μ' = μ
def rDoPass : Rel := fun ss μ r μ' => ∃ (A B : List Nat) (s t : Int), okL A ∧ okL B ∧ A.length = B.length ∧ ss = [.p (tupW A s), .p (tupW B t)] ∧ r = .v (.p (.bl (decide (qs A B % 2 = 0)))) ∧ μ' = μ
def rLMade : Rel := fun ss μ r μ' => ∃ (A B : List Nat), okL A ∧ okL B ∧ A.length = B.length ∧ ss = [.p (.str (st A)), .p (.str (st B))] ∧ r = .v (.p (.str (st (mk A B)))) ∧ μ' = μ
def rProduct : Rel := fun ss μ r μ' => ∃ (A B : List Nat) (s t m : Int), okL A ∧ okL B ∧ A.length = B.length ∧ pm s ∧ pm t ∧ ss = [.p (tupW A s), .p (tupW B t), .p (.int m)] ∧ r = .v (.p (tupW (mk A B) (s * t * sg (qs A B + m)))) ∧ μ' = μ
section
variable {X : Cx} {N : En} {W : WX} {f : As} {body : List Stmt}
theorem loop_fo {T α : Type} {mu : T → List M} {nx : α → T → T} {gd : α → D} (I : Nat → T → Prop) (Δ : T → List (Option S) → Prop) :
    ∀ (l : List α) (δ : List (Option S)) (t : T), (∀ a ∈ l, ∀ k t δ, Δ t δ → I (k + 1) t → I k (nx a t) ∧ ∃ δt δ1, f (gd a) δ = some δt ∧ DSs X N W δt (mu t) body (.nx δ1 (mu (nx a t))) ∧ Δ (nx a t) δ1) → Δ t δ → I l.length t →
      ∃ δ', Loop X N W f body (l.map gd) δ (mu t) (.nx δ' (mu (l.foldl (fun t a => nx a t) t))) ∧ Δ (l.foldl (fun t a => nx a t) t) δ' ∧ I 0 (l.foldl (fun t a => nx a t) t)
  | [], δ, t, _, h0, hi => ⟨δ, .nil, h0, hi⟩
  | a :: l, δ, t, h, h0, hi => by
    obtain ⟨h1, δt, δ1, h2, h3, h4⟩ := h a List.mem_cons_self l.length t δ h0 hi
    obtain ⟨δ', h5, h6, h7⟩ := loop_fo I Δ l δ1 (nx a t) (fun b hb => h b (List.mem_cons_of_mem _ hb)) h4 h1
    exact ⟨δ', .next h2 h3 h5, h6, h7⟩
end
abbrev two3 : List Str := [Str.ofString "XY", Str.ofString "YZ", Str.ofString "ZX"]
theorem qt_is : ∀ a ∈ IXYZ, ∀ b ∈ IXYZ, (if decide (st [a, b] ∈ two3) = true then (1 : Int) else 0) - (if decide (st [b, a] ∈ two3) = true then (1 : Int) else 0) = qt a b := by decide +kernel
theorem qs_fold : ∀ (l : List (Nat × Nat)) (t : Int), l.foldl (fun t p => t + qt p.1 p.2) t = t + (l.map fun p => qt p.1 p.2).sum
  | [], t => by simp
  | p :: l, t => by rw [List.foldl_cons, qs_fold l, List.map_cons, List.sum_cons]; omega
theorem mk_fold : ∀ (l : List (Nat × Nat)) (t : List Nat), l.foldl (fun t p => t ++ [third p.1 p.2]) t = t ++ l.map fun p => third p.1 p.2
  | [], t => by simp
  | p :: l, t => by rw [List.foldl_cons, mk_fold l, List.map_cons]; simp
theorem mk_zip (A B : List Nat) : (A.zip B).map (fun p => third p.1 p.2) = mk A B := by
  rw [List.zip, List.map_zipWith]
  rfl
theorem qs_zip (A B : List Nat) : ((A.zip B).map fun p => qt p.1 p.2).sum = qs A B := by
  rw [List.zip, List.map_zipWith]
  rfl
abbrev zpD (p : Nat × Nat) : D := .tup [.str ⟨#[p.1]⟩, .str ⟨#[p.2]⟩]
section
variable {P : Program} {w : World} {K : PySem.W.Frag} {mg : Str → Option Value} {base : Heap} {f C : Addr} {fd : FuncData}
theorem ok_lquarters (F : Fun K "_law_quarters" "_law_quarters" sLQuarters f fd) (T : TM mg) : FnOk P w K mg base (L2.CX P w) 1 f fd ["one", "other"] (spD K rLQuarters) := by
  refine fn_D (k := 0) F scLQuarters (fun ss μ r μ' h => by obtain ⟨_, _, _, _, _, rfl, _⟩ := h; rfl) ?_
  intro cdv A0 outer s0 H E N W ss μ r μ' g hA hR
  obtain ⟨A, B, hLA, hLB, hl, rfl, rfl, rfl⟩ := hR
  have h4 := hLA.four
  obtain ⟨δ', hlo, ⟨x3, x4, rfl⟩, _⟩ := loop_fo (X := cxOf (L2.CX P w) P w K mg base ["one", "other", "found", "here", "there"] "_law_quarters" (defScope sLQuarters) f cdv A0 outer s0 H E) (N := N) (W := W) (f := asTup [asName 3, asName 4]) (body := bodyOf sLQuarters 1) (T := Int) (mu := fun _ => μ') (nx := fun p t => t + qt p.1 p.2) (gd := zpD)
    (fun _ _ => True) (fun t δ => ∃ x3 x4, δ = [some (.p (.str (st A))), some (.p (.str (st B))), some (.p (.int t)), x3, x4]) (A.zip B) [some (.p (.str (st A))), some (.p (.str (st B))), some (.p (.int 0)), none, none] 0
    (fun p hp k t δ hδ _ => by
      obtain ⟨x3, x4, rfl⟩ := hδ
      obtain ⟨hp1, hp2⟩ := zip_mem hp
      have e := qt_is p.1 (hLA.all _ hp1) p.2 (hLB.all _ hp2)
      exact ⟨trivial, _, _, rfl, dss_cons (ds_set 2 (de_of (d' := .int (t + qt p.1 p.2)) (de_bin (de_bin (de_var 2) (de_callT (T := "int") (da_cons (de_cmp (de_of (d' := .str (st [p.1, p.2])) (de_bin (de_var 3) (de_var 4) (o_addS (by show 1 + 1 ≤ _; exact size4 (by omega)))) (congrArg D.str (two_st _ _))) (de_tup (ds := two3.map D.str) (dp_cons de_str (dp_cons de_str (dp_cons de_str dp_nil))) (sz (by show 3 ≤ _; decide))) (o_inStrT g)) da_nil) c_intB T.int (by decide +kernel)) o_add)
        (de_callT (T := "int") (da_cons (de_cmp (de_of (d' := .str (st [p.2, p.1])) (de_bin (de_var 4) (de_var 3) (o_addS (by show 1 + 1 ≤ _; exact size4 (by omega)))) (congrArg D.str (two_st _ _))) (de_tup (ds := two3.map D.str) (dp_cons de_str (dp_cons de_str (dp_cons de_str dp_nil))) (sz (by show 3 ≤ _; decide))) (o_inStrT g)) da_nil) c_intB T.int (by decide +kernel)) o_sub) (congrArg D.int (by rw [← e]; omega))) g.nd) (cn dss_nil), _, _, rfl⟩) ⟨_, _, rfl⟩ trivial
  rw [qs_fold, qs_zip] at hlo
  exact ⟨_, dss_cons (ds_set 2 de_int g.nd) (cn (dss_cons (ds_for g (di_of (di_zip g (da_cons (de_var 0) (da_cons (de_var 1) da_nil)) (.str _) (.str _) T.zip) (zip_chars A B)) (dg_tup (dgs_cons (dg_name 3 g.nd) (dgs_cons (dg_name 4 g.nd) dgs_nil)) g.hK g.calm) hlo) (cn (dss_ret (de_of (de_var 2) (congrArg D.int (Int.zero_add _))))))), .rt⟩
theorem ok_dopass (F : Fun K "_law_do_pass" "_law_do_pass" sDoPass f fd) (cq : Cf P w K mg base 1 "_law_quarters" [] rLQuarters) : FnOk P w K mg base (L2.CX P w) 2 f fd ["one", "other"] (spD K rDoPass) := by
  refine fn_D (k := 1) F scDoPass (fun ss μ r μ' h => by obtain ⟨_, _, _, _, _, _, _, rfl, _⟩ := h; rfl) ?_
  intro cdv A0 outer s0 H E N W ss μ r μ' g hA hR
  obtain ⟨A, B, s, t, hLA, hLB, hl, rfl, rfl, rfl⟩ := hR
  exact ⟨_, dss_ret (de_cmp (de_bin (de_call g cq (da_cons (de_ix (de_var 0) de_int (i_tup (i := 1) g rfl)) (da_cons (de_ix (de_var 1) de_int (i_tup (i := 1) g rfl)) da_nil)) ⟨A, B, hLA, hLB, hl, rfl, rfl, rfl⟩) de_int (o_mod (by decide))) de_int o_eqI), .rt⟩
end
section
variable {X : Cx} {K : PySem.W.Frag} {nn : Nat} {scope : Scope} {c elt : Expr} {f : As} {δ : List (Option S)} {μ : List M}
theorem of_flt {α : Type} {gd : α → D} {q : α → Bool} : ∀ {l : List α}, (∀ a ∈ l, ∃ δt, f (gd a) δ = some δt ∧ DTB X K nn scope c δt μ (q a) μ ∧ DEB X K nn scope elt δt μ (gd a) μ) → CmpL (El1 X K nn scope c elt) f δ (l.map gd) μ ((l.filter q).map gd) μ
  | [], _ => .nil
  | a :: l, h => by
    obtain ⟨δt, h1, h2, h3⟩ := h a List.mem_cons_self
    have ih := of_flt (l := l) fun b hb => h b (List.mem_cons_of_mem _ hb)
    rw [List.map_cons, List.filter_cons]
    cases hq : q a with
    | true =>
      rw [if_pos rfl, List.map_cons]
      exact .keep h1 ⟨μ, by rw [hq] at h2; exact h2, h3⟩ ih
    | false =>
      rw [if_neg (by decide)]
      exact .drop h1 ⟨μ, by rw [hq] at h2; exact h2, rfl⟩ ih
end
abbrev cD (c : Nat) : D := .str ⟨#[c]⟩
theorem mem_two (x a b : Nat) : decide ((⟨#[x]⟩ : Str) ∈ ([⟨#[a]⟩, ⟨#[b]⟩] : List Str)) = (decide (x = a) || decide (x = b)) := by simp
theorem third_is : ∀ a ∈ IXYZ, ∀ b ∈ IXYZ, a ≠ b → a ≠ 73 → b ≠ 73 → ([88, 89, 90] : List Nat).filter (fun c => !(decide (c = a) || decide (c = b))) = [third a b] := by decide
section
variable {P : Program} {w : World} {K : PySem.W.Frag} {mg : Str → Option Value} {base : Heap} {f C : Addr} {fd : FuncData}
theorem ok_lmade (F : Fun K "_law_made" "_law_made" sLMade f fd) (T : TM mg) : FnOk P w K mg base (L2.CX P w) 1 f fd ["one", "other"] (spD K rLMade) := by
  refine fn_D (k := 0) F scLMade (fun ss μ r μ' h => by obtain ⟨_, _, _, _, _, rfl, _⟩ := h; rfl) ?_
  intro cdv A0 outer s0 H E N W ss μ r μ' g hA hR
  obtain ⟨A, B, hLA, hLB, hl, rfl, rfl, rfl⟩ := hR
  have h4 := hLA.four
  have hz : (A.zip B).length = A.length := by rw [List.length_zip]; omega
  obtain ⟨δ', hlo, ⟨x3, x4, x5, rfl⟩, _⟩ := loop_fo (X := cxOf (L2.CX P w) P w K mg base ["one", "other", "found", "here", "there", "sign"] "_law_made" (defScope sLMade) f cdv A0 outer s0 H E) (N := N) (W := W) (f := asTup [asName 3, asName 4]) (body := bodyOf sLMade 1) (T := List Nat) (mu := fun _ => μ') (nx := fun p t => t ++ [third p.1 p.2]) (gd := zpD)
    (fun k t => t.length ≤ 20 - k ∧ k ≤ 10) (fun t δ => ∃ x3 x4 x5, δ = [some (.p (.str (st A))), some (.p (.str (st B))), some (.p (.str (st t))), x3, x4, x5]) (A.zip B) [some (.p (.str (st A))), some (.p (.str (st B))), some (.p (.str (st []))), none, none, none] []
    (fun p hp k t δ hδ hI => by
      obtain ⟨x3, x4, x5, rfl⟩ := hδ
      obtain ⟨hp1, hp2⟩ := zip_mem hp
      obtain ⟨a, b⟩ := p
      have ha := hLA.all _ hp1
      have hb := hLB.all _ hp2
      simp only at ha hb
      refine ⟨⟨by rw [List.length_append]; show t.length + 1 ≤ _; omega, by omega⟩, [some (.p (.str (st A))), some (.p (.str (st B))), some (.p (.str (st t))), some (.p (cD a)), some (.p (cD b)), x5], [some (.p (.str (st A))), some (.p (.str (st B))), some (.p (.str (st (t ++ [third a b])))), some (.p (cD a)), some (.p (cD b)), x5], rfl, ?_, _, _, _, rfl⟩
      have lt : t.length ≤ 20 := by omega
      have cat : ∀ c : Nat, Str.length (st t) + Str.length ⟨#[c]⟩ ≤ sizeLine := fun c => by rw [st_len]; exact sz (by show t.length + 1 ≤ _; omega)
      have same : DT (cxOf (L2.CX P w) P w K mg base ["one", "other", "found", "here", "there", "sign"] "_law_made" (defScope sLMade) f cdv A0 outer s0 H E) N W [some (.p (.str (st A))), some (.p (.str (st B))), some (.p (.str (st t))), some (.p (cD a)), some (.p (cD b)), x5] μ' (ifC ((bodyOf sLMade 1).getD 0 (.Pass ⟨0, 0, 0, 0⟩))) (decide (a = b)) μ' := dt_of (dt_cmp (de_var 3) (de_var 4) o_eqS) (by simp)
      by_cases hab : a = b
      · subst hab
        exact dss_cons (ds_if (k := true) (dt_of same (by simp)) (fun _ => dss_cons (ds_set 2 (de_of (d' := .str (st (t ++ [third a a]))) (de_bin (de_var 2) (de_of (d' := .str (st [73])) de_str rfl) (o_addS (cat 73))) (congrArg D.str (by rw [th_self]; exact st_app _ _))) g.nd) (cn dss_nil)) (fun h => by cases h)) (cn dss_nil)
      · by_cases hI : a = 73 ∨ b = 73
        · refine dss_cons (ds_if (k := false) (dt_of same (by simp [hab])) (fun h => by cases h) (fun _ => dss_cons (ds_if (k := true) (dt_of (dt_cmp de_str (de_tup (ds := [(⟨#[a]⟩ : Str), ⟨#[b]⟩].map D.str) (dp_cons (de_var 3) (dp_cons (de_var 4) dp_nil)) (sz (by show 2 ≤ _; decide))) (o_inStrT g)) ?_) (fun _ => dss_cons (ds_set 2 (de_of (d' := .str (st (t ++ [third a b]))) (de_bin (de_var 2) (de_if (k := decide (a = 73)) (dt_of (dt_cmp (de_var 3) de_str o_eqS) ?_) (fun h => de_of (d' := cD (third a b)) (de_var 4) ?_) (fun h => de_of (d' := cD (third a b)) (de_var 3) ?_)) (o_addS (cat _))) (congrArg D.str (st_app _ _))) g.nd) (cn dss_nil)) (fun h => by cases h)) (cn dss_nil))) (cn dss_nil)
          · show decide ((⟨#[73]⟩ : Str) ∈ [(⟨#[a]⟩ : Str), ⟨#[b]⟩]) = true
            rw [mem_two]
            rcases hI with rfl | rfl <;> simp
          · show decide ((⟨#[a]⟩ : Str) = ⟨#[73]⟩) = _
            simp
          · have h := of_decide_eq_true h
            subst h
            rw [(t1 b hb).1]
          · have h := of_decide_eq_false h
            have hb3 : b = 73 := by omega
            subst hb3
            rw [th_comm, (t1 a ha).1]
        · have hf := third_is a ha b hb hab (by omega) (by omega)
          refine dss_cons (ds_if (k := false) (dt_of same (by simp [hab])) (fun h => by cases h) (fun _ => dss_cons (ds_if (k := false) (dt_of (dt_cmp de_str (de_tup (ds := [(⟨#[a]⟩ : Str), ⟨#[b]⟩].map D.str) (dp_cons (de_var 3) (dp_cons (de_var 4) dp_nil)) (sz (by show 2 ≤ _; decide))) (o_inStrT g)) ?_) (fun h => by cases h) (fun _ => dss_cons (ds_set 2 (de_of (d' := .str (st (t ++ [third a b]))) (de_bin (de_var 2) (de_ix (de_of (d' := .lst ([third a b].map cD)) (de_lcIf g [("sign", 5)] (di_of (di_str de_str) (show _ = ([88, 89, 90] : List Nat).map cD from rfl)) (fun s H C cl fp => dg_name 5 g.nd) (of_flt (gd := cD) (q := fun c => !(decide (c = a) || decide (c = b))) fun c hc => ⟨_, rfl, fun s H C cl fp N' hK g' => dt_of (dt_cmp (de_var 5) (de_tup (ds := [(⟨#[a]⟩ : Str), ⟨#[b]⟩].map D.str) (dp_cons (de_var 3) (dp_cons (de_var 4) dp_nil)) (sz (by show 2 ≤ _; decide))) (o_notInStrT g')) (by rw [mem_two]), fun s H C cl fp N' hK g' => de_var 5⟩) (ok := blkOk_by (by rfl)) (hds := sz' (by show 3 ≤ _; decide))) (by rw [hf])) de_int (i_lst (i := 0) g rfl)) (o_addS (cat _))) (congrArg D.str (st_app _ _))) g.nd) (cn dss_nil))) (cn dss_nil))) (cn dss_nil)
          show decide ((⟨#[73]⟩ : Str) ∈ [(⟨#[a]⟩ : Str), ⟨#[b]⟩]) = false
          rw [mem_two]
          have n1 : (73 : Nat) ≠ a := fun z => hI (.inl z.symm)
          have n2 : (73 : Nat) ≠ b := fun z => hI (.inr z.symm)
          simp [n1, n2]) ⟨_, _, _, rfl⟩ ⟨by show 0 ≤ _; omega, by omega⟩
  rw [mk_fold, mk_zip] at hlo
  exact ⟨_, dss_cons (ds_set 2 (de_of (d' := .str (st [])) de_str rfl) g.nd) (cn (dss_cons (ds_for g (di_of (di_zip g (da_cons (de_var 0) (da_cons (de_var 1) da_nil)) (.str _) (.str _) T.zip) (zip_chars A B)) (dg_tup (dgs_cons (dg_name 3 g.nd) (dgs_cons (dg_name 4 g.nd) dgs_nil)) g.hK g.calm) hlo) (cn (dss_ret (de_of (de_var 2) (congrArg (fun l => D.str (st l)) (List.nil_append _))))))), .rt⟩
theorem ok_product (F : Fun K "_law_product" "_law_product" sProduct f fd) (cq : Cf P w K mg base 1 "_law_quarters" [] rLQuarters) (cm_ : Cf P w K mg base 1 "_law_made" [] rLMade) : FnOk P w K mg base (L2.CX P w) 2 f fd ["one", "other", "more"] (spD K rProduct) := by
  refine fn_D (k := 1) F scProduct (fun ss μ r μ' h => by obtain ⟨_, _, _, _, _, _, _, _, _, _, rfl, _⟩ := h; rfl) ?_
  intro cdv A0 outer s0 H E N W ss μ r μ' g hA hR
  obtain ⟨A, B, s, t, m, hLA, hLB, hl, hs, ht, rfl, rfl, rfl⟩ := hR
  have small : ∀ x y : Int, (x = 1 ∨ x = -1) → (y = 1 ∨ y = -1) → CMul x y := fun x y hx hy => by
    rcases hx with rfl | rfl <;> rcases hy with rfl | rfl <;> (unfold CMul; decide)
  have hst : s * t = 1 ∨ s * t = -1 := by rcases hs with rfl | rfl <;> rcases ht with rfl | rfl <;> simp
  have hsg : sg (qs A B + m) = 1 ∨ sg (qs A B + m) = -1 := by unfold sg; split <;> simp
  exact ⟨_, dss_cons (ds_set 3 (de_bin (de_bin (de_ix (de_var 0) de_int (i_tup (i := 0) g rfl)) (de_ix (de_var 1) de_int (i_tup (i := 0) g rfl)) (o_mul (small _ _ hs ht))) (de_if (k := decide ((qs A B + m) % 4 = 0)) (dt_cmp (de_bin (de_bin (de_call g cq (da_cons (de_ix (de_var 0) de_int (i_tup (i := 1) g rfl)) (da_cons (de_ix (de_var 1) de_int (i_tup (i := 1) g rfl)) da_nil)) ⟨A, B, hLA, hLB, hl, rfl, rfl, rfl⟩) (de_var 2) o_add) de_int (o_mod (by decide))) de_int o_eqI)
      (fun h => de_of (d' := .int (sg (qs A B + m))) de_int (congrArg D.int (if_pos (of_decide_eq_true h)).symm)) (fun h => de_of (d' := .int (sg (qs A B + m))) (de_un de_int u_neg) (congrArg D.int (if_neg (of_decide_eq_false h)).symm))) (o_mul (small _ _ hst hsg))) g.nd) (cn
    (dss_ret (de_of (d' := tupW (mk A B) (s * t * sg (qs A B + m))) (de_tup (dp_cons (de_var 3) (dp_cons (de_call g cm_ (da_cons (de_ix (de_var 0) de_int (i_tup (i := 1) g rfl)) (da_cons (de_ix (de_var 1) de_int (i_tup (i := 1) g rfl)) da_nil)) ⟨A, B, hLA, hLB, hl, rfl, rfl, rfl⟩) dp_nil))) rfl))), .rt⟩
end
end K62
set_option Elab.async false
set_option linter.all false
set_option maxRecDepth 100000
set_option maxHeartbeats 4000000
set_option autoImplicit false
namespace K62
open PySem PySem.Spec PyProof.Rows L2 Dl Cq
/-! ### what fixed lines are, by quarters -/
theorem scLLone : FnScope ["wires", "places", "wire"] ["wires", "places"] (defScope sLLone) := ⟨rfl, rfl, rfl, by decide +kernel, rfl, by decide +kernel, by decide +kernel⟩
abbrev qN : List Str := ["wires", "line", "one", "other", "both", "rows", "found", "row", "sign"]
theorem scQuartersOf : FnScope qN ["wires", "line"] (defScope sQuartersOf) := ⟨rfl, rfl, rfl, by decide +kernel, rfl, by decide +kernel, by decide +kernel⟩
def loneL (n : Nat) (ns : List Int) (L : List Nat) : List Nat := (List.range n).map fun i => atZ ns L ((i : Nat) : Int)
def lone1 (n a c : Nat) : List Nat := loneL n [((a : Nat) : Int)] [c]
def lone2 (n a b : Nat) : List Nat := loneL n [((a : Nat) : Int), ((b : Nat) : Int)] [90, 90]
theorem atZ_in {ns : List Int} {L : List Nat} {i : Int} (h : ∀ c ∈ L, c ∈ IXYZ) : atZ ns L i ∈ IXYZ := by
  unfold atZ
  cases hf : (ns.zip L).find? fun p => decide (p.1 = i) with
  | none => show 73 ∈ IXYZ; decide
  | some p => exact h _ (List.of_mem_zip (List.mem_of_find?_eq_some hf)).2
theorem loneL_ok {n : Nat} {ns : List Int} {L : List Nat} (h1 : 1 ≤ n) (h4 : n ≤ 4) (h : ∀ c ∈ L, c ∈ IXYZ) : okL (loneL n ns L) ∧ (loneL n ns L).length = n := by
  have l : (loneL n ns L).length = n := by unfold loneL; rw [List.length_map, List.length_range]
  refine ⟨⟨by omega, by omega, fun c hc => ?_⟩, l⟩
  obtain ⟨i, _, rfl⟩ := List.mem_map.mp hc
  exact atZ_in h
def rLLone : Rel := fun ss μ r μ' => ∃ (n : Nat) (ns : List Int) (L : List Nat), n ≤ 4 ∧ ss = [.p (.int (n : Nat)), .p (.dic (ns.map Sum.inl) (L.map Dl.chD))] ∧ r = .v (.p (.str (st (loneL n ns L)))) ∧ μ' = μ
/-- a word of the law's own: its sign, its letters -/
abbrev Wd := Int × List Nat
def wD (x : Wd) : D := tupW x.2 x.1
structure okW (n : Nat) (x : Wd) : Prop where
  ok : okL x.2
  len : x.2.length = n
  pm : pm x.1
def hF (n a : Nat) : List Wd := [(1, lone1 n a 90), (1, lone1 n a 88), (1, lone1 n a 90)]
def czF (n a b : Nat) : List Wd := [(-1, lone2 n a b), (1, lone1 n a 90), (1, lone1 n b 90)]
def cxF (n a b : Nat) : List Wd := hF n b ++ czF n a b ++ hF n b
def quartersF (n : Nat) : Ln → List Wd
  | .ab false s L => [(s, L), (s, L)]
  | .ab true s L => [(s, L)]
  | .h a => hF n a
  | .pr k a b => if k = 0 then czF n a b else if k = 1 then cxF n a b else cxF n a b ++ cxF n b a ++ cxF n a b
  | .tn _ _ _ => []
theorem lone1_ok {n a c : Nat} (h1 : 1 ≤ n) (h4 : n ≤ 4) (hc : c ∈ IXYZ) : okW n (1, lone1 n a c) := by
  obtain ⟨p, q⟩ := loneL_ok (ns := [((a : Nat) : Int)]) (L := [c]) h1 h4 (fun x hx => by rw [List.mem_singleton.mp hx]; exact hc)
  exact ⟨p, q, .inl rfl⟩
theorem hF_ok {n a : Nat} (h1 : 1 ≤ n) (h4 : n ≤ 4) : ∀ x ∈ hF n a, okW n x := by
  intro x hx
  simp only [hF, List.mem_cons, List.not_mem_nil, or_false] at hx
  rcases hx with rfl | rfl | rfl <;> exact lone1_ok h1 h4 (by decide)
theorem czF_ok {n a b : Nat} (h1 : 1 ≤ n) (h4 : n ≤ 4) : ∀ x ∈ czF n a b, okW n x := by
  intro x hx
  simp only [czF, List.mem_cons, List.not_mem_nil, or_false] at hx
  rcases hx with rfl | rfl | rfl
  · obtain ⟨p, q⟩ := loneL_ok (ns := [((a : Nat) : Int), ((b : Nat) : Int)]) (L := [90, 90]) h1 h4 (by decide)
    exact ⟨p, q, .inr rfl⟩
  · exact lone1_ok h1 h4 (by decide)
  · exact lone1_ok h1 h4 (by decide)
theorem cxF_ok {n a b : Nat} (h1 : 1 ≤ n) (h4 : n ≤ 4) : ∀ x ∈ cxF n a b, okW n x := by
  intro x hx
  simp only [cxF, List.mem_append] at hx
  rcases hx with (hx | hx) | hx
  · exact hF_ok h1 h4 x hx
  · exact czF_ok h1 h4 x hx
  · exact hF_ok h1 h4 x hx
theorem quartersF_ok {n : Nat} {l : Ln} (h1 : 1 ≤ n) (h4 : n ≤ 4) (hl : okLn n l) : ∀ x ∈ quartersF n l, okW n x := by
  intro x hx
  cases l with
  | ab q s L =>
    have hw : okWd n s L := hl
    have hx' : x = (s, L) := by cases q <;> simpa [quartersF] using hx
    subst hx'
    exact ⟨hw.okL, hw.len, hw.pm⟩
  | h a => exact hF_ok h1 h4 x hx
  | pr k a b =>
    have hx : x ∈ (if k = 0 then czF n a b else if k = 1 then cxF n a b else cxF n a b ++ cxF n b a ++ cxF n a b) := hx
    split at hx
    · exact czF_ok h1 h4 x hx
    · split at hx
      · exact cxF_ok h1 h4 x hx
      · simp only [List.mem_append] at hx
        rcases hx with (hx | hx) | hx <;> exact cxF_ok h1 h4 x hx
  | tn s L ps => cases hx
theorem quartersF_len (n : Nat) (l : Ln) : (quartersF n l).length ≤ 27 := by
  cases l with
  | ab q s L =>
    cases q
    · show 2 ≤ 27; decide
    · show 1 ≤ 27; decide
  | h a => show 3 ≤ 27; decide
  | pr k a b =>
    show (if k = 0 then czF n a b else if k = 1 then cxF n a b else cxF n a b ++ cxF n b a ++ cxF n a b).length ≤ 27
    split
    · show 3 ≤ 27; decide
    · split
      · show 9 ≤ 27; decide
      · show 27 ≤ 27; decide
  | tn s L ps => show 0 ≤ 27; decide
def lev : Ln → Nat
  | .pr k _ _ => k
  | _ => 0
def rQuartersOf (m : Nat) : Rel := fun ss μ r μ' => ∃ (n : Nat) (l : Ln), 1 ≤ n ∧ n ≤ 4 ∧ okLn n l ∧ isT l = false ∧ lev l = m ∧ ss = [.p (.int (n : Nat)), .p (lnD l)] ∧ r = .v (.p (.lst ((quartersF n l).map wD))) ∧ μ' = μ
section
variable {P : Program} {w : World} {K : PySem.W.Frag} {mg : Str → Option Value} {base : Heap} {f C : Addr} {fd : FuncData}
theorem ok_llone (F : Fun K "_law_lone" "_law_lone" sLLone f fd) (T : TM mg) : FnOk P w K mg base (L2.CX P w) 1 f fd ["wires", "places"] (spD K rLLone) := by
  refine fn_D (k := 0) F scLLone (fun ss μ r μ' h => by obtain ⟨_, _, _, _, rfl, _⟩ := h; rfl) ?_
  intro cdv A0 outer s0 H E N W ss μ r μ' g hA hR
  obtain ⟨n, ns, L, h4, rfl, rfl, rfl⟩ := hR
  exact ⟨_, dss_ret (de_bm PySem.F.plainAttrs_str PySem.F.slot_str_join PySem.F.type_str_join de_str (da_cons (s := .p (.lst ((List.range n).map fun i => .str ⟨#[atZ ns L ((i : Nat) : Int)]⟩))) (de_lc g [("wire", 2)] (di_of (di_range1 (da_cons (de_var 0) da_nil) T.range (by omega)) (by rw [Int.toNat_natCast, rng_in])) (fun s H C cl fp => dg_name 2 g.nd) (of_maps (gd := inD) (fy := fun i => .str ⟨#[atZ ns L ((i : Nat) : Int)]⟩) fun i hi => ⟨_, rfl, fun s H C cl fp N' hK g' => de_dget2 g' (de_var 1) (de_var 2) de_str⟩) (ok := blkOk_by (by rfl)) (hds := by rw [List.length_map, List.length_range]; exact sz' (by omega))) da_nil) (m_joinm (l := List.range n) (q := fun i => atZ ns L ((i : Nat) : Int)) (by rw [List.length_range]; omega))), .rt⟩
/-- lines of no other lines -/
theorem ok_q0 (F : Fun K "_law_quarters_of" "_law_quarters_of" sQuartersOf f fd) (T : TM mg) (cl_ : Cf P w K mg base 1 "_law_lone" [] rLLone) : FnOk P w K mg base (L2.CX P w) 3 f fd ["wires", "line"] (spD K (rQuartersOf 0)) := by
  refine fn_D (k := 2) F scQuartersOf (fun ss μ r μ' h => by obtain ⟨_, _, _, _, _, _, _, rfl, _⟩ := h; rfl) ?_
  intro cdv A0 outer s0 H E N W ss μ r μ' g hA hR
  obtain ⟨n, l, h1, h4, hl, hT, hlev, rfl, rfl, rfl⟩ := hR
  cases l with
  | tn s L ps => cases hT
  | ab q s L =>
    cases q with
    | false => exact ⟨_, dss_ifT (dt_of (dt_cmp (de_ix (de_var 1) de_int (i_tup (i := 0) g rfl)) de_str o_eqS) (by decide +kernel)) (dss_ret (de_lst (ds := [wD (s, L), wD (s, L)]) (dp_cons (de_ix (de_var 1) de_int (i_tup (i := 1) g rfl)) (dp_cons (de_ix (de_var 1) de_int (i_tup (i := 1) g rfl)) dp_nil)) (sz (by show 2 ≤ _; decide)))) cr, .rt⟩
    | true => exact ⟨_, dss_skip (dt_of (dt_cmp (de_ix (de_var 1) de_int (i_tup (i := 0) g rfl)) de_str o_eqS) (by decide +kernel)) (dss_ifT (dt_of (dt_cmp (de_ix (de_var 1) de_int (i_tup (i := 0) g rfl)) de_str o_eqS) (by decide +kernel)) (dss_ret (de_lst (ds := [wD (s, L)]) (dp_cons (de_ix (de_var 1) de_int (i_tup (i := 1) g rfl)) dp_nil) (sz (by show 1 ≤ _; decide)))) cr), .rt⟩
  | h a =>
    exact ⟨_, dss_skip (dt_of (dt_cmp (de_ix (de_var 1) de_int (i_tup (i := 0) g rfl)) de_str o_eqS) (by decide +kernel)) (dss_skip (dt_of (dt_cmp (de_ix (de_var 1) de_int (i_tup (i := 0) g rfl)) de_str o_eqS) (by decide +kernel)) (dss_ifT (dt_of (dt_cmp (de_ix (de_var 1) de_int (i_tup (i := 0) g rfl)) de_str o_eqS) (by decide +kernel))
      (dss_ret (de_of (d' := .lst ((hF n a).map wD)) (de_lc g [("sign", 8)] (di_of (di_str de_str) (show _ = ([90, 88, 90] : List Nat).map cD from rfl)) (fun s H C cl fp => dg_name 8 g.nd) (of_maps (gd := cD) (fy := fun c => wD (1, lone1 n a c)) fun c hc => ⟨_, rfl, fun s H C cl fp N' hK g' => de_of (d' := wD (1, lone1 n a c)) (de_tup (dp_cons de_int (dp_cons (de_call g' cl_ (da_cons (de_var 0) (da_cons (s := .p (.dic ([((a : Nat) : Int)].map Sum.inl) ([c].map Dl.chD))) (de_dicI1 (de_ix (de_var 1) de_int (i_tup (i := 1) g' rfl)) (de_var 8)) da_nil)) ⟨n, [((a : Nat) : Int)], [c], h4, rfl, rfl, rfl⟩) dp_nil))) rfl⟩) (ok := blkOk_by (by rfl)) (hds := sz' (by show 3 ≤ _; decide))) rfl)) cr)), .rt⟩
  | pr k a b =>
    have hk : k = 0 := hlev
    subst hk
    obtain ⟨_, ha, hb, hab⟩ := hl
    have hab' : ((a : Nat) : Int) ≠ ((b : Nat) : Int) := by omega
    exact ⟨_, dss_skip (dt_of (dt_cmp (de_ix (de_var 1) de_int (i_tup (i := 0) g rfl)) de_str o_eqS) (by decide +kernel)) (dss_skip (dt_of (dt_cmp (de_ix (de_var 1) de_int (i_tup (i := 0) g rfl)) de_str o_eqS) (by decide +kernel)) (dss_skip (dt_of (dt_cmp (de_ix (de_var 1) de_int (i_tup (i := 0) g rfl)) de_str o_eqS) (by decide +kernel))
      (dss_cons (ds_asg (de_of (d' := .tup [inD a, inD b]) (de_cutTf g (de_var 1) de_int) rfl) (dg_tup (dgs_cons (dg_name 2 g.nd) (dgs_cons (dg_name 3 g.nd) dgs_nil)) g.hK g.calm) rfl) (cn
      (dss_ifT (dt_of (dt_cmp (de_ix (de_var 1) de_int (i_tup (i := 0) g rfl)) de_str o_eqS) (by decide +kernel))
        (dss_cons (ds_set 4 (de_of (d' := wD (-1, lone2 n a b)) (de_tup (dp_cons (de_un de_int u_neg) (dp_cons (de_call g cl_ (da_cons (de_var 0) (da_cons (s := .p (.dic ([((a : Nat) : Int), ((b : Nat) : Int)].map Sum.inl) ([90, 90].map Dl.chD))) (de_dicI2 (de_var 2) de_str (de_var 3) de_str hab') da_nil)) ⟨n, [((a : Nat) : Int), ((b : Nat) : Int)], [90, 90], h4, rfl, rfl, rfl⟩) dp_nil))) rfl) g.nd) (cn
        (dss_ret (de_lst (ds := (czF n a b).map wD) (dp_cons (de_var 4) (dp_cons (de_of (d' := wD (1, lone1 n a 90)) (de_tup (dp_cons de_int (dp_cons (de_call g cl_ (da_cons (de_var 0) (da_cons (s := .p (.dic ([((a : Nat) : Int)].map Sum.inl) ([90].map Dl.chD))) (de_dicI1 (de_var 2) de_str) da_nil)) ⟨n, [((a : Nat) : Int)], [90], h4, rfl, rfl, rfl⟩) dp_nil))) rfl)
          (dp_cons (de_of (d' := wD (1, lone1 n b 90)) (de_tup (dp_cons de_int (dp_cons (de_call g cl_ (da_cons (de_var 0) (da_cons (s := .p (.dic ([((b : Nat) : Int)].map Sum.inl) ([90].map Dl.chD))) (de_dicI1 (de_var 3) de_str) da_nil)) ⟨n, [((b : Nat) : Int)], [90], h4, rfl, rfl, rfl⟩) dp_nil))) rfl) dp_nil))) (sz (by show 3 ≤ _; decide)))))) cr))))), .rt⟩
end
end K62
set_option Elab.async false
set_option linter.all false
set_option maxRecDepth 100000
set_option maxHeartbeats 4000000
set_option autoImplicit false
namespace K62
open PySem PySem.Spec PyProof.Rows L2 Dl Cq
theorem flat_fold {α β : Type} (q : α → List β) : ∀ (l : List α) (t : List β), l.foldl (fun t a => t ++ q a) t = t ++ l.flatMap q
  | [], t => by simp
  | a :: l, t => by rw [List.foldl_cons, flat_fold q l, List.flatMap_cons]; simp
theorem ds_to {X : Cx} {N : En} {W : WX} {δ δ' : List (Option S)} {μ μ1 μ2 : List M} {stm : Stmt} (h : DS X N W δ μ stm (.nx δ' μ1)) (q : μ1 = μ2) : DS X N W δ μ stm (.nx δ' μ2) := q ▸ h
section
variable {P : Program} {w : World} {K : PySem.W.Frag} {mg : Str → Option Value} {base : Heap} {f C : Addr} {fd : FuncData}
abbrev qS (n : Nat) (l : Ln) (a b : Nat) (x4 : Option S) (rows : List Ln) (x6 x7 : Option S) : List (Option S) := [some (.p (.int (n : Nat))), some (.p (lnD l)), some (.p (inD a)), some (.p (inD b)), x4, some (.p (.lst (rows.map lnD))), x6, x7, none]
theorem q_tail {cdv : Value} {A0 : Around} {outer : List Env} {s0 : Shared} {H : Hp} {E : XK} {N : En} {W : WX} {kk k0 m n a b : Nat} {l : Ln} (g : Go (cxOf (L2.CX P w) P w K mg base qN "_law_quarters_of" (defScope sQuartersOf) f cdv A0 outer s0 H E) N W kk) (cself : Cf P w K mg base k0 "_law_quarters_of" [] (rQuartersOf m)) (hk : k0 ≤ kk) (h1 : 1 ≤ n) (h4 : n ≤ 4) (rows : List Ln) (hr : ∀ x ∈ rows, okLn n x ∧ isT x = false ∧ lev x = m) (h3 : rows.length ≤ 3) (μ : List M) (hA : N.A0.length ≤ μ.length) :
    DSs (cxOf (L2.CX P w) P w K mg base qN "_law_quarters_of" (defScope sQuartersOf) f cdv A0 outer s0 H E) N W (qS n l a b none rows none none) μ ((defBody sQuartersOf).drop 7) (.rt (.p (.lst ((rows.flatMap (quartersF n)).map wD))) (μ ++ [.gone])) := by
  have e1 : DS (cxOf (L2.CX P w) P w K mg base qN "_law_quarters_of" (defScope sQuartersOf) f cdv A0 outer s0 H E) N W (qS n l a b none rows none none) μ ((defBody sQuartersOf).getD 7 (.Pass ⟨0, 0, 0, 0⟩)) (.nx (qS n l a b none rows (some (.l μ.length)) none) (μ ++ [.lst []])) := ds_set 6 (de_lstM dp_nil) g.nd
  obtain ⟨δ', hlo, ⟨x7, rfl⟩, hI⟩ := loop_fo (X := cxOf (L2.CX P w) P w K mg base qN "_law_quarters_of" (defScope sQuartersOf) f cdv A0 outer s0 H E) (N := N) (W := W) (f := asName 7) (body := bodyOf sQuartersOf 8) (T := List Wd) (mu := fun t => μ ++ [.lst (t.map wD)]) (nx := fun x t => t ++ quartersF n x) (gd := lnD)
    (fun k t => t.length ≤ 200 - 30 * k ∧ k ≤ 4) (fun t δ => ∃ x7, δ = qS n l a b none rows (some (.l μ.length)) x7) rows (qS n l a b none rows (some (.l μ.length)) none) []
    (fun x hx k t δ hδ hI => by
      obtain ⟨x7, rfl⟩ := hδ
      obtain ⟨g1, g2, g3⟩ := hr x hx
      have lq := quartersF_len n x
      exact ⟨⟨by rw [List.length_append]; omega, by omega⟩, _, _, rfl, dss_cons (ds_to (ds_expr (de_bm PySem.F.plainAttrs_list PySem.F.slot_list_extend PySem.F.type_list_extend (de_var 6) (da_cons (de_call g cself (da_cons (de_var 0) (da_cons (de_var 7) da_nil)) ⟨n, x, h1, h4, g1, g2, g3, rfl, rfl, rfl⟩ hk) da_nil) (m_extend (end_at rfl) (end_at rfl) (sz (by rw [List.length_map, List.length_map]; omega))))) (by rw [end_set rfl, ← List.map_append])) (cn dss_nil), _, rfl⟩) ⟨_, rfl⟩ ⟨by show 0 ≤ _; omega, by omega⟩
  rw [flat_fold, List.nil_append] at hlo
  have e2 : (μ ++ [M.lst ((rows.flatMap (quartersF n)).map wD)]).set μ.length .gone = μ ++ [.gone] := end_set rfl
  have fin : DSs (cxOf (L2.CX P w) P w K mg base qN "_law_quarters_of" (defScope sQuartersOf) f cdv A0 outer s0 H E) N W (qS n l a b none rows (some (.l μ.length)) x7) (μ ++ [.lst ((rows.flatMap (quartersF n)).map wD)]) ((defBody sQuartersOf).drop 9) (.rt (.p (.lst ((rows.flatMap (quartersF n)).map wD))) (μ ++ [.gone])) :=
    dss_freeze (j := μ.length) (ds := (rows.flatMap (quartersF n)).map wD) (end_at rfl) hA 6 rfl (Eq.mp (congrArg (fun ν => DSs _ N W _ ν _ _) e2.symm) (dss_ret (de_var 6)))
  exact dss_cons e1 (cn (dss_cons (ds_for g (di_lst g (de_var 5)) (dg_name 7 g.nd) hlo) (cn fin)))
theorem ok_q1 (F : Fun K "_law_quarters_of" "_law_quarters_of" sQuartersOf f fd) (T : TM mg) (cself : Cf P w K mg base 3 "_law_quarters_of" [] (rQuartersOf 0)) : FnOk P w K mg base (L2.CX P w) 4 f fd ["wires", "line"] (spD K (rQuartersOf 1)) := by
  refine fn_D (k := 3) F scQuartersOf (fun ss μ r μ' h => by obtain ⟨_, _, _, _, _, _, _, rfl, _⟩ := h; rfl) ?_
  intro cdv A0 outer s0 H E N W ss μ r μ' g hA hR
  obtain ⟨n, l, h1, h4, hl, hT, hlev, rfl, rfl, rfl⟩ := hR
  cases l with
  | tn s L ps => cases hT
  | ab q s L => cases hlev
  | h a => cases hlev
  | pr k a b =>
    have hk : k = 1 := hlev
    subst hk
    obtain ⟨_, ha, hb, hab⟩ := hl
    have tl := q_tail (l := .pr 1 a b) (a := a) (b := b) g cself (Nat.le_refl _) h1 h4 [.h b, .pr 0 a b, .h b] (by
      intro x hx
      simp only [List.mem_cons, List.not_mem_nil, or_false] at hx
      rcases hx with rfl | rfl | rfl
      · exact ⟨hb, rfl, rfl⟩
      · exact ⟨⟨by decide, ha, hb, hab⟩, rfl, rfl⟩
      · exact ⟨hb, rfl, rfl⟩) (Nat.le_refl 3) μ' (by omega)
    refine ⟨_, dss_skip (dt_of (dt_cmp (de_ix (de_var 1) de_int (i_tup (i := 0) g rfl)) de_str o_eqS) (by decide +kernel)) (dss_skip (dt_of (dt_cmp (de_ix (de_var 1) de_int (i_tup (i := 0) g rfl)) de_str o_eqS) (by decide +kernel)) (dss_skip (dt_of (dt_cmp (de_ix (de_var 1) de_int (i_tup (i := 0) g rfl)) de_str o_eqS) (by decide +kernel))
      (dss_cons (ds_asg (de_of (d' := .tup [inD a, inD b]) (de_cutTf g (de_var 1) de_int) rfl) (dg_tup (dgs_cons (dg_name 2 g.nd) (dgs_cons (dg_name 3 g.nd) dgs_nil)) g.hK g.calm) rfl) (cn
      (dss_skip (dt_of (dt_cmp (de_ix (de_var 1) de_int (i_tup (i := 0) g rfl)) de_str o_eqS) (by decide +kernel))
        (dss_cons (ds_set 5 (de_lst (ds := ([.h b, .pr 0 a b, .h b] : List Ln).map lnD) (dp_cons (de_of (d' := lnD (.h b)) (de_tup (dp_cons de_str (dp_cons (de_var 3) dp_nil))) rfl) (dp_cons (de_of (d' := lnD (.pr 0 a b)) (de_tup (dp_cons de_str (dp_cons (de_var 2) (dp_cons (de_var 3) dp_nil)))) rfl) (dp_cons (de_of (d' := lnD (.h b)) (de_tup (dp_cons de_str (dp_cons (de_var 3) dp_nil))) rfl) dp_nil))) (sz (by show 3 ≤ _; decide))) g.nd) (cn
        (dss_skip (dt_of (dt_cmp (de_ix (de_var 1) de_int (i_tup (i := 0) g rfl)) de_str o_eqS) (by decide +kernel)) tl)))))))), ?_⟩
    have e : (μ' ++ [M.gone]).take μ'.length = μ' := List.take_left ..
    have e3 : ([.h b, .pr 0 a b, .h b] : List Ln).flatMap (quartersF n) = quartersF n (.pr 1 a b) := by
      show hF n b ++ (czF n a b ++ (hF n b ++ [])) = cxF n a b
      unfold cxF
      simp
    rw [e3]
    conv => rhs; rw [← e]
    exact .rtT (Nat.le_refl _)
theorem ok_q2 (F : Fun K "_law_quarters_of" "_law_quarters_of" sQuartersOf f fd) (T : TM mg) (cself : Cf P w K mg base 4 "_law_quarters_of" [] (rQuartersOf 1)) : FnOk P w K mg base (L2.CX P w) 5 f fd ["wires", "line"] (spD K (rQuartersOf 2)) := by
  refine fn_D (k := 4) F scQuartersOf (fun ss μ r μ' h => by obtain ⟨_, _, _, _, _, _, _, rfl, _⟩ := h; rfl) ?_
  intro cdv A0 outer s0 H E N W ss μ r μ' g hA hR
  obtain ⟨n, l, h1, h4, hl, hT, hlev, rfl, rfl, rfl⟩ := hR
  cases l with
  | tn s L ps => cases hT
  | ab q s L => cases hlev
  | h a => cases hlev
  | pr k a b =>
    have hk : k = 2 := hlev
    subst hk
    obtain ⟨_, ha, hb, hab⟩ := hl
    have tl := q_tail (l := .pr 2 a b) (a := a) (b := b) g cself (Nat.le_refl _) h1 h4 [.pr 1 a b, .pr 1 b a, .pr 1 a b] (by
      intro x hx
      simp only [List.mem_cons, List.not_mem_nil, or_false] at hx
      rcases hx with rfl | rfl | rfl
      · exact ⟨⟨by decide, ha, hb, hab⟩, rfl, rfl⟩
      · exact ⟨⟨by decide, hb, ha, Ne.symm hab⟩, rfl, rfl⟩
      · exact ⟨⟨by decide, ha, hb, hab⟩, rfl, rfl⟩) (Nat.le_refl 3) μ' (by omega)
    refine ⟨_, dss_skip (dt_of (dt_cmp (de_ix (de_var 1) de_int (i_tup (i := 0) g rfl)) de_str o_eqS) (by decide +kernel)) (dss_skip (dt_of (dt_cmp (de_ix (de_var 1) de_int (i_tup (i := 0) g rfl)) de_str o_eqS) (by decide +kernel)) (dss_skip (dt_of (dt_cmp (de_ix (de_var 1) de_int (i_tup (i := 0) g rfl)) de_str o_eqS) (by decide +kernel))
      (dss_cons (ds_asg (de_of (d' := .tup [inD a, inD b]) (de_cutTf g (de_var 1) de_int) rfl) (dg_tup (dgs_cons (dg_name 2 g.nd) (dgs_cons (dg_name 3 g.nd) dgs_nil)) g.hK g.calm) rfl) (cn
      (dss_skip (dt_of (dt_cmp (de_ix (de_var 1) de_int (i_tup (i := 0) g rfl)) de_str o_eqS) (by decide +kernel))
        (dss_cons (ds_set 5 (de_lst (ds := ([.h b, .pr 0 a b, .h b] : List Ln).map lnD) (dp_cons (de_of (d' := lnD (.h b)) (de_tup (dp_cons de_str (dp_cons (de_var 3) dp_nil))) rfl) (dp_cons (de_of (d' := lnD (.pr 0 a b)) (de_tup (dp_cons de_str (dp_cons (de_var 2) (dp_cons (de_var 3) dp_nil)))) rfl) (dp_cons (de_of (d' := lnD (.h b)) (de_tup (dp_cons de_str (dp_cons (de_var 3) dp_nil))) rfl) dp_nil))) (sz (by show 3 ≤ _; decide))) g.nd) (cn
        (dss_ifT (dt_of (dt_cmp (de_ix (de_var 1) de_int (i_tup (i := 0) g rfl)) de_str o_eqS) (by decide +kernel))
          (dss_cons (ds_set 5 (de_lst (ds := ([.pr 1 a b, .pr 1 b a, .pr 1 a b] : List Ln).map lnD) (dp_cons (de_of (d' := lnD (.pr 1 a b)) (de_tup (dp_cons de_str (dp_cons (de_var 2) (dp_cons (de_var 3) dp_nil)))) rfl) (dp_cons (de_of (d' := lnD (.pr 1 b a)) (de_tup (dp_cons de_str (dp_cons (de_var 3) (dp_cons (de_var 2) dp_nil)))) rfl) (dp_cons (de_of (d' := lnD (.pr 1 a b)) (de_tup (dp_cons de_str (dp_cons (de_var 2) (dp_cons (de_var 3) dp_nil)))) rfl) dp_nil))) (sz (by show 3 ≤ _; decide))) g.nd) (cn dss_nil)) (cn tl))))))))), ?_⟩
    have e : (μ' ++ [M.gone]).take μ'.length = μ' := List.take_left ..
    have e3 : ([.pr 1 a b, .pr 1 b a, .pr 1 a b] : List Ln).flatMap (quartersF n) = quartersF n (.pr 2 a b) := by
      show cxF n a b ++ (cxF n b a ++ (cxF n a b ++ [])) = cxF n a b ++ cxF n b a ++ cxF n a b
      simp
    rw [e3]
    conv => rhs; rw [← e]
    exact .rtT (Nat.le_refl _)
/-- any fixed line -/
def rQuarters0 : Rel := fun ss μ r μ' => ∃ (n : Nat) (l : Ln), 1 ≤ n ∧ n ≤ 4 ∧ okLn n l ∧ isT l = false ∧ ss = [.p (.int (n : Nat)), .p (lnD l)] ∧ r = .v (.p (.lst ((quartersF n l).map wD))) ∧ μ' = μ
theorem ok_qof {ps : List Str} (A : FnOk P w K mg base (L2.CX P w) 3 f fd ps (spD K (rQuartersOf 0))) (B : FnOk P w K mg base (L2.CX P w) 4 f fd ps (spD K (rQuartersOf 1))) (C : FnOk P w K mg base (L2.CX P w) 5 f fd ps (spD K (rQuartersOf 2))) : FnOk P w K mg base (L2.CX P w) 5 f fd ps (spD K rQuarters0) := by
  have three : ∀ vs H Q E, spD K rQuarters0 vs H Q E → spD K (rQuartersOf 0) vs H Q E ∨ spD K (rQuartersOf 1) vs H Q E ∨ spD K (rQuartersOf 2) vs H Q E := fun vs H Q E h => by
    obtain ⟨F1, A1, ss, μ, r, μ', ⟨n, l, h1, h4, hl, hT, h5, h6, h7⟩, h2⟩ := h
    have hlev : lev l = 0 ∨ lev l = 1 ∨ lev l = 2 := by
      cases l with
      | pr k a b =>
        have : k < 3 := hl.1
        show k = 0 ∨ k = 1 ∨ k = 2
        omega
      | ab q s L => exact .inl rfl
      | h a => exact .inl rfl
      | tn s L ps => exact .inl rfl
    rcases hlev with e | e | e
    · exact .inl ⟨F1, A1, ss, μ, r, μ', ⟨n, l, h1, h4, hl, hT, e, h5, h6, h7⟩, h2⟩
    · exact .inr (.inl ⟨F1, A1, ss, μ, r, μ', ⟨n, l, h1, h4, hl, hT, e, h5, h6, h7⟩, h2⟩)
    · exact .inr (.inr ⟨F1, A1, ss, μ, r, μ', ⟨n, l, h1, h4, hl, hT, e, h5, h6, h7⟩, h2⟩)
  refine ⟨fun vs H Q E q => ?_, fun A0 outer s H args us vs Q E hr he hb hv hs => ?_⟩
  · rcases three _ _ _ _ q with q | q | q
    · exact A.len vs H Q E q
    · exact B.len vs H Q E q
    · exact C.len vs H Q E q
  · rcases three _ _ _ _ hs with q | q | q
    · exact (A.mono (by decide)).run A0 outer s H args us vs Q E hr he hb hv q
    · exact (B.mono (by decide)).run A0 outer s H args us vs Q E hr he hb hv q
    · exact C.run A0 outer s H args us vs Q E hr he hb hv q
end
end K62
set_option Elab.async false
set_option linter.all false
set_option maxRecDepth 100000
set_option maxHeartbeats 4000000
set_option autoImplicit false
namespace K62
open PySem PySem.Spec PyProof.Rows L2 Dl Cq
/-! ### words led back by lines -/
theorem scLedFixed : FnScope ["wires", "line", "word", "about"] ["wires", "line", "word"] (defScope sLedFixed) := ⟨rfl, rfl, rfl, by decide +kernel, rfl, by decide +kernel, by decide +kernel⟩
def ledW (a x : Wd) : Wd := if qs a.2 x.2 % 2 = 0 then x else (a.1 * x.1 * sg (qs a.2 x.2 + 1), mk a.2 x.2)
def ledFix (n : Nat) (l : Ln) (x : Wd) : Wd := (quartersF n l).reverse.foldl (fun x a => ledW a x) x
theorem ledW_ok {n : Nat} {a x : Wd} (ha : okW n a) (hx : okW n x) : okW n (ledW a x) := by
  unfold ledW
  split
  · exact hx
  · refine ⟨mk_ok ha.ok hx.ok (ha.len.trans hx.len.symm), (mk_len (ha.len.trans hx.len.symm)).trans ha.len, ?_⟩
    have h : sg (qs a.2 x.2 + 1) = 1 ∨ sg (qs a.2 x.2 + 1) = -1 := by unfold sg; split <;> simp
    show a.1 * x.1 * sg (qs a.2 x.2 + 1) = 1 ∨ a.1 * x.1 * sg (qs a.2 x.2 + 1) = -1
    rcases ha.pm with h1 | h1 <;> rcases hx.pm with h2 | h2 <;> rcases h with h3 | h3 <;> rw [h1, h2, h3] <;> decide
theorem fold_ok {α : Type} {P : α → Prop} {Q : Wd → Prop} {q : Wd → α → Wd} (h : ∀ a x, P a → Q x → Q (q x a)) : ∀ (l : List α) (x : Wd), (∀ a ∈ l, P a) → Q x → Q (l.foldl q x)
  | [], x, _, hx => hx
  | a :: l, x, hl, hx => fold_ok h l (q x a) (fun b hb => hl b (List.mem_cons_of_mem _ hb)) (h a x (hl a List.mem_cons_self) hx)
theorem ledFix_ok {n : Nat} {l : Ln} {x : Wd} (h1 : 1 ≤ n) (h4 : n ≤ 4) (hl : okLn n l) (hx : okW n x) : okW n (ledFix n l x) :=
  fold_ok (P := okW n) (Q := okW n) (q := fun x a => ledW a x) (fun a x ha hx => ledW_ok ha hx) _ x (fun a ha => quartersF_ok h1 h4 hl a (List.mem_reverse.mp ha)) hx
def rLedFixed : Rel := fun ss μ r μ' => ∃ (n : Nat) (l : Ln) (x : Wd), 1 ≤ n ∧ n ≤ 4 ∧ okLn n l ∧ isT l = false ∧ okW n x ∧ ss = [.p (.int (n : Nat)), .p (lnD l), .p (wD x)] ∧ r = .v (.p (wD (ledFix n l x))) ∧ μ' = μ
section
variable {P : Program} {w : World} {K : PySem.W.Frag} {mg : Str → Option Value} {base : Heap} {f C : Addr} {fd : FuncData}
theorem ok_ledfixed (F : Fun K "_law_led_fixed" "_law_led_fixed" sLedFixed f fd) (cq : Cf P w K mg base 5 "_law_quarters_of" [] rQuarters0) (cp : Cf P w K mg base 2 "_law_do_pass" [] rDoPass) (cr : Cf P w K mg base 2 "_law_product" [] rProduct) : FnOk P w K mg base (L2.CX P w) 6 f fd ["wires", "line", "word"] (spD K rLedFixed) := by
  refine fn_D (k := 5) F scLedFixed (fun ss μ r μ' h => by obtain ⟨_, _, _, _, _, _, _, _, rfl, _⟩ := h; rfl) ?_
  intro cdv A0 outer s0 H E N W ss μ r μ' g hA hR
  obtain ⟨n, l, x, h1, h4, hl, hT, hx, rfl, rfl, rfl⟩ := hR
  obtain ⟨δ', hlo, ⟨x3, rfl⟩, _⟩ := loop_fo (X := cxOf (L2.CX P w) P w K mg base ["wires", "line", "word", "about"] "_law_led_fixed" (defScope sLedFixed) f cdv A0 outer s0 H E) (N := N) (W := W) (f := asName 3) (body := bodyOf sLedFixed 0) (T := Wd) (mu := fun _ => μ') (nx := fun a x => ledW a x) (gd := wD)
    (fun _ x => okW n x) (fun x δ => ∃ x3, δ = [some (.p (.int (n : Nat))), some (.p (lnD l)), some (.p (wD x)), x3]) (quartersF n l).reverse [some (.p (.int (n : Nat))), some (.p (lnD l)), some (.p (wD x)), none] x
    (fun a ha k x δ hδ hx => by
      obtain ⟨x3, rfl⟩ := hδ
      have ha := quartersF_ok h1 h4 hl a (List.mem_reverse.mp ha)
      have hln : a.2.length = x.2.length := ha.len.trans hx.len.symm
      exact ⟨ledW_ok ha hx, _, _, rfl, dss_cons (ds_set 2 (de_if (k := decide (qs a.2 x.2 % 2 = 0)) (dt_val (de_call g cp (da_cons (de_var 3) (da_cons (de_var 2) da_nil)) ⟨a.2, x.2, a.1, x.1, ha.ok, hx.ok, hln, rfl, rfl, rfl⟩))
        (fun h => de_of (d' := wD (ledW a x)) (de_var 2) (by unfold ledW; rw [if_pos (of_decide_eq_true h)])) (fun h => de_of (d' := wD (ledW a x)) (de_call g cr (da_cons (de_var 3) (da_cons (de_var 2) (da_cons de_int da_nil))) ⟨a.2, x.2, a.1, x.1, 1, ha.ok, hx.ok, hln, ha.pm, hx.pm, rfl, rfl, rfl⟩) (by unfold ledW; rw [if_neg (of_decide_eq_false h)]; rfl))) g.nd) (cn dss_nil), _, rfl⟩) ⟨_, rfl⟩ hx
  exact ⟨_, dss_cons (ds_for g (di_of (di_lst g (de_revL g (de_call g cq (da_cons (de_var 0) (da_cons (de_var 1) da_nil)) ⟨n, l, h1, h4, hl, hT, rfl, rfl, rfl⟩) (by rw [List.length_map]; have := quartersF_len n l; omega))) List.map_reverse.symm) (dg_name 3 g.nd) hlo) (cn (dss_ret (de_var 2))), .rt⟩
end
end K62
set_option Elab.async false
set_option linter.all false
set_option maxRecDepth 100000
set_option maxHeartbeats 4000000
set_option autoImplicit false
namespace Dl
open PySem PySem.Spec PyProof.Rows L2
/-! ## comprehensions over a list that changes, elements that change nothing -/
section
variable {X : Cx} {N : En} {W : WX} {n : Nat} {δ : List (Option S)} {μ μ1 : List M} {elt tg iter : Expr} {pos : Pos} {α : Type} {gd fy : α → D} {l : List α} {scope : Scope} {own : List (Str × Nat)} {f : As} {ix : List Nat} {j : Nat}
theorem lcm_go (g : Go X N W n) {a : Addr} {F1 : Hp} {A1 : List Addr} {H1 : Hp} {σ : L2.St} {D0 : Addr} {Qd : Hp → Prop} (hds : (l.map gd).length < sizeLine) (R1 : Rl N F1 A1 H1 σ δ μ1) (ha : A1[j]? = some a) (hm : μ1[j]? = some (.lst (l.map gd))) (hD : H1 D0 = none) (hix : ∀ i ∈ ix, i ∈ own.map (·.2))
    (hl : ∀ d ∈ l, ∃ δt, f (gd d) (wipeD δ (own.map (·.2))) = some δt ∧ DEB X N.K n scope elt δt μ1 (fy d) μ1)
    (hq : ∀ F' A' H' vs, Same F1 F' → A1 <+: A' → Rc N F' A' H' μ1 → H' D0 = some (.lst vs) → F' D0 = none → D0 ∉ A' → Reps N.K F' vs (l.map fy) → Qd H') :
    ∃ Wt : Nat → Nat → Hp → Prop, (∃ m, Wt 0 m (upd H1 D0 (.lst []))) ∧ ∀ i m H, Wt i m H →
      ((Itl N.K a).stop i H ∧ Qd H) ∨ ((Itl N.K a).go i H ∧ ∃ Nx : Hp → Prop, (∀ H', Nx H' → ∃ m', m' < m ∧ Wt (i + 1) m' H') ∧ ∀ x H', (Itl N.K a).yld i H x H' → tGd N f ix x (wipe σ (own.map (·.2))) H' fun σ2 H2 => wipe σ2 (own.map (·.2)) = wipe σ (own.map (·.2)) ∧ tYes σ2 H2 fun b H3 =>
        if b = true then teB X N.K n scope elt σ2 H3 fun y H4 => ∃ acc, H4 D0 = some (.lst acc) ∧ acc.length < sizeLine ∧ Nx (upd H4 D0 (.lst (acc ++ [y]))) else Nx H3) := by
  have h0 := R1.rc.fresh hD
  refine ⟨fun i m H => i ≤ l.length ∧ m = l.length - i ∧ ∃ F A vs, Same F1 F ∧ A1 <+: A ∧ Rc N F A H μ1 ∧ H D0 = some (.lst vs) ∧ F D0 = none ∧ D0 ∉ A ∧ Reps N.K F vs ((l.take i).map fy),
    ⟨l.length, Nat.zero_le _, by simp, F1, A1, [], Same.refl _, List.prefix_refl _, R1.rc.junk hD _, upd_same, h0.2.1, h0.2.2, by simp only [List.take_zero, List.map_nil]; exact .nil⟩, ?_⟩
  rintro i m H ⟨hi, rfl, F, A, vs, e, p, R, hv, hF, hA, hr⟩
  obtain ⟨ws, hw1, hw2⟩ := R.mus j a _ (getElem?_pre p ha) hm
  have hwl := hw2.length
  have wk := walk_list (K := N.K) (a := a) (xs := ws)
  rw [List.length_map] at hwl hds
  by_cases hlt : i < l.length
  · refine .inr ⟨wk.goes i H (by omega) (SqL.of hw1), fun H' => ∃ F A vs, Same F1 F ∧ A1 <+: A ∧ Rc N F A H' μ1 ∧ H' D0 = some (.lst vs) ∧ F D0 = none ∧ D0 ∉ A ∧ Reps N.K F vs ((l.take (i + 1)).map fy),
      fun H' ⟨F, A, vs, a⟩ => ⟨l.length - (i + 1), by omega, hlt, rfl, F, A, vs, a⟩, fun x H' hyd => ?_⟩
    obtain ⟨rfl, hx⟩ := wk.yields i H x H' (by omega) (SqL.of hw1) hyd
    obtain ⟨d0, hd0, rx⟩ := hw2.get' hx
    rw [List.getElem?_map] at hd0
    obtain ⟨d, hd, rfl⟩ := Option.map_eq_some_iff.mp hd0
    have Rf : Rl N F A H' σ δ μ1 := R1.to e p R
    obtain ⟨δt, hf, hde⟩ := hl d (List.mem_of_getElem? hd)
    refine ⟨F, A, _, μ1, gd d, _, Rf.wiped (own.map (·.2)), rx, hf, fun σ2 w2 R3 => ⟨(wipe_sub hix w2).trans (by
      apply List.ext_getElem?
      intro j
      rw [wipe_get, wipe_get]
      by_cases hj : j ∈ own.map (·.2)
      · rw [if_pos hj, if_pos hj]; cases σ[j]? <;> rfl
      · rw [if_neg hj, if_neg hj]), ?_⟩⟩
    have R3' : Rl ⟨N.K, H', F, A⟩ F A H' σ2 δt μ1 := ⟨R3.rc.entry, R3.len, R3.sl⟩
    unfold tYes
    simp only [if_true]
    refine ⟨⟨N.K, H', F, A⟩, F, A, δt, μ1, fy d, μ1, rfl, R3', hde, fun v F4 A4 H4 e4 p4 R4 rv => ?_⟩
    have b4 : Rc N F4 A4 H4 μ1 := R3.rc.back R4.rc
    have k4 : H4 D0 = some (.lst vs) := R4.rc.keep D0 _ hv hA
    have f4 : F4 D0 = none := by
      cases q : F4 D0 with
      | none => rfl
      | some o =>
        rcases R4.rc.new D0 o q with ⟨o', z⟩ | z
        · have z' : F D0 = some o' := z
          rw [hF] at z'; cases z'
        · have z' : H' D0 = none := z
          rw [hv] at z'; cases z'
    have a4 : D0 ∉ A4 := fun hm => by
      obtain ⟨B, eB, hB⟩ := R4.rc.pre
      rw [eB] at hm
      rcases List.mem_append.mp hm with z | z
      · exact hA z
      · have z' : H' D0 = none := hB _ z
        rw [hv] at z'; cases z'
    have vl := hr.length
    rw [List.length_map, List.length_take] at vl
    refine ⟨vs, k4, by omega, F4, A4, vs ++ [v], e.trans e4, p.trans p4, b4.poke f4 a4 h0.1 _, upd_same, f4, a4, ?_⟩
    rw [List.take_succ, hd, Option.toList_some, List.map_append]
    exact (hr.mono e4).snoc rv
  · have hi' : i = l.length := by omega
    subst hi'
    refine .inl ⟨?_, ?_⟩
    · have := wk.stops H (SqL.of hw1)
      rw [hwl] at this
      exact this
    rw [List.take_length] at hr
    exact hq F A H vs e p R hv hF hA hr
theorem lcm_read (g : Go X N W n) (hds : (l.map gd).length < sizeLine) (hix : ∀ i ∈ ix, i ∈ own.map (·.2)) (hm : μ1[j]? = some (.lst (l.map gd))) (hl : ∀ d ∈ l, ∃ δt, f (gd d) (wipeD δ (own.map (·.2))) = some δt ∧ DEB X N.K n scope elt δt μ1 (fy d) μ1)
    {σ : L2.St} {H : Hp} {Q : VK} {F : Hp} {A : List Addr} (R : Rl N F A H σ δ μ)
    (hq : ∀ D0 F' A' H' vs, Same F F' → A <+: A' → Rc N F' A' H' μ1 → H' D0 = some (.lst vs) → F' D0 = none → D0 ∉ A' → N.H0 D0 = none → Reps N.K F' vs (l.map fy) → Q (.ref D0) H') :
    tLc (iList X.K (tD N W δ μ (.v (.l j)) μ1)) (tGd N f ix) tYes (teB X N.K n scope elt) (own.map (·.2)) σ H Q :=
  ⟨F, A, R, fun v F1 A1 H1 e1 p1 R1 rv => by
    obtain ⟨a, rfl, ha⟩ := rv
    obtain ⟨ws, hw1, hw2⟩ := R1.rc.mus j a _ ha hm
    have hK := g.hK
    refine ⟨a, rfl, ⟨ws, SqL.of hw1⟩, fun D0 hD => ?_⟩
    rw [← hK]
    exact lcm_go g hds R1 ha hm hD hix hl fun F' A' H' vs e p r a b c d => hq D0 F' A' H' vs (e1.trans e) (p1.trans p) r a b c (R1.rc.fresh hD).1 d⟩
/-- name = [..], a new list that changes, over one that changes -/
theorem ds_setLcL (i : Nat) {x : Str} {py spos : Pos} (g : Go X N W n) (own : List (Str × Nat)) (hi : DE X N W δ μ iter (.v (.l j)) μ1) (hm : μ1[j]? = some (.lst (l.map gd))) (hg : ∀ s H C cl fp, DG (blkX X scope s H C cl fp) N tg f ix) (hl : ∀ d ∈ l, ∃ δt, f (gd d) (wipeD δ (own.map (·.2))) = some δt ∧ DEB X N.K n scope elt δt μ1 (fy d) μ1)
    (hsw : swapsWith (.ListComp elt [⟨tg, iter, [], 0⟩] scope pos) (some (.Name x py)) spos.line X.env = pure true := by exact sw_true rfl rfl rfl (by decide +kernel)) (hy : X.N[i]? = some x := by rfl) (hyl : X.env.scope.names.lookup x = some .local := by rfl)
    (ok : BlkOk X.N X.env.scope scope own := by exact blkOk_by (by decide +kernel)) (hds : (l.map gd).length < sizeLine := by first | (show _ < sizeLine; decide) | (simp; decide)) (hix : ∀ i ∈ ix, i ∈ own.map (·.2) := by decide) (hs : ∀ x, foldedSetIterable iter X.env x = pure x := by intro _; rfl) :
    DS X N W δ μ (.Assign [.Name x py] (.ListComp elt [⟨tg, iter, [], 0⟩] scope pos) spos) (.nx (δ.set i (some (.l μ1.length))) (μ1 ++ [.lst (l.map fy)])) :=
  PS.imp (ps_setLc (own := own) g.calm g.nd hy hyl hsw (pi_list hi) ok hg (fun _ _ _ _ _ => pts_nil) (fun s H C cl fp => pe_teB g) hs) fun K σ H ⟨F, A, R, k⟩ =>
    lcm_read g hds hix hm hl R (lc_mut (W := W) R (show EndE N W σ δ F A (μ1 ++ [.lst (l.map fy)]) _ (.v (.l μ1.length)) from fun v F' A' H' e p R' rv => k _ F' A' H' e p (R'.set rv)))
end
end Dl
set_option Elab.async false
set_option linter.all false
set_option maxRecDepth 100000
set_option maxHeartbeats 4000000
set_option autoImplicit false
namespace Dl
open PySem PySem.Spec PyProof.Rows L2
/-! ## str.replace of two texts of the code, behind a text of the code in the same row -/
section
variable {X : Cx} {N : En} {W : WX} {n : Nat} {δ : List (Option S)} {μ μ1 μ2 μ3 : List M} {a b o e1 e2 : Expr} {pos apos p p1 p2 p3 : Pos} {d : D} {s1 : S} {r : Rx} {x y z : Str} {j k k2 : Nat}
theorem c_lenD {ks : List Key} {ds : List D} : CallOk X N W (.builtin "len") μ [.p (.dic ks ds)] (.v (.p (.int (ks.length : Nat)))) μ :=
  ⟨_, call_lenD, fun σ δ F A H vs Q R rv kq => by
    obtain ⟨v, rfl, h⟩ := one_of rv
    generalize hd : D.dic ks ds = dd at h
    cases (show Rep N.K F v dd from h) with
    | @dic a kvs es h1 h2 =>
      cases hd
      refine ⟨a, kvs, rfl, R.rc.sub _ _ h1, ?_⟩
      rw [List.length_map] at kq
      exact kq.here R (.int _)
    | _ => cases hd⟩
end
end Dl
set_option Elab.async false
set_option linter.all false
set_option maxRecDepth 100000
set_option maxHeartbeats 4000000
set_option autoImplicit false
namespace Dl
open PySem PySem.Spec PyProof.Rows L2
section
variable {X : Cx} {N : En} {W : WX} {n : Nat} {δ : List (Option S)} {μ μ1 μ2 : List M} {a b : Expr} {pos : Pos}
theorem dw_andT {rest : List Expr} {k' : Bool} (h : DT X N W δ μ a true μ1) (h' : DW X N W δ μ1 (.BoolOp .And (b :: rest) pos) k' μ2) : DW X N W δ μ (.BoolOp .And (a :: b :: rest) pos) k' μ2 :=
  PW.imp (pw_and h h') fun σ H Q ⟨F, A, R, q⟩ => ⟨F, A, R, fun F1 A1 H1 e1 p1 R1 => iteT ⟨F1, A1, R1, fun F2 A2 H2 e2 p2 R2 => q F2 A2 H2 (e1.trans e2) (p1.trans p2) R2⟩⟩
end
end Dl
set_option Elab.async false
set_option linter.all false
set_option maxRecDepth 100000
set_option maxHeartbeats 4000000
set_option autoImplicit false
namespace K62
open PySem PySem.Spec PyProof.Rows L2 Dl Cq
/-! ### the words of a drawn start -/
abbrev swN : List Str := ["pot", "wires", "said", "lap", "gate", "wire", "word"]
theorem scStartWords : FnScope swN ["pot", "wires"] (defScope sStartWords) := ⟨rfl, rfl, rfl, by decide +kernel, rfl, by decide +kernel, by decide +kernel⟩
def swS (p : Pot) : Int := ([1, 1, -1] : List Int).getD (tk p 3) 1
def sw0 (n : Nat) (p : Pot) : List Wd := scanO (fun i p => (swS p, lone1 n i 90)) (fun _ p => tkP p 3) (List.range n) p
def sw0P (n : Nat) (p : Pot) : Pot := scanT (fun (_ : Nat) p => tkP p 3) (List.range n) p
structure SwT where
  p : Pot
  ws : List Wd
  jk : List M
def swX (n : Nat) (t : SwT) : SwT := ⟨gateP n t.p, t.ws.map (ledFix n (gateF n t.p)), t.jk ++ [.lst (t.ws.map wD)]⟩
def swT (n : Nat) (p : Pot) : SwT := iter (swX n) (tk (sw0P n p) 5) ⟨tkP (sw0P n p) 5, sw0 n p, []⟩
def prodW (a b : Wd) : Wd := (a.1 * b.1 * sg (qs a.2 b.2 + 0), mk a.2 b.2)
def w1A (ws : List Wd) (i : Nat) : Wd := ws.getD i (1, [])
def swL (n : Nat) (p : Pot) : List Wd := if 1 < n ∧ tk (swT n p).p 2 = 0 then (swT n p).ws.set 0 (prodW (w1A (swT n p).ws 0) (w1A (swT n p).ws 1)) else (swT n p).ws
def swP (n : Nat) (p : Pot) : Pot := if 1 < n then tkP (swT n p).p 2 else (swT n p).p
def muW (j : Nat) (μ : List M) (t : SwT) : List M := (μ.set j t.p.m ++ t.jk) ++ [.lst (t.ws.map wD)]
structure okS1 (n m : Nat) (t : SwT) : Prop where
  ok : t.p.ok m
  ws : ∀ x ∈ t.ws, okW n x
  len : t.ws.length = n
theorem swS_pm (p : Pot) : pm (swS p) := getD_in (q := pm) (l := [1, 1, -1]) (fun x hx => by
  simp only [List.mem_cons, List.not_mem_nil, or_false] at hx
  rcases hx with rfl | rfl | rfl
  · exact .inl rfl
  · exact .inl rfl
  · exact .inr rfl) (tk_lt (by decide))
theorem sw0_ok {n : Nat} {p : Pot} (h1 : 1 ≤ n) (h4 : n ≤ 4) : ∀ x ∈ sw0 n p, okW n x :=
  scanO_all (P := okW n) (fun _ => True) (fun _ _ _ => trivial) (fun i q _ => (⟨(lone1_ok (n := n) (a := i) (c := 90) h1 h4 (by decide)).ok, (lone1_ok (n := n) (a := i) (c := 90) h1 h4 (by decide)).len, swS_pm q⟩ : okW n (swS q, lone1 n i 90))) _ p trivial
theorem sw0_len (n : Nat) (p : Pot) : (sw0 n p).length = n := by
  unfold sw0
  rw [scanO_len, List.length_range]
theorem sw0P_ok {n m : Nat} {p : Pot} (h : p.ok m) : (sw0P n p).ok (m + n) := by
  have := scanT_ok 3 (List.range n) m p h
  rw [List.length_range] at this
  exact this
theorem swX_ok {n m : Nat} {t : SwT} (h1 : 1 ≤ n) (h4 : n ≤ 4) (h : okS1 n m t) : okS1 n (m + 8) (swX n t) :=
  ⟨gateP_ok h4 h.ok, fun x hx => by
    obtain ⟨y, hy, rfl⟩ := List.mem_map.mp hx
    exact ledFix_ok h1 h4 (gate_is h1 h4) (h.ws y hy), by
    show (t.ws.map _).length = n
    rw [List.length_map]; exact h.len⟩
theorem swI_ok {n : Nat} (h1 : 1 ≤ n) (h4 : n ≤ 4) : ∀ (k m : Nat) (t : SwT), okS1 n m t → okS1 n (m + 8 * k) (iter (swX n) k t)
  | 0, m, t, h => h
  | k + 1, m, t, h => by
    have := swI_ok h1 h4 k (m + 8) (swX n t) (swX_ok h1 h4 h)
    rw [show m + 8 + 8 * k = m + 8 * (k + 1) by omega] at this
    exact this
theorem sw_start {n m : Nat} {p : Pot} (h1 : 1 ≤ n) (h4 : n ≤ 4) (h : p.ok m) : okS1 n (m + 5) ⟨tkP (sw0P n p) 5, sw0 n p, []⟩ := ⟨(tkP_ok (sw0P_ok h)).mono (by omega), sw0_ok h1 h4, sw0_len n p⟩
theorem swT_ok {n m : Nat} {p : Pot} (h1 : 1 ≤ n) (h4 : n ≤ 4) (h : p.ok m) : okS1 n (m + 40) (swT n p) := by
  have ht := tk_lt (p := sw0P n p) (u := 5) (by decide)
  have := swI_ok h1 h4 (tk (sw0P n p) 5) (m + 5) _ (sw_start h1 h4 h)
  exact ⟨this.ok.mono (by omega), this.ws, this.len⟩
theorem swP_ok {n m : Nat} {p : Pot} (h1 : 1 ≤ n) (h4 : n ≤ 4) (h : p.ok m) : (swP n p).ok (m + 41) := by
  have := (swT_ok h1 h4 h).ok
  unfold swP
  split
  · exact tkP_ok this
  · exact this.mono (by omega)
theorem w1A_in {ws : List Wd} {i : Nat} (h : i < ws.length) : w1A ws i ∈ ws := by
  unfold w1A
  rw [List.getD_eq_getElem?_getD, List.getElem?_eq_getElem h]
  exact List.getElem_mem h
theorem prodW_ok {n : Nat} {a b : Wd} (ha : okW n a) (hb : okW n b) : okW n (prodW a b) := by
  have hl := ha.len.trans hb.len.symm
  refine ⟨mk_ok ha.ok hb.ok hl, (mk_len hl).trans ha.len, ?_⟩
  have h : sg (qs a.2 b.2 + 0) = 1 ∨ sg (qs a.2 b.2 + 0) = -1 := by unfold sg; split <;> simp
  show a.1 * b.1 * sg (qs a.2 b.2 + 0) = 1 ∨ a.1 * b.1 * sg (qs a.2 b.2 + 0) = -1
  rcases ha.pm with h1 | h1 <;> rcases hb.pm with h2 | h2 <;> rcases h with h3 | h3 <;> rw [h1, h2, h3] <;> decide
section
variable {j : Nat} {μ : List M} {t : SwT} {x : M} {p' : Pot} {l : List Wd}
theorem mw_at (h : μ[j]? = some x) : (muW j μ t)[j]? = some t.p.m := by
  have := (List.getElem?_eq_some_iff.mp h).1
  unfold muW
  rw [List.getElem?_append_left (by simp; omega), List.getElem?_append_left (by simpa using this)]
  exact set_at h
theorem mw_set (h : μ[j]? = some x) : (muW j μ t).set j p'.m = muW j μ ⟨p', t.ws, t.jk⟩ := by
  have := (List.getElem?_eq_some_iff.mp h).1
  unfold muW
  rw [List.set_append_left _ _ (by simp; omega), List.set_append_left _ _ (by simpa using this), List.set_set]
theorem mw_l : (muW j μ t)[μ.length + t.jk.length]? = some (.lst (t.ws.map wD)) := by
  unfold muW
  exact end_at (by simp)
theorem mw_len : (muW j μ t).length = μ.length + (t.jk ++ [M.lst (t.ws.map wD)]).length := by
  unfold muW
  simp
theorem mw_app : muW j μ t ++ [.lst (l.map wD)] = muW j μ ⟨t.p, l, t.jk ++ [.lst (t.ws.map wD)]⟩ := by
  unfold muW
  simp
theorem mw_lset {a : M} : (muW j μ t).set (μ.length + t.jk.length) a = (μ.set j t.p.m ++ t.jk) ++ [a] := by
  unfold muW
  exact end_set (by simp)
end
def rStartWords : Rel := fun ss μ r μ' => ∃ (j : Nat) (p : Pot) (n : Nat), p.ok 8500 ∧ 1 ≤ n ∧ n ≤ 4 ∧ ss = [.l j, .p (.int (n : Nat))] ∧ μ[j]? = some p.m ∧ r = .v (.p (.lst ((swL n p).map wD))) ∧ μ' = μ.set j (swP n p).m
section
variable {P : Program} {w : World} {K : PySem.W.Frag} {mg : Str → Option Value} {base : Heap} {f C : Addr} {fd : FuncData}
theorem ok_startwords (F : Fun K "_law_start_words" "_law_start_words" sStartWords f fd) (T : TM mg) (ct : Cf P w K mg base 1 "_law_take" [] rTk) (co : Cf P w K mg base 2 "_law_of" [] rOf) (cl_ : Cf P w K mg base 1 "_law_lone" [] rLLone) (cg : Cf P w K mg base 4 "_law_gate" [] rGate) (cf : Cf P w K mg base 6 "_law_led_fixed" [] rLedFixed) (cp : Cf P w K mg base 2 "_law_product" [] rProduct) : FnOk P w K mg base (L2.CX P w) 7 f fd ["pot", "wires"] (spD K rStartWords) := by
  refine fn_D (k := 6) F scStartWords (fun ss μ r μ' h => by obtain ⟨_, _, _, _, _, _, rfl, _⟩ := h; rfl) ?_
  intro cdv A0 outer s0 H E N W ss μ r μ' g hA hR
  obtain ⟨j, p, n, hp, h1, h4, rfl, hj, rfl, rfl⟩ := hR
  have hs0 : okS1 n 8505 ⟨tkP (sw0P n p) 5, sw0 n p, []⟩ := sw_start h1 h4 hp
  have hsT : okS1 n 8540 (swT n p) := swT_ok h1 h4 hp
  have hk := tk_lt (p := sw0P n p) (u := 5) (by decide)
  have lc : DS (cxOf (L2.CX P w) P w K mg base swN "_law_start_words" (defScope sStartWords) f cdv A0 outer s0 H E) N W (starts swN [.l j, .p (.int (n : Nat))]) μ ((defBody sStartWords).getD 0 (.Pass ⟨0, 0, 0, 0⟩)) (.nx ((starts swN [.l j, .p (.int (n : Nat))]).set 2 (some (.l μ.length))) (muW j μ ⟨sw0P n p, sw0 n p, []⟩)) := by
    have e : (.l μ.length : S) = .l (μ.set j (sw0P n p).m).length := by rw [List.length_set]
    have eM : muW j μ ⟨sw0P n p, sw0 n p, []⟩ = μ.set j (sw0P n p).m ++ [.lst ((sw0 n p).map wD)] := by unfold muW; rw [List.append_nil]
    rw [e, eM]
    refine ds_setLcM 2 g [("wire", 5)] (di_of (di_range1 (da_cons (de_var 1) da_nil) T.range (by omega)) (by rw [Int.toNat_natCast, rng_in])) (fun s H C cl fp => dg_name 5 g.nd) ?_ (ok := blkOk_by (by rfl)) (hds := ?_)
    · have e0 : μ = μ.set j p.m := (set_self hj).symm
      refine cmp_start e0 ?_
      rw [← show scanO (fun (i : Nat) p => wD (swS p, lone1 n i 90)) (fun _ p => tkP p 3) (List.range n) p = (sw0 n p).map wD from scanO_map wD _ _ _ _]
      exact of_scan (T := Pot) (mu := fun t => μ.set j t.m) (fun m t => m ≤ 4 ∧ t.ok (8950 - m)) (List.range n) p ⟨by simpa using h4, hp.mono (by simp; omega)⟩ fun m t i hi' hi => ⟨⟨by omega, (tkP_ok hi.2).mono (by omega)⟩, _, rfl, fun s H C cl fp N' hK g' => de_of (d' := wD (swS t, lone1 n i 90)) (de_tup (dp_cons (de_call (r := .v (.p (.int (swS t)))) (μ2 := μ.set j (tkP t 3).m) g' co (da_cons (de_var 0) (da_cons (s := .p (.lst (([1, 1, -1] : List Int).map D.int))) (de_lst (dp_cons de_int (dp_cons de_int (dp_cons (de_un de_int u_neg) dp_nil)))) da_nil)) ⟨j, t, hi.2.mono (by omega), set_at hj, .inl ⟨Int, D.int, 1, [1, 1, -1], by simp, by decide, rfl, rfl, (List.set_set ..).symm⟩⟩) (dp_cons (de_call g' cl_ (da_cons (de_var 1) (da_cons (s := .p (.dic ([((i : Nat) : Int)].map Sum.inl) ([90].map Dl.chD))) (de_dicI1 (de_var 5) de_str) da_nil)) ⟨n, [((i : Nat) : Int)], [90], h4, rfl, rfl, rfl⟩) dp_nil)) (sz (by show 2 ≤ _; decide))) rfl⟩
    · rw [List.length_map, List.length_range]
      exact sz' (by omega)
  have hone : ∀ k t d δ, (∃ x3 x4 x5 x6, δ = [some (.l j), some (.p (.int (n : Nat))), some (.l (μ.length + t.jk.length)), x3, x4, x5, x6]) → (okS1 n (8800 - 8 * (k + 1)) t ∧ k + 1 ≤ 10) → ((okS1 n (8800 - 8 * k) (swX n t) ∧ k ≤ 10) ∧
      ∃ δt δ1, (asName 3) d δ = some δt ∧ DSs (cxOf (L2.CX P w) P w K mg base swN "_law_start_words" (defScope sStartWords) f cdv A0 outer s0 H E) N W δt (muW j μ t) (bodyOf sStartWords 1) (.nx δ1 (muW j μ (swX n t))) ∧ (∃ x3 x4 x5 x6, δ1 = [some (.l j), some (.p (.int (n : Nat))), some (.l (μ.length + (swX n t).jk.length)), x3, x4, x5, x6])) := by
    rintro k t d _ ⟨x3, x4, x5, x6, rfl⟩ ⟨ok, hk⟩
    have ok2 := swX_ok h1 h4 ok
    have dS : DS (cxOf (L2.CX P w) P w K mg base swN "_law_start_words" (defScope sStartWords) f cdv A0 outer s0 H E) N W [some (.l j), some (.p (.int (n : Nat))), some (.l (μ.length + t.jk.length)), some (.p d), some (.p (lnD (gateF n t.p))), x5, x6] (muW j μ ⟨gateP n t.p, t.ws, t.jk⟩) ((bodyOf sStartWords 1).getD 1 (.Pass ⟨0, 0, 0, 0⟩)) (.nx [some (.l j), some (.p (.int (n : Nat))), some (.l (μ.length + (swX n t).jk.length)), some (.p d), some (.p (lnD (gateF n t.p))), x5, x6] (muW j μ (swX n t))) := by
      have eM : muW j μ (swX n t) = muW j μ ⟨gateP n t.p, t.ws, t.jk⟩ ++ [.lst (t.ws.map fun x => wD (ledFix n (gateF n t.p) x))] := by
        show _ = _ ++ [M.lst (t.ws.map (wD ∘ ledFix n (gateF n t.p)))]
        rw [← List.map_map, mw_app]
        rfl
      have eL : (.l (μ.length + (swX n t).jk.length) : S) = .l (muW j μ ⟨gateP n t.p, t.ws, t.jk⟩).length := by
        rw [mw_len]
        rfl
      rw [eM, eL]
      exact ds_setLcL 2 g [("word", 6)] (gd := wD) (fy := fun x => wD (ledFix n (gateF n t.p) x)) (de_var 2) (l := t.ws) (j := μ.length + t.jk.length) (mw_l (t := ⟨gateP n t.p, t.ws, t.jk⟩)) (fun s H C cl fp => dg_name 6 g.nd) (fun x hx => ⟨_, rfl, fun s H C' cl fp N' hK g' => de_call g' cf (da_cons (de_var 1) (da_cons (de_var 4) (da_cons (de_var 6) da_nil))) ⟨n, gateF n t.p, x, h1, h4, gate_is h1 h4, gate_isT n t.p, ok.ws x hx, rfl, rfl, rfl⟩⟩) (ok := blkOk_by (by rfl)) (hds := by rw [List.length_map, ok.len]; exact sz' (by omega))
    exact ⟨⟨⟨ok2.ok.mono (by omega), ok2.ws, ok2.len⟩, by omega⟩, _, _, rfl, dss_cons (ds_set 4 (de_call (r := .v (.p (lnD (gateF n t.p)))) (μ2 := muW j μ ⟨gateP n t.p, t.ws, t.jk⟩) g cg (da_cons (de_var 0) (da_cons (de_var 1) da_nil)) ⟨j, t.p, n, ok.ok.mono (by omega), h1, h4, rfl, mw_at hj, rfl, (mw_set hj).symm⟩) g.nd) (cn (dss_cons dS (cn dss_nil))), _, _, _, _, rfl⟩
  have er : (rangeD 0 (tk (sw0P n p) 5)).length = tk (sw0P n p) 5 := by simp [rangeD]
  obtain ⟨δ', hl, ⟨x3, x4, x5, x6, rfl⟩, hI⟩ := loop_st (X := (cxOf (L2.CX P w) P w K mg base swN "_law_start_words" (defScope sStartWords) f cdv A0 outer s0 H E)) (N := N) (W := W) (f := asName 3) (body := bodyOf sStartWords 1) (T := SwT) (mu := muW j μ) (nx := swX n)
    (fun k t => okS1 n (8800 - 8 * k) t ∧ k ≤ 10) (fun t δ => ∃ x3 x4 x5 x6, δ = [some (.l j), some (.p (.int (n : Nat))), some (.l (μ.length + t.jk.length)), x3, x4, x5, x6]) hone (rangeD 0 (tk (sw0P n p) 5)) [some (.l j), some (.p (.int (n : Nat))), some (.l μ.length), none, none, none, none] ⟨tkP (sw0P n p) 5, sw0 n p, []⟩ ⟨_, _, _, _, rfl⟩
    (by rw [er]; exact ⟨⟨hs0.ok.mono (by omega), hs0.ws, hs0.len⟩, by omega⟩)
  rw [er] at hl
  have hl : Loop (cxOf (L2.CX P w) P w K mg base swN "_law_start_words" (defScope sStartWords) f cdv A0 outer s0 H E) N W (asName 3) (bodyOf sStartWords 1) (rangeD 0 (tk (sw0P n p) 5)) [some (.l j), some (.p (.int (n : Nat))), some (.l μ.length), none, none, none, none] (muW j μ ⟨tkP (sw0P n p) 5, sw0 n p, []⟩) (.nx [some (.l j), some (.p (.int (n : Nat))), some (.l (μ.length + (swT n p).jk.length)), x3, x4, x5, x6] (muW j μ (swT n p))) := by
    exact hl
  have lp : DS (cxOf (L2.CX P w) P w K mg base swN "_law_start_words" (defScope sStartWords) f cdv A0 outer s0 H E) N W ((starts swN [.l j, .p (.int (n : Nat))]).set 2 (some (.l μ.length))) (muW j μ ⟨sw0P n p, sw0 n p, []⟩) ((defBody sStartWords).getD 1 (.Pass ⟨0, 0, 0, 0⟩)) (.nx [some (.l j), some (.p (.int (n : Nat))), some (.l (μ.length + (swT n p).jk.length)), x3, x4, x5, x6] (muW j μ (swT n p))) :=
    ds_for g (di_of (di_range1 (da_cons (s := .p (.int ((tk (sw0P n p) 5 : Nat) : Int))) (de_call (μ2 := muW j μ ⟨tkP (sw0P n p) 5, sw0 n p, []⟩) g ct (da_cons (de_var 0) (da_cons de_int da_nil)) ⟨j, sw0P n p, 5, (sw0P_ok hp).mono (by omega), by decide, by decide, rfl, mw_at (t := ⟨sw0P n p, sw0 n p, []⟩) hj, rfl, (mw_set (t := ⟨sw0P n p, sw0 n p, []⟩) hj).symm⟩) da_nil) T.range (by omega)) (by rw [Int.toNat_natCast])) (dg_name 3 g.nd) hl
  have fin : ∀ (ws : List Wd) (q : Pot), q = swP n p → ws = swL n p → ∃ o, DSs (cxOf (L2.CX P w) P w K mg base swN "_law_start_words" (defScope sStartWords) f cdv A0 outer s0 H E) N W [some (.l j), some (.p (.int (n : Nat))), some (.l (μ.length + (swT n p).jk.length)), x3, x4, x5, x6] (muW j μ ⟨q, ws, (swT n p).jk⟩) ((defBody sStartWords).drop 3) o ∧ Fit μ.length o (.v (.p (.lst ((swL n p).map wD)))) (μ.set j (swP n p).m) := by
    rintro ws q rfl rfl
    refine ⟨_, dss_freeze (mw_l (t := ⟨swP n p, swL n p, (swT n p).jk⟩)) (by omega) 2 rfl (dss_ret (de_var 2)), ?_⟩
    have e2 : (((muW j μ ⟨swP n p, swL n p, (swT n p).jk⟩).set (μ.length + (swT n p).jk.length) .gone)).take μ.length = μ.set j (swP n p).m := by
      rw [mw_lset (t := ⟨swP n p, swL n p, (swT n p).jk⟩), List.append_assoc, List.take_append_of_le_length (by simp), List.take_of_length_le (by simp)]
    conv => rhs; rw [← e2]
    exact .rtT (Nat.le_refl _)
  have cnd : DT (cxOf (L2.CX P w) P w K mg base swN "_law_start_words" (defScope sStartWords) f cdv A0 outer s0 H E) N W [some (.l j), some (.p (.int (n : Nat))), some (.l (μ.length + (swT n p).jk.length)), x3, x4, x5, x6] (muW j μ (swT n p)) (ifC ((defBody sStartWords).getD 2 (.Pass ⟨0, 0, 0, 0⟩))) (decide (1 < n ∧ tk (swT n p).p 2 = 0)) (muW j μ ⟨swP n p, (swT n p).ws, (swT n p).jk⟩) := by
    by_cases h : 1 < n
    · have eP : swP n p = tkP (swT n p).p 2 := if_pos h
      rw [eP]
      refine dt_of (dt_w (dw_andT (k' := decide (tk (swT n p).p 2 = 0)) (dt_of (dt_cmp (de_var 1) de_int o_gt) (decide_eq_true (show ((n : Nat) : Int) > 1 by omega))) (dw_and1 (dt_of (dt_cmp (de_call (μ2 := muW j μ ⟨tkP (swT n p).p 2, (swT n p).ws, (swT n p).jk⟩) g ct (da_cons (de_var 0) (da_cons de_int da_nil)) ⟨j, (swT n p).p, 2, hsT.ok.mono (by omega), by decide, by decide, rfl, mw_at (t := swT n p) hj, rfl, (mw_set (t := swT n p) hj).symm⟩) de_int o_eqI) (decide_eq_decide.mpr (by omega)))))) ?_
      exact decide_eq_decide.mpr ⟨fun q => ⟨h, q⟩, fun q => q.2⟩
    · have eP : swP n p = (swT n p).p := if_neg h
      rw [eP]
      refine dt_of (dt_w (dw_and (k := false) (k' := true) (dt_of (dt_cmp (de_var 1) de_int o_gt) (decide_eq_false (show ¬ ((n : Nat) : Int) > 1 by omega))) (fun h => by cases h))) ?_
      rw [Bool.false_and]
      exact (decide_eq_false fun q => h q.1).symm
  by_cases hc : 1 < n ∧ tk (swT n p).p 2 = 0
  · have eL : swL n p = (swT n p).ws.set 0 (prodW (w1A (swT n p).ws 0) (w1A (swT n p).ws 1)) := if_pos hc
    obtain ⟨o, ho1, ho2⟩ := fin (swL n p) (swP n p) rfl rfl
    have a0 := hsT.ws _ (w1A_in (i := 0) (by rw [hsT.len]; omega))
    have a1 := hsT.ws _ (w1A_in (i := 1) (by rw [hsT.len]; omega))
    have g0 : ∀ i, i < 2 → atI ((swT n p).ws.map wD) ((i : Nat) : Int) = some (wD (w1A (swT n p).ws i)) := fun i hi => at_getD (by rw [hsT.len]; omega)
    refine ⟨o, dss_cons lc (cn (dss_cons lp (cn (dss_ifT (dt_of cnd (decide_eq_true hc)) (dss_cons (ds_setI (q := μ.length + (swT n p).jk.length) (ds := (swT n p).ws.map wD) (k := 0) (d := wD (prodW (w1A (swT n p).ws 0) (w1A (swT n p).ws 1))) (de_call g cp (da_cons (de_ix (de_var 2) de_int (i_lstM (i := ((0 : Nat) : Int)) (mw_l (t := ⟨swP n p, (swT n p).ws, (swT n p).jk⟩)) (g0 0 (by decide)))) (da_cons (de_ix (de_var 2) de_int (i_lstM (i := ((1 : Nat) : Int)) (mw_l (t := ⟨swP n p, (swT n p).ws, (swT n p).jk⟩)) (g0 1 (by decide)))) (da_cons de_int da_nil))) ⟨(w1A (swT n p).ws 0).2, (w1A (swT n p).ws 1).2, (w1A (swT n p).ws 0).1, (w1A (swT n p).ws 1).1, 0, a0.ok, a1.ok, a0.len.trans a1.len.symm, a0.pm, a1.pm, rfl, rfl, rfl⟩) (de_var 2) de_int (mw_l (t := ⟨swP n p, (swT n p).ws, (swT n p).jk⟩)) ?_) (cn dss_nil)) (cn ?_))))), ho2⟩
    · rw [List.length_map, hsT.len]
      unfold ixN
      simp
      omega
    · have e3 : (muW j μ ⟨swP n p, (swT n p).ws, (swT n p).jk⟩).set (μ.length + (swT n p).jk.length) (.lst (((swT n p).ws.map wD).set 0 (wD (prodW (w1A (swT n p).ws 0) (w1A (swT n p).ws 1))))) = muW j μ ⟨swP n p, swL n p, (swT n p).jk⟩ := by
        rw [mw_lset (t := ⟨swP n p, (swT n p).ws, (swT n p).jk⟩), ← List.map_set, ← eL]
        rfl
      rw [e3]
      exact ho1
  · have eL : swL n p = (swT n p).ws := if_neg hc
    obtain ⟨o, ho1, ho2⟩ := fin (swT n p).ws (swP n p) rfl eL.symm
    exact ⟨o, dss_cons lc (cn (dss_cons lp (cn (dss_skip (dt_of cnd (decide_eq_false hc)) ho1)))), ho2⟩
end
end K62
set_option Elab.async false
set_option linter.all false
set_option maxRecDepth 100000
set_option maxHeartbeats 4000000
set_option autoImplicit false
namespace Dl
/-! ## products of letters: all different where none lies among those before it -/
def twice (f : List (List Nat)) (w : List Nat) : List (List Nat) := f ++ f.map fun a => mk a w
def spanF (f : List (List Nat)) (ws : List (List Nat)) : List (List Nat) := ws.foldl twice f
structure okS (n : Nat) (L : List Nat) : Prop where
  ok : okL L
  len : L.length = n
structure Grp (n : Nat) (f : List (List Nat)) : Prop where
  ok : ∀ a ∈ f, okS n a
  nd : f.Nodup
  one : List.replicate n 73 ∈ f
  mul : ∀ a ∈ f, ∀ b ∈ f, mk a b ∈ f
section
variable {n : Nat} {f : List (List Nat)} {w : List Nat}
theorem okS.prod {a b : List Nat} (ha : okS n a) (hb : okS n b) : okS n (Dl.mk a b) :=
  ⟨mk_ok ha.ok hb.ok (ha.len.trans hb.len.symm), (mk_len (ha.len.trans hb.len.symm)).trans ha.len⟩
theorem okS.back {a b : List Nat} (ha : okS n a) (hb : okS n b) : Dl.mk (Dl.mk a b) b = a := (mk_back ha.ok hb.ok (ha.len.trans hb.len.symm)).1
theorem okS.assoc {a b c : List Nat} (ha : okS n a) (hb : okS n b) (hc : okS n c) : Dl.mk (Dl.mk a b) c = Dl.mk a (Dl.mk b c) := (mk_assoc ha.ok hb.ok hc.ok (ha.len.trans hb.len.symm) (hb.len.trans hc.len.symm)).1
theorem okS.one {a : List Nat} (ha : okS n a) : Dl.mk (List.replicate n 73) a = a := by
  have := (mk_I a ha.ok.all).1
  rw [ha.len] at this
  exact this
theorem nodup_map {f : List (List Nat)} (hf : f.Nodup) {g : List Nat → List Nat} (h : ∀ a ∈ f, ∀ b ∈ f, g a = g b → a = b) : (f.map g).Nodup := by
  induction f with
  | nil => exact List.nodup_nil
  | cons a f ih =>
    rw [List.nodup_cons] at hf
    rw [List.map_cons, List.nodup_cons]
    refine ⟨fun z => ?_, ih hf.2 fun x hx y hy => h x (List.mem_cons_of_mem _ hx) y (List.mem_cons_of_mem _ hy)⟩
    obtain ⟨b, hb, e⟩ := List.mem_map.mp z
    exact hf.1 (h b (List.mem_cons_of_mem _ hb) a List.mem_cons_self e ▸ hb)
theorem Grp.step (G : Grp n f) (hw : okS n w) (hn : w ∉ f) : Grp n (twice f w) := by
  refine ⟨fun a ha => ?_, ?_, List.mem_append_left _ G.one, fun a ha b hb => ?_⟩
  · rcases List.mem_append.mp ha with ha | ha
    · exact G.ok a ha
    · obtain ⟨x, hx, rfl⟩ := List.mem_map.mp ha
      exact (G.ok x hx).prod hw
  · refine List.nodup_append.mpr ⟨G.nd, nodup_map G.nd fun a ha b hb e => ?_, fun a ha b hb e => ?_⟩
    · have h1 := (G.ok a ha).back hw
      have h2 := (G.ok b hb).back hw
      rw [← h1, ← h2, e]
    · subst e
      obtain ⟨x, hx, e⟩ := List.mem_map.mp hb
      have h1 := hw.back (G.ok x hx)
      rw [mk_comm w x, e] at h1
      exact hn (h1 ▸ G.mul a ha x hx)
  · unfold twice at *
    rcases List.mem_append.mp ha with ha | ha <;> rcases List.mem_append.mp hb with hb | hb
    · exact List.mem_append_left _ (G.mul a ha b hb)
    · obtain ⟨y, hy, rfl⟩ := List.mem_map.mp hb
      rw [← (G.ok a ha).assoc (G.ok y hy) hw]
      exact List.mem_append_right _ (List.mem_map.mpr ⟨_, G.mul a ha y hy, rfl⟩)
    · obtain ⟨x, hx, rfl⟩ := List.mem_map.mp ha
      rw [mk_comm (Dl.mk x w) b, ← (G.ok b hb).assoc (G.ok x hx) hw]
      exact List.mem_append_right _ (List.mem_map.mpr ⟨_, G.mul b hb x hx, rfl⟩)
    · obtain ⟨x, hx, rfl⟩ := List.mem_map.mp ha
      obtain ⟨y, hy, rfl⟩ := List.mem_map.mp hb
      rw [(G.ok x hx).assoc hw ((G.ok y hy).prod hw), mk_comm w (Dl.mk y w), (G.ok y hy).back hw]
      exact List.mem_append_left _ (G.mul x hx y hy)
theorem span_bad : ∀ {ws : List (List Nat)} {f : List (List Nat)}, ¬ f.Nodup → ¬ (spanF f ws).Nodup
  | [], _, h => h
  | w :: ws, f, h => span_bad (ws := ws) (f := twice f w) fun z => h (List.nodup_append.mp z).1
end
end Dl
set_option Elab.async false
set_option linter.all false
set_option maxRecDepth 100000
set_option maxHeartbeats 4000000
set_option autoImplicit false
namespace Dl
open PySem PySem.Spec PyProof.Rows L2
/-! ## a value is equal to itself, whatever it holds -/
/-- its rich comparison with what stands for the same is True -/
def RB (X : Cx) (n : Nat) (d : D) : Prop :=
  ∀ (A : Around) (pins : List (Addr × Obj)) (s : Shared) (σ : L2.St) (H F : Hp) (x y : V) (u v : Value), Sub X n A → Inv X pins σ H s → Same F H → RelV x u → RelV y v → Rep X.K F x d → Rep X.K F y d →
    wpAny (model X.prog X.w) A (richCompare .Eq u v) (fun r s' => r = .bool true ∧ ∃ H', Inv X pins σ H' s' ∧ Ext H H') X.xe s
def RefD (K : PySem.W.Frag) (d : D) : Prop := ∀ F x, Rep K F x d → ∃ a, x = .ref a
section
variable {X : Cx} {N : En} {W : WX} {n m : Nat} {μ : List M} {d : D} {ds : List D}
theorem RB.mono (h : RB X n d) (hn : n ≤ m) : RB X m d := fun A pins s σ H F x y u v sb => h A pins s σ H F x y u v (sb.mono hn)
theorem eb_of_rb (h : RB X n d) (hr : RefD X.K d) : EB X n d d true := by
  intro A pins s σ H F x y u v sb I sm rx ry r1 r2
  obtain ⟨a, rfl⟩ := hr _ _ r1
  obtain ⟨b, rfl⟩ := hr _ _ r2
  cases rx
  cases ry
  by_cases hab : a = b
  · subst hab
    exact SeqAt.EqAt.same (A := A) (s := s) (.ref a) X.prog X.w X.xe _ ⟨rfl, H, I, Ext.rfl'⟩
  · exact GQ.eqBool_refG hab (wpAny_mono (h A pins s σ H F (.ref a) (.ref b) _ _ sb I sm rfl rfl r1 r2) (fun r s' ⟨e, q⟩ => ⟨true, e, rfl, q⟩) fun _ _ x => x)
theorem ref_tup {K : PySem.W.Frag} : RefD K (.tup ds) := fun F x r => by obtain ⟨a, vs, rfl, _⟩ := rep_tup r; exact ⟨a, rfl⟩
theorem ref_lst {K : PySem.W.Frag} : RefD K (.lst ds) := fun F x r => by obtain ⟨a, vs, rfl, _⟩ := rep_lst r; exact ⟨a, rfl⟩
theorem rep_dic {K : PySem.W.Frag} {F : Hp} {x : V} {ks : List Key} (h : Rep K F x (.dic ks ds)) : ∃ a kvs, x = .ref a ∧ F a = some (.dK kvs) ∧ kvs.map (·.1) = ks ∧ Reps K F (kvs.map (·.2)) ds := by
  generalize hd : D.dic ks ds = d at h
  cases h with
  | dic h1 h2 =>
    cases hd
    exact ⟨_, _, rfl, h1, rfl, h2⟩
  | _ => cases hd
theorem ref_dic {K : PySem.W.Frag} {ks : List Key} : RefD K (.dic ks ds) := fun F x r => by obtain ⟨a, vs, rfl, _⟩ := rep_dic r; exact ⟨a, rfl⟩
/-- what stands for one of these, on both sides -/
def EqvD (K : PySem.W.Frag) (ds : List D) : Eqv := fun x y H => ∃ d ∈ ds, ∃ F, Same F H ∧ Rep K F x d ∧ Rep K F y d
theorem eqvD_mon {K : PySem.W.Frag} : Mon (EqvD K ds) := fun x y H H' e ⟨d, hd, F, sm, r1, r2⟩ => ⟨d, hd, F, sm.trans fun a o h => e a o h, r1, r2⟩
theorem eqG_of (h : ∀ d ∈ ds, EB X n d d true) : EqG X n (EqvD X.K ds) := fun A pins s σ H x y u v sb I rx ry ⟨d, hd, F, sm, r1, r2⟩ => h d hd A pins s σ H F x y u v sb I sm rx ry r1 r2
theorem prs_of {K : PySem.W.Frag} {F H : Hp} (sm : Same F H) {xs ys : List V} (r1 : Reps K F xs ds) (r2 : Reps K F ys ds) : Prs (EqvD K ds) xs ys H := by
  refine ⟨by rw [r1.length, r2.length], fun i x y h1 h2 => ?_⟩
  obtain ⟨a, ha, ra⟩ := r1.get' h1
  obtain ⟨b, hb, rb⟩ := r2.get' h2
  rw [ha] at hb
  cases hb
  exact ⟨a, List.mem_of_getElem? ha, F, sm, ra, rb⟩
theorem rb_tup (h : ∀ d ∈ ds, EB X n d d true) : RB X (n + 1) (.tup ds) := by
  intro A pins s σ H F x y u v sb I sm rx ry r1 r2
  obtain ⟨a, xs, rfl, h1, h2⟩ := rep_tup r1
  obtain ⟨b, ys, rfl, k1, k2⟩ := rep_tup r2
  exact rcG_tup eqvD_mon (eqG_of h) A pins s σ H _ _ u v sb I rx ry ⟨a, b, xs, ys, rfl, rfl, same_sqT sm h1, same_sqT sm k1, prs_of sm h2 k2⟩
theorem rb_lst (h : ∀ d ∈ ds, EB X n d d true) : RB X (n + 1) (.lst ds) := by
  intro A pins s σ H F x y u v sb I sm rx ry r1 r2
  obtain ⟨a, xs, rfl, h1, h2⟩ := rep_lst r1
  obtain ⟨b, ys, rfl, k1, k2⟩ := rep_lst r2
  exact rcG_list eqvD_mon (eqG_of h) A pins s σ H _ _ u v sb I rx ry ⟨a, b, xs, ys, rfl, rfl, sm _ _ h1, sm _ _ k1, prs_of sm h2 k2⟩
theorem flat_rep2 {K : PySem.W.Frag} {F : Hp} {x : V} {d : D} (h : FlatD d) (r : Rep K F x d) : L2.flatB x = true := by
  cases h <;> cases r <;> rfl
theorem flat_same {K : PySem.W.Frag} {F : Hp} : ∀ {ds : List D} {xs ys : List V}, (∀ d ∈ ds, FlatD d) → Reps K F xs ds → Reps K F ys ds → xs = ys ∧ ∀ x ∈ xs, L2.flatB x = true
  | [], _, _, _, .nil, .nil => ⟨rfl, fun x h => by cases h⟩
  | d :: ds, _, _, h, .cons a r, .cons b q => by
    obtain ⟨e1, f1⟩ := flat_rep (h d List.mem_cons_self) a
    obtain ⟨e2, _⟩ := flat_rep (h d List.mem_cons_self) b
    obtain ⟨e3, f3⟩ := flat_same (fun d hd => h d (List.mem_cons_of_mem _ hd)) r q
    refine ⟨by rw [e1, e2, e3], fun x hx => ?_⟩
    rcases List.mem_cons.mp hx with rfl | hx
    · exact flat_rep2 (h d List.mem_cons_self) a
    · exact f3 x hx
theorem rb_dic {ks : List Key} (hn : ks.Nodup) (h : ∀ d ∈ ds, FlatD d) : RB X 0 (.dic ks ds) := by
  intro A pins s σ H F x y u v sb I sm rx ry r1 r2
  obtain ⟨a, kv, rfl, h1, h2, h3⟩ := rep_dic r1
  obtain ⟨b, lv, rfl, k1, k2, k3⟩ := rep_dic r2
  obtain ⟨e, hf⟩ := flat_same h h3 k3
  have ekv : kv = lv := by
    have : ∀ {p q : List (Key × V)}, p.map (·.1) = q.map (·.1) → p.map (·.2) = q.map (·.2) → p = q := by
      intro p
      induction p with
      | nil => intro q h1 _; cases q with
        | nil => rfl
        | cons _ _ => cases h1
      | cons a p ih =>
        intro q h1 h2
        cases q with
        | nil => cases h1
        | cons b q =>
          rw [List.map_cons, List.map_cons] at h1 h2
          injection h1 with h3 h4
          injection h2 with h5 h6
          rw [ih h4 h6, Prod.ext h3 h5]
    exact this (h2.trans k2.symm) e
  subst ekv
  refine eqR_run I (F := fun x y => x = y ∧ L2.flatB x = true) sb.room.units0 (fun x y v u hxy rx ry => ?_) (.inr ⟨a, b, kv, kv, rfl, rfl, sm _ _ h1, sm _ _ k1, rfl, fun p hp => ?_⟩) rx ry _ _ ⟨rfl, H, I, Ext.rfl'⟩
  · obtain ⟨rfl, f⟩ := hxy
    exact (eqAt_same rx ry f).eqP
  · refine ⟨p.2, ?_, rfl, hf p.2 (List.mem_map_of_mem hp)⟩
    have hnd : (kv.map (·.1)).Nodup := by rw [h2]; exact hn
    clear h1 h2 h3 k1 k2 k3 e hf r1 r2
    induction kv with
    | nil => cases hp
    | cons q kv ih =>
      rw [List.map_cons, List.nodup_cons] at hnd
      rcases List.mem_cons.mp hp with rfl | hp
      · simp [valV]
      · have hne : q.1 ≠ p.1 := fun z => hnd.1 (by rw [z]; exact List.mem_map_of_mem hp)
        have := ih hp hnd.2
        simp [valV, hne] at this ⊢
        exact this
end
end Dl
set_option Elab.async false
set_option linter.all false
set_option maxRecDepth 100000
set_option maxHeartbeats 4000000
set_option autoImplicit false
namespace Dl
open PySem PySem.Spec PyProof.Rows L2
/-! ## {k: v for ..} with keys that are texts, as data -/
def putP (kv : List (Key × D)) (k : Key) (d : D) : List (Key × D) :=
  if (kv.any fun p => decide (p.1 = k)) = true then kv.map (fun p => if p.1 = k then (p.1, d) else p) else kv ++ [(k, d)]
def dcL (fk : D → Str) (fv : D → D) (ds : List D) : List (Key × D) := ds.foldl (fun kv d => putP kv (.inr (fk d)) (fv d)) []
inductive RKV (K : PySem.W.Frag) (F : Hp) : List (Key × V) → List (Key × D) → Prop
  | nil : RKV K F [] []
  | cons {k v d kvs kv} : Rep K F v d → RKV K F kvs kv → RKV K F ((k, v) :: kvs) ((k, d) :: kv)
section
variable {K : PySem.W.Frag} {F F' : Hp} {kvs : List (Key × V)} {kv : List (Key × D)} {k : Key} {v : V} {d : D}
theorem RKV.keys (h : RKV K F kvs kv) : kvs.map (·.1) = kv.map (·.1) := by
  induction h with
  | nil => rfl
  | cons _ _ ih => rw [List.map_cons, List.map_cons, ih]
theorem RKV.reps (h : RKV K F kvs kv) : Reps K F (kvs.map (·.2)) (kv.map (·.2)) := by
  induction h with
  | nil => exact .nil
  | cons r _ ih => exact .cons r ih
theorem RKV.mono (h : RKV K F kvs kv) (s : Same F F') : RKV K F' kvs kv := by
  induction h with
  | nil => exact .nil
  | cons r _ ih => exact .cons (r.mono s) ih
theorem RKV.any (h : RKV K F kvs kv) : (kvs.any fun p => decide (p.1 = k)) = kv.any fun p => decide (p.1 = k) := by
  induction h with
  | nil => rfl
  | cons _ _ ih => rw [List.any_cons, List.any_cons, ih]
theorem RKV.over (h : RKV K F kvs kv) (r : Rep K F v d) : RKV K F (kvs.map fun p => if p.1 = k then (p.1, v) else p) (kv.map fun p => if p.1 = k then (p.1, d) else p) := by
  induction h with
  | nil => exact .nil
  | @cons j x y ks es q _ ih =>
    rw [List.map_cons, List.map_cons]
    by_cases hj : j = k
    · rw [if_pos hj, if_pos hj]; exact .cons r ih
    · rw [if_neg hj, if_neg hj]; exact .cons q ih
theorem RKV.snoc (h : RKV K F kvs kv) (r : Rep K F v d) : RKV K F (kvs ++ [(k, v)]) (kv ++ [(k, d)]) := by
  induction h with
  | nil => exact .cons r .nil
  | cons q _ ih => exact .cons q ih
theorem RKV.put (h : RKV K F kvs kv) (r : Rep K F v d) : RKV K F (putK kvs k v) (putP kv k d) := by
  unfold putK putP
  rw [h.any]
  split
  · exact h.over r
  · exact h.snoc r
theorem RKV.rep {a : Addr} (h : RKV K F kvs kv) (e : F a = some (.dK kvs)) : Rep K F (.ref a) (.dic (kv.map (·.1)) (kv.map (·.2))) := by
  rw [← h.keys]
  exact .dic e h.reps
end
section
variable {X : Cx} {N : En} {W : WX} {n : Nat} {δ : List (Option S)} {μ μ1 : List M} {kx vx tg iter : Expr} {pos : Pos} {ds : List D} {scope : Scope} {own : List (Str × Nat)} {f : As} {ix : List Nat}
theorem dc_go (g : Go X N W n) {J : It} {F1 : Hp} {A1 : List Addr} {H1 : Hp} {σ : L2.St} {D0 : Addr} {Qd : Hp → Prop} (fk : D → Str) (fv : D → D) (hds : ds.length < sizeLine) (R1 : Rl N F1 A1 H1 σ δ μ1) (y : Yl N.K J F1 ds) (hD : H1 D0 = none) (hix : ∀ i ∈ ix, i ∈ own.map (·.2))
    (hl : ∀ d ∈ ds, ∃ δt, f d (wipeD δ (own.map (·.2))) = some δt ∧ DEB X N.K n scope kx δt μ1 (.str (fk d)) μ1 ∧ DEB X N.K n scope vx δt μ1 (fv d) μ1)
    (hq : ∀ F' A' H' kvs, Same F1 F' → A1 <+: A' → Rc N F' A' H' μ1 → H' D0 = some (.dK kvs) → F' D0 = none → D0 ∉ A' → RKV N.K F' kvs (dcL fk fv ds) → Qd H') :
    ∃ Wt : Nat → Nat → Hp → Prop, (∃ m, Wt 0 m (upd H1 D0 (.dK []))) ∧ ∀ i m H, Wt i m H →
      (J.stop i H ∧ Qd H) ∨ (J.go i H ∧ ∃ Nx : Hp → Prop, (∀ H', Nx H' → ∃ m', m' < m ∧ Wt (i + 1) m' H') ∧ ∀ x H', J.yld i H x H' → tGd N f ix x (wipe σ (own.map (·.2))) H' fun σ2 H2 => wipe σ2 (own.map (·.2)) = wipe σ (own.map (·.2)) ∧ tYes σ2 H2 fun b H3 =>
        if b = true then teB X N.K n scope kx σ2 H3 fun y H4 => teB X N.K n scope vx σ2 H4 fun z H5 => ∃ kvs k, y = kV k ∧ H5 D0 = some (.dK kvs) ∧ kvs.length < sizeLine ∧ Nx (upd H5 D0 (.dK (putK kvs k z))) else Nx H3) := by
  have h0 := R1.rc.fresh hD
  refine ⟨fun i m H => i ≤ ds.length ∧ m = ds.length - i ∧ ∃ F A kvs, Same F1 F ∧ A1 <+: A ∧ Rc N F A H μ1 ∧ H D0 = some (.dK kvs) ∧ F D0 = none ∧ D0 ∉ A ∧ RKV N.K F kvs (dcL fk fv (ds.take i)) ∧ kvs.length ≤ i,
    ⟨ds.length, Nat.zero_le _, by simp, F1, A1, [], Same.refl _, List.prefix_refl _, R1.rc.junk hD _, upd_same, h0.2.1, h0.2.2, .nil, Nat.le_refl _⟩, ?_⟩
  rintro i m H ⟨hi, rfl, F, A, kvs, e, p, R, hv, hF, hA, hr, hvl⟩
  by_cases hlt : i < ds.length
  · refine .inr ⟨y.goes i H hlt (e.trans R.sub), fun H' => ∃ F A kvs, Same F1 F ∧ A1 <+: A ∧ Rc N F A H' μ1 ∧ H' D0 = some (.dK kvs) ∧ F D0 = none ∧ D0 ∉ A ∧ RKV N.K F kvs (dcL fk fv (ds.take (i + 1))) ∧ kvs.length ≤ i + 1,
      fun H' ⟨F, A, kvs, a⟩ => ⟨ds.length - (i + 1), by omega, hlt, rfl, F, A, kvs, a⟩, fun x H' hyd => ?_⟩
    obtain ⟨d, hd, it⟩ := (y.mono e).yields i H x H' hlt R.sub hyd
    have Rf : Rl N F A H σ δ μ1 := R1.to e p R
    have hH' : H' D0 = some (.dK kvs) := by
      rcases it with ⟨rfl, _⟩ | ⟨T, ws, es, _, nT, rfl, _, _⟩
      · exact hv
      · rw [upd_ne (ne_of_none hv nT)]; exact hv
    obtain ⟨F2, e2, R2, rx, hF20⟩ : ∃ F', Same F F' ∧ Rl N F' A H' σ δ μ1 ∧ Rep N.K F' x d ∧ F' D0 = none := by
      rcases it with ⟨rfl, r⟩ | ⟨T, ws, es, rfl, nT, rfl, rfl, r⟩
      · exact ⟨F, Same.refl _, Rf, r, hF⟩
      · have sm := same_updN (o := .tup ws) (R.fresh nT).2.1
        exact ⟨_, sm, Rf.to sm (List.prefix_refl _) (R.frozen nT _), .tup (SqT.of upd_same) (r.mono sm), by rw [upd_ne (ne_of_none hv nT)]; exact hF⟩
    obtain ⟨δt, hf, hk, hvv⟩ := hl d (List.mem_of_getElem? hd)
    have acc : dcL fk fv (ds.take (i + 1)) = putP (dcL fk fv (ds.take i)) (.inr (fk d)) (fv d) := by
      unfold dcL
      rw [List.take_succ, hd, Option.toList_some, List.foldl_append]
      rfl
    have key : ∀ (σ2 : L2.St), Rl N F2 A H' σ2 δt μ1 → tYes σ2 H' fun b H3 =>
        if b = true then teB X N.K n scope kx σ2 H3 fun y H4 => teB X N.K n scope vx σ2 H4 fun z H5 => ∃ kvs k, y = kV k ∧ H5 D0 = some (.dK kvs) ∧ kvs.length < sizeLine ∧
          (∃ F A kvs', Same F1 F ∧ A1 <+: A ∧ Rc N F A (upd H5 D0 (.dK (putK kvs k z))) μ1 ∧ (upd H5 D0 (.dK (putK kvs k z))) D0 = some (.dK kvs') ∧ F D0 = none ∧ D0 ∉ A ∧ RKV N.K F kvs' (dcL fk fv (ds.take (i + 1))) ∧ kvs'.length ≤ i + 1)
        else ∃ F A kvs, Same F1 F ∧ A1 <+: A ∧ Rc N F A H3 μ1 ∧ H3 D0 = some (.dK kvs) ∧ F D0 = none ∧ D0 ∉ A ∧ RKV N.K F kvs (dcL fk fv (ds.take (i + 1))) ∧ kvs.length ≤ i + 1 := by
      intro σ2 R3
      have R3' : Rl ⟨N.K, H', F2, A⟩ F2 A H' σ2 δt μ1 := ⟨R3.rc.entry, R3.len, R3.sl⟩
      unfold tYes
      simp only [if_true]
      refine ⟨⟨N.K, H', F2, A⟩, F2, A, δt, μ1, .str (fk d), μ1, rfl, R3', hk, fun v F4 A4 H4 e4 p4 R4 rv => ⟨⟨N.K, H', F2, A⟩, F4, A4, δt, μ1, fv d, μ1, rfl, R4, hvv, fun z F5 A5 H5 e5 p5 R5 rz => ?_⟩⟩
      have b5 : Rc N F5 A5 H5 μ1 := R3.rc.back R5.rc
      have k5 : H5 D0 = some (.dK kvs) := R5.rc.keep D0 _ hH' hA
      have f5 : F5 D0 = none := by
        cases q : F5 D0 with
        | none => rfl
        | some o =>
          rcases R5.rc.new D0 o q with ⟨o', z⟩ | z
          · have z' : F2 D0 = some o' := z
            rw [hF20] at z'; cases z'
          · have z' : H' D0 = none := z
            rw [hH'] at z'; cases z'
      have a5 : D0 ∉ A5 := fun hm => by
        obtain ⟨B, eB, hB⟩ := R5.rc.pre
        rw [eB] at hm
        rcases List.mem_append.mp hm with z | z
        · exact hA z
        · have z' : H' D0 = none := hB _ z
          rw [hH'] at z'; cases z'
      cases rv
      refine ⟨kvs, .inr (fk d), rfl, k5, by omega, F5, A5, putK kvs (.inr (fk d)) z, ((e.trans e2).trans e4).trans e5, (p.trans p4).trans p5, b5.poke f5 a5 h0.1 _, upd_same, f5, a5, ?_, ?_⟩
      · rw [acc]
        exact (hr.mono ((e2.trans e4).trans e5)).put rz
      · have := length_putK kvs (.inr (fk d)) z
        omega
    exact ⟨F2, A, _, μ1, d, _, R2.wiped (own.map (·.2)), rx, hf, fun σ2 w2 R3 => ⟨(wipe_sub hix w2).trans (by
        apply List.ext_getElem?
        intro j
        rw [wipe_get, wipe_get]
        by_cases hj : j ∈ own.map (·.2)
        · rw [if_pos hj, if_pos hj]; cases σ[j]? <;> rfl
        · rw [if_neg hj, if_neg hj]), key σ2 R3⟩⟩
  · have hi' : i = ds.length := by omega
    subst hi'
    refine .inl ⟨y.stops H (e.trans R.sub), ?_⟩
    rw [List.take_length] at hr
    exact hq F A H kvs e p R hv hF hA hr
theorem de_dcT (g : Go X N W n) (own : List (Str × Nat)) (fk : D → Str) (fv : D → D) (hi : DI X N W δ μ tg iter ds μ1) (hg : ∀ s H C cl fp, DG (blkX X scope s H C cl fp) N tg f ix)
    (hl : ∀ d ∈ ds, ∃ δt, f d (wipeD δ (own.map (·.2))) = some δt ∧ DEB X N.K n scope kx δt μ1 (.str (fk d)) μ1 ∧ DEB X N.K n scope vx δt μ1 (fv d) μ1)
    (ok : BlkOk X.N X.env.scope scope own := by exact blkOk_by (by decide +kernel)) (hds : ds.length < sizeLine := by first | (show _ < sizeLine; decide) | (simp; decide)) (hix : ∀ i ∈ ix, i ∈ own.map (·.2) := by decide) (hs : ∀ x, foldedSetIterable iter X.env x = pure x := by intro _; rfl) :
    DE X N W δ μ (.DictComp kx vx [⟨tg, iter, [], 0⟩] scope pos) (.v (.p (.dic ((dcL fk fv ds).map (·.1)) ((dcL fk fv ds).map (·.2))))) μ1 :=
  PE.imp (pe_dc (own := own) g.calm g.nd hi ok hg (fun _ _ _ _ _ => pts_nil) (fun s H C cl fp => pe_teB g) (fun s H C cl fp => pe_teB g) hs) fun σ H Q ⟨F, A, R, k⟩ =>
    ⟨F, A, R, fun J F1 A1 H1 e1 p1 R1 y D0 hD => dc_go g fk fv hds R1 y hD hix hl fun F' A' H' kvs e p r a b c h => by
      have h0 := (R1.rc.fresh hD).1
      have sm := same_updN (o := .dK kvs) b
      exact k (.ref D0) _ A' H' ((e1.trans e).trans sm) (p1.trans p) (R.to ((e1.trans e).trans sm) (p1.trans p) (r.adopt b c h0 a)) ((h.mono sm).rep upd_same)⟩
end
end Dl
set_option Elab.async false
set_option linter.all false
set_option maxRecDepth 100000
set_option maxHeartbeats 4000000
set_option autoImplicit false
namespace Dl
open PySem PySem.Spec PyProof.Rows L2
/-! ## as many keys as there were elements: only where they are all different -/
def kStep {κ : Type} [DecidableEq κ] (ks : List κ) (z : κ) : List κ := if z ∈ ks then ks else ks ++ [z]
theorem kStep_len {κ : Type} [DecidableEq κ] : ∀ (zs acc : List κ), acc.Nodup → (zs.foldl kStep acc).length ≤ acc.length + zs.length ∧ ((zs.foldl kStep acc).length = acc.length + zs.length ↔ (acc ++ zs).Nodup)
  | [], acc, h => ⟨Nat.le_refl _, by simp [h]⟩
  | z :: zs, acc, h => by
    rw [List.foldl_cons, List.length_cons]
    by_cases hm : z ∈ acc
    · have e : kStep acc z = acc := if_pos hm
      rw [e]
      obtain ⟨h1, h2⟩ := kStep_len zs acc h
      refine ⟨by omega, fun q => by omega, fun q => ?_⟩
      exact absurd rfl ((List.nodup_append.mp q).2.2 z hm z List.mem_cons_self)
    · have e : kStep acc z = acc ++ [z] := if_neg hm
      rw [e]
      obtain ⟨h1, h2⟩ := kStep_len zs (acc ++ [z]) (List.nodup_append.mpr ⟨h, by simp, fun a ha b hb ez => by
        rw [List.mem_singleton] at hb
        subst hb
        exact hm (ez ▸ ha)⟩)
      rw [List.length_append, List.length_singleton] at h1 h2
      rw [List.append_assoc] at h2
      refine ⟨by omega, ?_⟩
      rw [show acc ++ z :: zs = acc ++ ([z] ++ zs) from rfl, ← h2]
      omega
theorem putP_keys (kv : List (Key × D)) (k : Key) (d : D) : (putP kv k d).map (·.1) = kStep (kv.map (·.1)) k := by
  unfold putP kStep
  have e : (kv.any fun p => decide (p.1 = k)) = true ↔ k ∈ kv.map (·.1) := by
    rw [List.any_eq_true, List.mem_map]
    exact ⟨fun ⟨p, hp, e⟩ => ⟨p, hp, of_decide_eq_true e⟩, fun ⟨p, hp, e⟩ => ⟨p, hp, decide_eq_true e⟩⟩
  by_cases h : k ∈ kv.map (·.1)
  · rw [if_pos h, if_pos (e.mpr h), List.map_map]
    congr 1
    funext p
    show (if p.1 = k then (p.1, d) else p).1 = p.1
    split <;> rfl
  · rw [if_neg h, if_neg fun z => h (e.mp z), List.map_append]
    rfl
theorem dc_keys (fk : D → Str) (fv : D → D) : ∀ (ds : List D) (kv : List (Key × D)), (ds.foldl (fun kv d => putP kv (.inr (fk d)) (fv d)) kv).map (·.1) = (ds.map fun d => (Sum.inr (fk d) : Key)).foldl kStep (kv.map (·.1))
  | [], _ => rfl
  | d :: ds, kv => by rw [List.foldl_cons, dc_keys fk fv ds, putP_keys]; rfl
theorem dcL_len (fk : D → Str) (fv : D → D) (ds : List D) : (dcL fk fv ds).length ≤ ds.length ∧ ((dcL fk fv ds).length = ds.length ↔ (ds.map fk).Nodup) := by
  have h := kStep_len (ds.map fun d => (Sum.inr (fk d) : Key)) [] List.nodup_nil
  have e := dc_keys fk fv ds []
  have el : (dcL fk fv ds).length = ((ds.map fun d => (Sum.inr (fk d) : Key)).foldl kStep []).length := by
    have := congrArg List.length e
    rw [List.length_map] at this
    exact this
  rw [el]
  rw [List.length_map, List.length_nil, Nat.zero_add, List.nil_append] at h
  refine ⟨h.1, h.2.trans ?_⟩
  rw [show (ds.map fun d => (Sum.inr (fk d) : Key)) = (ds.map fk).map Sum.inr by rw [List.map_map]; rfl]
  constructor
  · intro q
    exact List.Pairwise.imp (fun h e => h (congrArg _ e)) (List.pairwise_map.mp q)
  · intro q
    exact List.pairwise_map.mpr (List.Pairwise.imp (fun h e => h (Sum.inr.inj e)) q)
end Dl
set_option Elab.async false
set_option linter.all false
set_option maxRecDepth 100000
set_option maxHeartbeats 4000000
set_option autoImplicit false
namespace K62
open PySem PySem.Spec PyProof.Rows L2 Dl Cq
/-! ### values of any kind, for starts -/
inductive El where
  | wd (L : List Nat) (s : Int)
  | ot (d : D)
def elD (C : Addr) : El → D
  | .wd L s => wd C L s
  | .ot d => d
def okEl (K : PySem.W.Frag) (C : Addr) : El → Prop
  | .wd L s => okL L ∧ pm s
  | .ot d => ∃ t, TyI K d t ∧ PySem.W.kitOne K t (.ref C) = some false
inductive Vv where
  | tp (es : List El)
  | ot (d : D)
def vvD (C : Addr) : Vv → D
  | .tp es => .tup (es.map (elD C))
  | .ot d => d
def okV (K : PySem.W.Frag) (C : Addr) : Vv → Prop
  | .tp es => es.length ≤ 60 ∧ ∀ e ∈ es, okEl K C e
  | .ot d => ∃ t, TyI K d t ∧ PySem.W.kitOne K t (.type "tuple") = some false
def isOf (n : Nat) : El → Bool
  | .wd L _ => decide (L.length = n)
  | .ot _ => false
def elL : El → List Nat
  | .wd L _ => L
  | .ot _ => []
def passE (a b : El) : Bool := decide (qs (elL a) (elL b) % 2 = 0)
def passesB (es : List El) : Bool := es.all fun a => es.all fun b => passE a b
def wordsB (es : List El) : Bool := !decide (es.length = 0) && (es.all (isOf es.length) && passesB es)
def spanE (es : List El) : List (List Nat) := spanF [List.replicate es.length 73] (es.map elL)
def startB (es : List El) : Bool := wordsB es && decide (spanE es).Nodup
def areW : Vv → Bool
  | .tp es => wordsB es
  | .ot _ => false
def isSt : Vv → Bool
  | .tp es => startB es
  | .ot _ => false
abbrev arN : List Str := ["value", "word", "other"]
abbrev prN : List Str := ["words", "found", "word", "made"]
abbrev siN : List Str := ["self", "words", "products", "word"]
theorem scIsWordOf : FnScope ["value", "wires"] ["value", "wires"] (defScope sIsWordOf) := ⟨rfl, rfl, rfl, by decide +kernel, rfl, by decide +kernel, by decide +kernel⟩
theorem scAreWords : FnScope arN ["value"] (defScope sAreWords) := ⟨rfl, rfl, rfl, by decide +kernel, rfl, by decide +kernel, by decide +kernel⟩
theorem scProducts : FnScope prN ["words"] (defScope sProducts) := ⟨rfl, rfl, rfl, by decide +kernel, rfl, by decide +kernel, by decide +kernel⟩
theorem scSInit : FnScope siN ["self", "words"] (defScope sSInit) := ⟨rfl, rfl, rfl, by decide +kernel, rfl, by decide +kernel, by decide +kernel⟩
def rIsWordOfK (K : PySem.W.Frag) (C : Addr) : Rel := fun ss μ r μ' => ∃ (e : El) (n : Nat), okEl K C e ∧ n ≤ 60 ∧ ss = [.p (elD C e), .p (.int (n : Nat))] ∧ r = .v (.p (.bl (isOf n e))) ∧ μ' = μ
def rAreWords (K : PySem.W.Frag) (C : Addr) : Rel := fun ss μ r μ' => ∃ (v : Vv), okV K C v ∧ ss = [.p (vvD C v)] ∧ r = .v (.p (.bl (areW v))) ∧ μ' = μ
/-! words of the package -/
def wdV (C : Addr) (x : Wd) : D := wd C x.2 x.1
def toEl (x : Wd) : El := .wd x.2 x.1
def isWd : El → Bool
  | .wd _ _ => true
  | .ot _ => false
theorem wds_of {K : PySem.W.Frag} {C : Addr} : ∀ {es : List El}, es.all isWd = true → (∀ e ∈ es, okEl K C e) → ∃ ws : List Wd, es = ws.map toEl ∧ ∀ x ∈ ws, okL x.2 ∧ pm x.1
  | [], _, _ => ⟨[], rfl, fun x hx => by cases hx⟩
  | .wd L s :: es, h, hk => by
    obtain ⟨ws, h1, h2⟩ := wds_of (es := es) (by simpa [isWd] using h) fun e he => hk e (List.mem_cons_of_mem _ he)
    exact ⟨(s, L) :: ws, by rw [h1]; rfl, fun x hx => by
      rcases List.mem_cons.mp hx with rfl | hx
      · exact hk (.wd L s) List.mem_cons_self
      · exact h2 x hx⟩
  | .ot d :: es, h, _ => by simp [isWd] at h
theorem els_D (C : Addr) (ws : List Wd) : (ws.map toEl).map (elD C) = ws.map (wdV C) := by
  rw [List.map_map]
  rfl
def mulW (a w : Wd) : Wd := (bes a.1 w.1 (qs a.2 w.2), mk a.2 w.2)
def twW (f : List Wd) (w : Wd) : List Wd := f ++ f.map fun a => mulW a w
def prodsF (n : Nat) (ws : List Wd) : List Wd := ws.foldl twW [(1, List.replicate n 73)]
theorem prods_let : ∀ (ws f : List Wd), (ws.foldl twW f).map (·.2) = spanF (f.map (·.2)) (ws.map (·.2))
  | [], f => rfl
  | w :: ws, f => by
    rw [List.foldl_cons, prods_let ws (twW f w)]
    show spanF ((twW f w).map (·.2)) _ = spanF (Dl.twice (f.map (·.2)) w.2) _
    congr 1
    unfold twW Dl.twice
    rw [List.map_append, List.map_map, List.map_map]
    rfl
/-- words of one size any two of which pass -/
structure okPs (n : Nat) (ws f : List Wd) : Prop where
  ok : ∀ a ∈ f, okW n a
  ps : ∀ a ∈ f, ∀ w ∈ ws, qs a.2 w.2 % 2 = 0
theorem mulW_ok {n : Nat} {a w : Wd} (ha : okW n a) (hw : okW n w) : okW n (mulW a w) := ⟨mk_ok ha.ok hw.ok (ha.len.trans hw.len.symm), (mk_len (ha.len.trans hw.len.symm)).trans ha.len, bes_pm ha.pm hw.pm⟩
theorem okPs.step {n : Nat} {ws f : List Wd} {w : Wd} (h : okPs n ws f) (hw : ∀ x ∈ ws, okW n x) (hp : ∀ x ∈ ws, ∀ y ∈ ws, qs x.2 y.2 % 2 = 0) (hm : w ∈ ws) : okPs n ws (twW f w) := by
  refine ⟨fun a ha => ?_, fun a ha y hy => ?_⟩
  · rcases List.mem_append.mp ha with ha | ha
    · exact h.ok a ha
    · obtain ⟨x, hx, rfl⟩ := List.mem_map.mp ha
      exact mulW_ok (h.ok x hx) (hw w hm)
  · rcases List.mem_append.mp ha with ha | ha
    · exact h.ps a ha y hy
    · obtain ⟨x, hx, rfl⟩ := List.mem_map.mp ha
      have ox := h.ok x hx
      have ow := hw w hm
      have oy := hw y hy
      have e := (mk_assoc ox.ok ow.ok oy.ok (ox.len.trans ow.len.symm) (ow.len.trans oy.len.symm)).2.2
      have e1 := h.ps x hx y hy
      have e2 := hp w hm y hy
      show qs (Dl.mk x.2 w.2) y.2 % 2 = 0
      omega
theorem okPs_one {n : Nat} {ws : List Wd} (h1 : 1 ≤ n) (h4 : n ≤ 4) (hw : ∀ x ∈ ws, okW n x) : okPs n ws [(1, List.replicate n 73)] := by
  refine ⟨fun a ha => ?_, fun a ha y hy => ?_⟩
  · rw [List.mem_singleton.mp ha]
    exact ⟨⟨by simpa using h1, by simpa using h4, fun c hc => by rw [(List.mem_replicate.mp hc).2]; decide⟩, by simp, .inl rfl⟩
  · rw [List.mem_singleton.mp ha]
    have := (mk_I y.2 (hw y hy).ok.all).2
    rw [(hw y hy).len] at this
    show qs (List.replicate n 73) y.2 % 2 = 0
    rw [this]
    rfl
theorem twW_len (f : List Wd) (w : Wd) : (twW f w).length = f.length + f.length := by
  unfold twW
  rw [List.length_append, List.length_map]
def rProducts (C : Addr) : Rel := fun ss μ r μ' => ∃ (n : Nat) (ws : List Wd), 1 ≤ n ∧ n ≤ 4 ∧ ws.length = n ∧ (∀ x ∈ ws, okW n x) ∧ (∀ x ∈ ws, ∀ y ∈ ws, qs x.2 y.2 % 2 = 0) ∧ ss = [.p (.tup (ws.map (wdV C)))] ∧ r = .v (.p (.lst ((prodsF n ws).map (wdV C)))) ∧ μ' = μ
def rMadeWords (C : Addr) : Rel := fun ss μ r μ' => ∃ (n : Nat) (said : List Wd), (∀ x ∈ said, okW n x) ∧ said.length ≤ 20 ∧ ss = [.p (.lst (said.map wD))] ∧ r = .v (.p (.tup (said.map fun x => wd C x.2 x.1))) ∧ μ' = μ
def farN (n : Nat) : Nat := if n < 4 then n + 1 else 1
def rFarWord (C : Addr) : Rel := fun ss μ r μ' => ∃ n : Nat, 1 ≤ n ∧ n ≤ 4 ∧ ss = [.p (.int (n : Nat))] ∧ r = .v (.p (wd C (List.replicate (farN n) 88) 1)) ∧ μ' = μ
theorem scMadeWords : FnScope ["said", "word"] ["said"] (defScope sMadeWords) := ⟨rfl, rfl, rfl, by decide +kernel, rfl, by decide +kernel, by decide +kernel⟩
theorem scFarWord : FnScope ["wires"] ["wires"] (defScope sFarWord) := ⟨rfl, rfl, rfl, by decide +kernel, rfl, by decide +kernel, by decide +kernel⟩
/-! letters of data -/
def ltD : D → List Nat
  | .ins _ _ (.str x :: _) => x.cps.toList
  | _ => []
def fkD : D → Str
  | .ins _ _ (.str x :: _) => x
  | _ => Str.empty
def fvD : D → D
  | .ins _ _ (_ :: v :: _) => v
  | _ => .non
def passY (a b : D) : D := .bl (decide (qs (ltD a) (ltD b) % 2 = 0))
theorem ltD_el (C : Addr) {e : El} (h : isWd e = true) : ltD (elD C e) = elL e := by
  cases e with
  | wd L s => simp [elD, wd, ltD, elL, Dl.st]
  | ot d => cases h
theorem flat_pass (C : Addr) (es : List El) (h : es.all isWd = true) : flat2 (fun _ => true) (fun _ => es.map (elD C)) passY (es.map (elD C)) = (es.flatMap fun a => es.map fun b => passE a b).map D.bl := by
  have hw : ∀ e ∈ es, isWd e = true := List.all_eq_true.mp h
  have : ∀ l : List El, (∀ a ∈ l, a ∈ es) → flat2 (fun _ => true) (fun _ => es.map (elD C)) passY (l.map (elD C)) = (l.flatMap fun a => es.map fun b => passE a b).map D.bl := by
    intro l
    induction l with
    | nil => intro _; rfl
    | cons a l ih =>
      intro hl
      have ih := ih fun b hb => hl b (List.mem_cons_of_mem _ hb)
      unfold flat2 at ih ⊢
      rw [List.map_cons, List.flatMap_cons, ih, List.flatMap_cons, List.map_append]
      congr 1
      show (es.map (elD C)).map (passY (elD C a)) = _
      rw [List.map_map, List.map_map]
      refine List.map_congr_left fun b hb => ?_
      show D.bl (decide (qs (ltD (elD C a)) (ltD (elD C b)) % 2 = 0)) = D.bl (passE a b)
      rw [ltD_el C (hw a (hl a List.mem_cons_self)), ltD_el C (hw b hb)]
      rfl
  exact this es fun _ h => h
theorem all_pass (es : List El) : ((es.flatMap fun a => es.map fun b => passE a b).all id) = passesB es := by
  rw [List.all_flatMap]
  unfold passesB
  congr 1
  funext a
  rw [List.all_map]
  rfl
theorem pass_len (es : List El) : (es.flatMap fun a => es.map fun b => passE a b).length = es.length * es.length := by
  have : ∀ l : List El, (l.flatMap fun a => es.map fun b => passE a b).length = l.length * es.length := by
    intro l
    induction l with
    | nil => simp
    | cons a l ih => rw [List.flatMap_cons, List.length_append, ih, List.length_map, List.length_cons, Nat.add_mul]; omega
  exact this es
theorem of_wd {es : List El} {n : Nat} (h : es.all (isOf n) = true) : es.all isWd = true := by
  refine List.all_eq_true.mpr fun e he => ?_
  have := List.all_eq_true.mp h e he
  cases e with
  | wd L s => rfl
  | ot d => cases this
section
variable {P : Program} {w : World} {K : PySem.W.Frag} {mg : Str → Option Value} {base : Heap} {qa ta f C CT CB : Addr} {fd : FuncData}
theorem ok_iswordof (F : Fun K "is_word_of" "is_word_of" sIsWordOf f fd) (T : TM mg) (T2 : TC K mg C) (cl_ : Cm P w K mg base 1 C "__len__" [] (rLen C)) : FnOk P w K mg base (L2.CX P w) 3 f fd ["value", "wires"] (spD K (rIsWordOfK K C)) := by
  refine fn_D (k := 2) F scIsWordOf (fun ss μ r μ' h => by obtain ⟨_, _, _, _, rfl, _⟩ := h; rfl) ?_
  intro cdv A0 outer s0 H E N W ss μ r μ' g hA hR
  obtain ⟨e, n, he, hn, rfl, rfl, rfl⟩ := hR
  cases e with
  | wd L s =>
    obtain ⟨hL, hs⟩ := he
    have h4 := hL.four
    have l8 : (0 : Int) ≤ (L.length : Nat) ∧ ((L.length : Nat) : Int) < 2 ^ 63 := by
      have : (2 : Int) ^ 63 = 9223372036854775808 := by decide
      omega
    exact ⟨_, dss_ret (de_of (d' := .bl (isOf n (.wd L s))) (de_and (k := true) (k' := decide (L.length = n)) (de_callB (id := "isinstance") (da_cons (de_var 0) (da_cons (de_glob (v := .ref C) T2.at_ rfl (fun _ _ => .adr _)) da_nil)) (c_isi g (.ins _ _ _ T2.ci) (.adr C) kit_same) T.isinstance (by decide +kernel)) (fun _ => de_one (de_of (d' := .bl (decide (L.length = n))) (de_cmp (de_callB (id := "len") (da_cons (de_var 0) da_nil) (c_lenOwn g cl_ ⟨L, s, hL, rfl, rfl, rfl⟩ l8) T.len (by decide +kernel)) (de_var 1) o_eqI) (congrArg D.bl (decide_eq_decide.mpr (by omega)))))) rfl), .rt⟩
  | ot d =>
    obtain ⟨t, ht, hk⟩ := he
    exact ⟨_, dss_ret (de_of (d' := .bl false) (de_and (k := false) (k' := true) (de_callB (id := "isinstance") (da_cons (de_var 0) (da_cons (de_glob (v := .ref C) T2.at_ rfl (fun _ _ => .adr _)) da_nil)) (c_isi g ht (.adr C) hk) T.isinstance (by decide +kernel)) (fun h => by cases h)) rfl), .rt⟩
theorem ok_madewords (F : Fun K "_law_made_words" "_law_made_words" sMadeWords f fd) (T : TM mg) (cw : Cf P w K mg base 1 "_law_word_text" [] rWText) (ci : Ci P w K mg base 2 C "Word" [] (rInit C)) : FnOk P w K mg base (L2.CX P w) 4 f fd ["said"] (spD K (rMadeWords C)) := by
  refine fn_D (k := 3) F scMadeWords (fun ss μ r μ' h => by obtain ⟨_, _, _, _, rfl, _⟩ := h; rfl) ?_
  intro cdv A0 outer s0 H E N W ss μ r μ' g hA hR
  obtain ⟨n, said, hw, h20, rfl, rfl, rfl⟩ := hR
  exact ⟨_, dss_ret (de_callT (T := "tuple") (da_cons (de_lc g [("word", 1)] (di_lst g (de_var 0)) (fun s H C cl fp => dg_name 1 g.nd) (of_maps (gd := wD) (fy := fun x => wd C x.2 x.1) fun x hx => ⟨_, rfl, fun s H C' cl fp N' hK g' => de_word g' ci (hw x hx).ok (hw x hx).pm (de_of (d' := .str (sgn x.2 x.1)) (de_call g' cw (da_cons (de_var 1) da_nil) ⟨x.2, x.1, (hw x hx).ok.four, rfl, rfl, rfl⟩) (congrArg D.str (sgn_sgL _ _).symm))⟩) (ok := blkOk_by (by rfl)) (hds := by rw [List.length_map]; exact sz' (by omega))) da_nil) c_tupL T.tuple (by decide +kernel)), .rt⟩
theorem ok_farword (F : Fun K "_law_far_word" "_law_far_word" sFarWord f fd) (ci : Ci P w K mg base 2 C "Word" [] (rInit C)) : FnOk P w K mg base (L2.CX P w) 4 f fd ["wires"] (spD K (rFarWord C)) := by
  refine fn_D (k := 3) F scFarWord (fun ss μ r μ' h => by obtain ⟨_, _, _, rfl, _⟩ := h; rfl) ?_
  intro cdv A0 outer s0 H E N W ss μ r μ' g hA hR
  obtain ⟨n, h1, h4, rfl, rfl, rfl⟩ := hR
  have hf : 1 ≤ farN n ∧ farN n ≤ 4 := by unfold farN; split <;> omega
  have hL : okL (List.replicate (farN n) 88) := ⟨by rw [List.length_replicate]; exact hf.1, by rw [List.length_replicate]; exact hf.2, fun c hc => by rw [(List.mem_replicate.mp hc).2]; decide⟩
  have rep : ∀ (μ : List M) (k : Nat), 1 ≤ k → k ≤ 4 → OpOk (cxOf (L2.CX P w) P w K mg base ["wires"] "_law_far_word" (defScope sFarWord) f cdv A0 outer s0 H E) N W (binaryOp .Mult) μ (.p (.str ⟨#[88]⟩)) (.p (.int (k : Int))) (.v (.p (.str (st (List.replicate k 88))))) μ := fun μ k a b => by
    by_cases h : k = 1
    · subst h
      exact o_mulS (k := true)
    · exact o_mulSk ⟨by omega, by omega⟩
  exact ⟨_, dss_ret (de_word g ci hL (.inl rfl) (de_of (d' := .str (sgn (List.replicate (farN n) 88) 1)) (de_bin (de_of (d' := .str ⟨#[88]⟩) de_str rfl) (de_if (r := .v (.p (.int ((farN n : Nat) : Int)))) (k := decide (n < 4)) (dt_of (dt_cmp (de_var 0) de_int o_lt) (decide_eq_decide.mpr (by omega))) (fun h => de_of (d' := .int ((farN n : Nat) : Int)) (de_bin (de_var 0) de_int o_add) (congrArg D.int (by unfold farN; rw [if_pos (of_decide_eq_true h)]; omega))) (fun h => de_of (d' := .int ((farN n : Nat) : Int)) de_int (congrArg D.int (by unfold farN; rw [if_neg (of_decide_eq_false h)]; rfl)))) (rep _ _ hf.1 hf.2)) (congrArg D.str (sgn_pos (by decide))))), .rt⟩
theorem ok_arewords (F : Fun K "_are_words" "_are_words" sAreWords f fd) (T : TM mg) (ci : Cf P w K mg base 3 "is_word_of" [] (rIsWordOfK K C)) (cp : Cm P w K mg base 2 C "passes" [] (rPasses C)) (ktp : ∀ t, t = Value.type "tuple" → PySem.W.kitOne K t (.type "tuple") = some true) : FnOk P w K mg base (L2.CX P w) 5 f fd ["value"] (spD K (rAreWords K C)) := by
  refine fn_D (k := 4) F scAreWords (fun ss μ r μ' h => by obtain ⟨_, _, rfl, _⟩ := h; rfl) ?_
  intro cdv A0 outer s0 H E N W ss μ r μ' g hA hR
  obtain ⟨v, hv, rfl, rfl, rfl⟩ := hR
  cases v with
  | ot d =>
    obtain ⟨t, ht, hk⟩ := hv
    exact ⟨_, dss_ifT (dt_of (dt_w (dw_or (k := true) (k' := true) (dt_of (dt_not (dt_val (de_callB (id := "isinstance") (da_cons (de_var 0) (da_cons (de_ty T.tuple (by decide +kernel)) da_nil)) (c_isi g ht (.ty _) hk) T.isinstance (by decide +kernel)))) rfl) (fun h => by cases h))) rfl) (dss_ret de_bl) cr, .rt⟩
  | tp es =>
    obtain ⟨h60, hes⟩ := hv
    have le : (es.map (elD C)).length = es.length := List.length_map ..
    have t0 : DT (cxOf (L2.CX P w) P w K mg base arN "_are_words" (defScope sAreWords) f cdv A0 outer s0 H E) N W (starts arN [.p (.tup (es.map (elD C)))]) μ' (ifC ((defBody sAreWords).getD 0 (.Pass ⟨0, 0, 0, 0⟩))) (decide (es.length = 0)) μ' := by
      refine dt_of (k := false || decide (es.length = 0)) (dt_w (dw_or (k := false) (dt_of (dt_not (dt_val (de_callB (id := "isinstance") (da_cons (de_var 0) (da_cons (de_ty T.tuple (by decide +kernel)) da_nil)) (c_isi g (.tup _) (.ty _) (ktp _ rfl)) T.isinstance (by decide +kernel)))) rfl) (fun _ => dw_or1 (dt_of (dt_cmp (de_of (d' := .int ((es.length : Nat) : Int)) (de_callB (id := "len") (da_cons (de_var 0) da_nil) (c_lenT g) T.len (by decide +kernel)) (by rw [le])) de_int o_eqI) (decide_eq_decide.mpr (by omega)))))) ?_
      exact Bool.false_or _
    cases hsz : decide (es.length = 0) with
    | true =>
      have e : areW (.tp es) = false := by show wordsB es = false; unfold wordsB; rw [hsz]; rfl
      rw [e]
      exact ⟨_, dss_ifT (dt_of t0 hsz) (dss_ret de_bl) cr, .rt⟩
    | false =>
      have t1 : DT (cxOf (L2.CX P w) P w K mg base arN "_are_words" (defScope sAreWords) f cdv A0 outer s0 H E) N W (starts arN [.p (.tup (es.map (elD C)))]) μ' (ifC ((defBody sAreWords).getD 1 (.Pass ⟨0, 0, 0, 0⟩))) (!es.all (isOf es.length)) μ' :=
        dt_not (dt_val (de_callB (id := "all") (da_cons (de_lc g [("word", 1)] (di_tup g (de_var 0)) (fun s H C cl fp => dg_name 1 g.nd) (of_maps (gd := elD C) (fy := fun e => .bl (isOf es.length e)) fun e he => ⟨_, rfl, fun s H C cl fp N' hK g' => de_call g' ci (da_cons (de_var 1) (da_cons (de_of (d' := .int ((es.length : Nat) : Int)) (de_callB (id := "len") (da_cons (de_var 0) da_nil) (c_lenT g') T.len (by decide +kernel)) (by rw [le])) da_nil)) ⟨e, es.length, hes e he, by omega, rfl, rfl, rfl⟩⟩) (ok := blkOk_by (by rfl)) (hds := by rw [le]; exact sz' (by omega))) da_nil) (c_allm (q := isOf es.length) g) T.all (by decide +kernel)))
      cases hal : es.all (isOf es.length) with
      | false =>
        have e : areW (.tp es) = false := by show wordsB es = false; unfold wordsB; rw [hal]; simp
        rw [e]
        exact ⟨_, dss_skip (dt_of t0 hsz) (dss_ifT (dt_of t1 (by rw [hal]; rfl)) (dss_ret de_bl) cr), .rt⟩
      | true =>
        have e : areW (.tp es) = passesB es := by show wordsB es = _; unfold wordsB; rw [hsz, hal]; simp
        rw [e]
        have hwd := of_wd hal
        have pl := pass_len es
        have p36 : es.length * es.length ≤ 3600 := Nat.mul_le_mul h60 h60
        refine ⟨_, dss_skip (dt_of t0 hsz) (dss_skip (dt_of t1 (by rw [hal]; rfl)) (dss_ret (de_of (d' := .bl (passesB es)) (de_callB (id := "all") (da_cons (s := .p (.lst ((es.flatMap fun a => es.map fun b => passE a b).map D.bl))) (de_of (de_lc2 (fun _ => es.map (elD C)) passY g [("word", 1), ("other", 2)] [2] (di_tup g (de_var 0)) (fun s H C cl fp => dg_name 1 g.nd) (fun s H C cl fp => dg_name 2 g.nd) ?hf (by rw [flat_pass C es hwd, List.length_map, pl]; exact sz (by omega)) (ok := blkOk_by (by rfl))) (congrArg D.lst (flat_pass C es hwd))) da_nil) (c_all g) T.all (by decide +kernel)) (congrArg D.bl (all_pass es))))), .rt⟩
        intro d hd
        obtain ⟨e1, he1, rfl⟩ := List.mem_map.mp hd
        refine ⟨_, rfl, fun s H C cl fp N' hK g' => di_tup g' (de_var 0), fun d2 hd2 => ?_⟩
        obtain ⟨e2, he2, rfl⟩ := List.mem_map.mp hd2
        have a1 := List.all_eq_true.mp hal e1 he1
        have a2 := List.all_eq_true.mp hal e2 he2
        have o1 := hes e1 he1
        have o2 := hes e2 he2
        refine ⟨_, rfl, fun s H C' cl fp N' hK g' => ?_⟩
        cases e1 with
        | ot d => cases a1
        | wd L1 s1 =>
          cases e2 with
          | ot d => cases a2
          | wd L2' s2 =>
            have l1 : L1.length = es.length := of_decide_eq_true a1
            have l2 : L2'.length = es.length := of_decide_eq_true a2
            exact de_of (d' := passY (elD C (.wd L1 s1)) (elD C (.wd L2' s2))) (de_meth g' cp (de_var 1) (da_cons (de_var 2) da_nil) ⟨L1, L2', s1, s2, o1.1, o2.1, l1.trans l2.symm, rfl, rfl, rfl⟩) (by unfold passY; rw [ltD_el C rfl, ltD_el C rfl]; rfl)
theorem ok_products (F : Fun K "_products" "_products" sProducts f fd) (T : TM mg) (T2 : TC K mg C) (ci : Ci P w K mg base 2 C "Word" [] (rInit C)) (cm : Cm P w K mg base 5 C "__mul__" [] (rMul C)) : FnOk P w K mg base (L2.CX P w) 7 f fd ["words"] (spD K (rProducts C)) := by
  refine fn_D (k := 6) F scProducts (fun ss μ r μ' h => by obtain ⟨_, _, _, _, _, _, _, rfl, _⟩ := h; rfl) ?_
  intro cdv A0 outer s0 H E N W ss μ r μ' g hA hR
  obtain ⟨n, ws, h1, h4, hl, hw, hp, rfl, rfl, rfl⟩ := hR
  have lw : (ws.map (wdV C)).length = n := by rw [List.length_map]; exact hl
  have hI : okL (List.replicate n 73) := ((okPs_one h1 h4 hw).ok _ (List.mem_singleton.mpr rfl)).ok
  have rep : ∀ (μ : List M), OpOk (cxOf (L2.CX P w) P w K mg base prN "_products" (defScope sProducts) f cdv A0 outer s0 H E) N W (binaryOp .Mult) μ (.p (.str ⟨#[73]⟩)) (.p (.int ((n : Nat) : Int))) (.v (.p (.str (Dl.st (List.replicate n 73))))) μ := fun μ => by
    by_cases h : n = 1
    · subst h
      exact o_mulS (k := true)
    · exact o_mulSk ⟨by omega, by omega⟩
  have d0 : DS (cxOf (L2.CX P w) P w K mg base prN "_products" (defScope sProducts) f cdv A0 outer s0 H E) N W (starts prN [.p (.tup (ws.map (wdV C)))]) μ' ((defBody sProducts).getD 0 (.Pass ⟨0, 0, 0, 0⟩)) (.nx [some (.p (.tup (ws.map (wdV C)))), some (.p (.lst (([(1, List.replicate n 73)] : List Wd).map (wdV C)))), none, none] μ') :=
    ds_set 1 (de_lst (ds := ([(1, List.replicate n 73)] : List Wd).map (wdV C)) (dp_cons (de_word g ci hI (.inl rfl) (de_of (d' := .str (sgn (List.replicate n 73) 1)) (de_bin (de_of (d' := .str ⟨#[73]⟩) de_str rfl) (de_of (d' := .int ((n : Nat) : Int)) (de_callB (id := "len") (da_cons (de_var 0) da_nil) (c_lenT g) T.len (by decide +kernel)) (by rw [lw])) (rep _)) (congrArg D.str (sgn_pos (by decide))))) dp_nil) (sz (by show 1 ≤ _; decide))) g.nd
  obtain ⟨δ', hlo, ⟨x2, x3, rfl⟩, _⟩ := loop_fo (X := (cxOf (L2.CX P w) P w K mg base prN "_products" (defScope sProducts) f cdv A0 outer s0 H E)) (N := N) (W := W) (f := asName 2) (body := bodyOf sProducts 1) (T := List Wd) (mu := fun _ => μ') (nx := fun w f => twW f w) (gd := wdV C)
    (fun k t => okPs n ws t ∧ k ≤ 4 ∧ t.length ≤ 2 ^ (4 - k)) (fun t δ => ∃ x2 x3, δ = [some (.p (.tup (ws.map (wdV C)))), some (.p (.lst (t.map (wdV C)))), x2, x3]) ws [some (.p (.tup (ws.map (wdV C)))), some (.p (.lst (([(1, List.replicate n 73)] : List Wd).map (wdV C)))), none, none] [(1, List.replicate n 73)]
    (fun a ha k t δ hδ hI => by
      obtain ⟨x2, x3, rfl⟩ := hδ
      obtain ⟨i1, i2, i3⟩ := hI
      have e16 : t.length + t.length ≤ 2 ^ (4 - k) := by
        rw [show 4 - k = (4 - (k + 1)) + 1 by omega, Nat.pow_succ]
        omega
      have l16 : (2 : Nat) ^ (4 - k) ≤ 16 := by
        have : (2 : Nat) ^ (4 - k) ≤ 2 ^ 4 := Nat.pow_le_pow_right (by decide) (by omega)
        exact this
      have oa := hw a ha
      have e : (t.map (wdV C)) ++ ((t.map fun b => wdV C (mulW b a)) ++ []) = (twW t a).map (wdV C) := by
        unfold twW
        rw [List.append_nil, List.map_append, List.map_map]
        rfl
      exact ⟨⟨i1.step hw hp ha, by omega, by rw [twW_len]; exact e16⟩, _, _, rfl, dss_cons (ds_set 1 (de_of (d' := .lst ((twW t a).map (wdV C))) (de_lst (dp_star (de_var 1) (dp_star (de_lc g [("made", 3)] (di_lst g (de_var 1)) (fun s H C cl fp => dg_name 3 g.nd) (of_maps (gd := wdV C) (fy := fun b => wdV C (mulW b a)) fun b hb => ⟨_, rfl, fun s H C' cl fp N' hK g' => de_binOwn g' cm T2.sf (de_var 3) (de_var 2) ⟨b.2, a.2, b.1, a.1, (i1.ok b hb).ok, oa.ok, (i1.ok b hb).len.trans oa.len.symm, (i1.ok b hb).pm, oa.pm, i1.ps b hb a ha, rfl, rfl, rfl⟩⟩) (ok := blkOk_by (by rfl)) (hds := by rw [List.length_map]; exact sz' (by omega))) dp_nil g.hK) g.hK) (by rw [List.length_append, List.length_append, List.length_map, List.length_map]; exact sz (by show _ + (_ + 0) ≤ _; omega))) (congrArg D.lst e)) g.nd) (cn dss_nil), _, _, rfl⟩)
    ⟨_, _, rfl⟩ ⟨okPs_one h1 h4 hw, by omega, by show 1 ≤ _; exact Nat.one_le_two_pow⟩
  exact ⟨_, dss_cons d0 (cn (dss_cons (ds_for g (di_tup g (de_var 0)) (dg_name 2 g.nd) hlo) (cn (dss_ret (de_var 1))))), .rt⟩
end
end K62
set_option Elab.async false
set_option linter.all false
set_option maxRecDepth 100000
set_option maxHeartbeats 4000000
set_option autoImplicit false
namespace Dl
/-! ## words led by quarters: products go along -/
abbrev Wp := Int × List Nat
structure okX (n : Nat) (x : Wp) : Prop where
  ok : okL x.2
  len : x.2.length = n
  pm : x.1 = 1 ∨ x.1 = -1
def prM (m : Int) (x y : Wp) : Wp := (x.1 * y.1 * sg (qs x.2 y.2 + m), mk x.2 y.2)
def ldW (a x : Wp) : Wp := if qs a.2 x.2 % 2 = 0 then x else (a.1 * x.1 * sg (qs a.2 x.2 + 1), mk a.2 x.2)
section
variable {A B C : List Nat}
theorem qs_lin (hA : okL A) (hB : okL B) (hC : okL C) (l : A.length = B.length) (l2 : B.length = C.length) : (qs (mk A B) C - qs A C - qs B C) % 2 = 0 := (mk_assoc hA hB hC l l2).2.2
theorem qs_linR (hA : okL A) (hB : okL B) (hC : okL C) (l : A.length = B.length) (l2 : B.length = C.length) : (qs A (mk B C) - qs A B - qs A C) % 2 = 0 := by
  have h := qs_lin hB hC hA l2 (l2.symm.trans l.symm)
  have e1 := qs_anti A (mk B C)
  have e2 := qs_anti A B
  have e3 := qs_anti A C
  omega
theorem qs_coc (hA : okL A) (hB : okL B) (hC : okL C) (l : A.length = B.length) (l2 : B.length = C.length) : (qs A B + qs (mk A B) C - qs B C - qs A (mk B C)) % 4 = 0 := (mk_assoc hA hB hC l l2).2.1
theorem mk_as (hA : okL A) (hB : okL B) (hC : okL C) (l : A.length = B.length) (l2 : B.length = C.length) : mk (mk A B) C = mk A (mk B C) := (mk_assoc hA hB hC l l2).1
theorem mk_can (hB : okL B) (hC : okL C) (l : B.length = C.length) : mk B (mk B C) = C := by
  rw [mk_comm B C, mk_comm B (mk C B)]
  exact (mk_back hC hB l.symm).1
theorem qs_can (hB : okL B) (hC : okL C) (l : B.length = C.length) : qs B (mk B C) = - qs B C := by
  have h := (mk_back hC hB l.symm).2
  rw [qs_anti (mk B C) B, mk_comm B C, h, qs_anti B C]
  omega
end
theorem okX.mul {n : Nat} {x y : Wp} {m : Int} (hx : okX n x) (hy : okX n y) : okX n (prM m x y) := by
  have l := hx.len.trans hy.len.symm
  refine ⟨mk_ok hx.ok hy.ok l, (mk_len l).trans hx.len, ?_⟩
  have h : sg (qs x.2 y.2 + m) = 1 ∨ sg (qs x.2 y.2 + m) = -1 := by unfold sg; split <;> simp
  show x.1 * y.1 * sg (qs x.2 y.2 + m) = 1 ∨ x.1 * y.1 * sg (qs x.2 y.2 + m) = -1
  rcases hx.pm with h1 | h1 <;> rcases hy.pm with h2 | h2 <;> rcases h with h3 | h3 <;> rw [h1, h2, h3] <;> decide
theorem ldW_ok {n : Nat} {a x : Wp} (ha : okX n a) (hx : okX n x) : okX n (ldW a x) := by
  unfold ldW
  split
  · exact hx
  · exact ha.mul hx (m := 1)
/-- two led pass just where they passed -/
theorem ldW_par {n : Nat} {a x y : Wp} (ha : okX n a) (hx : okX n x) (hy : okX n y) : (qs (ldW a x).2 (ldW a y).2 - qs x.2 y.2) % 2 = 0 := by
  have lax := ha.len.trans hx.len.symm
  have lay := ha.len.trans hy.len.symm
  have lxy := hx.len.trans hy.len.symm
  unfold ldW
  by_cases h1 : qs a.2 x.2 % 2 = 0
  · rw [if_pos h1]
    by_cases h2 : qs a.2 y.2 % 2 = 0
    · rw [if_pos h2]; omega
    · rw [if_neg h2]
      have := qs_linR hx.ok ha.ok hy.ok lax.symm lay
      have e := qs_anti a.2 x.2
      show (qs x.2 (mk a.2 y.2) - qs x.2 y.2) % 2 = 0
      omega
  · rw [if_neg h1]
    by_cases h2 : qs a.2 y.2 % 2 = 0
    · rw [if_pos h2]
      have := qs_lin ha.ok hx.ok hy.ok lax lxy
      show (qs (mk a.2 x.2) y.2 - qs x.2 y.2) % 2 = 0
      omega
    · rw [if_neg h2]
      have hm := mk_ok ha.ok hy.ok lay
      have lm : x.2.length = (mk a.2 y.2).length := by rw [mk_len lay]; exact lax.symm
      have e1 := qs_lin ha.ok hx.ok hm lax lm
      have e2 := qs_linR hx.ok ha.ok hy.ok lax.symm lay
      have e3 := qs_can ha.ok hy.ok lay
      have e4 := qs_anti a.2 x.2
      show (qs (mk a.2 x.2) (mk a.2 y.2) - qs x.2 y.2) % 2 = 0
      omega
theorem sg_mul3 {p q r : Int} (hp : p % 2 = 0) (hq : q % 2 = 0) (h : (p + q - r) % 4 = 0) : sg p * sg q = sg r := by
  rw [sg_add hp hq]
  exact sg_congr h
theorem prM_ld {n : Nat} {a x y : Wp} {m : Int} (ha : okX n a) (hx : okX n x) (hy : okX n y) (hm : (qs x.2 y.2 + m) % 2 = 0) : prM m (ldW a x) (ldW a y) = ldW a (prM m x y) := by
  have lax := ha.len.trans hx.len.symm
  have lay := ha.len.trans hy.len.symm
  have lxy := hx.len.trans hy.len.symm
  have exy := qs_linR ha.ok hx.ok hy.ok lax lxy
  have c1 := qs_coc ha.ok hx.ok hy.ok lax lxy
  have c2 := qs_coc hx.ok ha.ok hy.ok lax.symm lay
  have an := qs_anti a.2 x.2
  have s1 := mk_as ha.ok hx.ok hy.ok lax lxy
  have s2 := mk_as hx.ok ha.ok hy.ok lax.symm lay
  have cm := mk_comm x.2 a.2
  unfold ldW
  by_cases h1 : qs a.2 x.2 % 2 = 0
  · rw [if_pos h1]
    by_cases h2 : qs a.2 y.2 % 2 = 0
    · rw [if_pos h2, if_pos (show qs a.2 (prM m x y).2 % 2 = 0 by show qs a.2 (mk x.2 y.2) % 2 = 0; omega)]
    · rw [if_neg h2, if_neg (show ¬ qs a.2 (prM m x y).2 % 2 = 0 by show ¬ qs a.2 (mk x.2 y.2) % 2 = 0; omega)]
      refine Prod.ext ?_ ?_
      · show x.1 * (a.1 * y.1 * sg (qs a.2 y.2 + 1)) * sg (qs x.2 (mk a.2 y.2) + m) = a.1 * (x.1 * y.1 * sg (qs x.2 y.2 + m)) * sg (qs a.2 (mk x.2 y.2) + 1)
        have p1 := qs_linR hx.ok ha.ok hy.ok lax.symm lay
        rw [cm] at c2
        have e1 : sg (qs a.2 y.2 + 1) * sg (qs x.2 (mk a.2 y.2) + m) = sg (qs x.2 y.2 + m + (qs a.2 (mk x.2 y.2) + 1)) := sg_mul3 (by omega) (by omega) (by omega)
        have e2 : sg (qs x.2 y.2 + m) * sg (qs a.2 (mk x.2 y.2) + 1) = sg (qs x.2 y.2 + m + (qs a.2 (mk x.2 y.2) + 1)) := sg_add hm (by omega)
        calc _ = a.1 * x.1 * y.1 * (sg (qs a.2 y.2 + 1) * sg (qs x.2 (mk a.2 y.2) + m)) := by simp only [Int.mul_assoc, Int.mul_comm, Int.mul_left_comm]
          _ = a.1 * x.1 * y.1 * (sg (qs x.2 y.2 + m) * sg (qs a.2 (mk x.2 y.2) + 1)) := by rw [e1, e2]
          _ = _ := by simp only [Int.mul_assoc, Int.mul_comm, Int.mul_left_comm]
      · show mk x.2 (mk a.2 y.2) = mk a.2 (mk x.2 y.2)
        rw [← s2, cm, s1]
  · rw [if_neg h1]
    by_cases h2 : qs a.2 y.2 % 2 = 0
    · rw [if_pos h2, if_neg (show ¬ qs a.2 (prM m x y).2 % 2 = 0 by show ¬ qs a.2 (mk x.2 y.2) % 2 = 0; omega)]
      refine Prod.ext ?_ ?_
      · show a.1 * x.1 * sg (qs a.2 x.2 + 1) * y.1 * sg (qs (mk a.2 x.2) y.2 + m) = a.1 * (x.1 * y.1 * sg (qs x.2 y.2 + m)) * sg (qs a.2 (mk x.2 y.2) + 1)
        have p1 := qs_lin ha.ok hx.ok hy.ok lax lxy
        have e1 : sg (qs a.2 x.2 + 1) * sg (qs (mk a.2 x.2) y.2 + m) = sg (qs x.2 y.2 + m + (qs a.2 (mk x.2 y.2) + 1)) := sg_mul3 (by omega) (by omega) (by omega)
        have e2 : sg (qs x.2 y.2 + m) * sg (qs a.2 (mk x.2 y.2) + 1) = sg (qs x.2 y.2 + m + (qs a.2 (mk x.2 y.2) + 1)) := sg_add hm (by omega)
        calc _ = a.1 * x.1 * y.1 * (sg (qs a.2 x.2 + 1) * sg (qs (mk a.2 x.2) y.2 + m)) := by simp only [Int.mul_assoc, Int.mul_comm, Int.mul_left_comm]
          _ = a.1 * x.1 * y.1 * (sg (qs x.2 y.2 + m) * sg (qs a.2 (mk x.2 y.2) + 1)) := by rw [e1, e2]
          _ = _ := by simp only [Int.mul_assoc, Int.mul_comm, Int.mul_left_comm]
      · exact s1
    · rw [if_neg h2, if_pos (show qs a.2 (prM m x y).2 % 2 = 0 by show qs a.2 (mk x.2 y.2) % 2 = 0; omega)]
      have hmy := mk_ok ha.ok hy.ok lay
      have lmy : a.2.length = (mk a.2 y.2).length := (mk_len lay).symm
      have lmx : x.2.length = (mk a.2 y.2).length := lax.symm.trans lmy
      have c3 := qs_coc hx.ok ha.ok hmy lax.symm lmy
      have k1 := mk_can ha.ok hy.ok lay
      have k2 := qs_can ha.ok hy.ok lay
      have s3 := mk_as hx.ok ha.ok hmy lax.symm lmy
      rw [cm, k1] at s3
      rw [cm, k1, k2] at c3
      refine Prod.ext ?_ ?_
      · show a.1 * x.1 * sg (qs a.2 x.2 + 1) * (a.1 * y.1 * sg (qs a.2 y.2 + 1)) * sg (qs (mk a.2 x.2) (mk a.2 y.2) + m) = x.1 * y.1 * sg (qs x.2 y.2 + m)
        have e1 : sg (qs a.2 x.2 + 1) * sg (qs a.2 y.2 + 1) = sg (qs a.2 x.2 + 1 + (qs a.2 y.2 + 1)) := sg_add (by omega) (by omega)
        have e2 : sg (qs a.2 x.2 + 1 + (qs a.2 y.2 + 1)) * sg (qs (mk a.2 x.2) (mk a.2 y.2) + m) = sg (qs x.2 y.2 + m) := sg_mul3 (by omega) (by omega) (by omega)
        calc _ = (a.1 * a.1) * (x.1 * y.1) * ((sg (qs a.2 x.2 + 1) * sg (qs a.2 y.2 + 1)) * sg (qs (mk a.2 x.2) (mk a.2 y.2) + m)) := by simp only [Int.mul_assoc, Int.mul_comm, Int.mul_left_comm]
          _ = _ := by rw [pm_sq ha.pm, e1, e2, Int.one_mul]
      · show mk (mk a.2 x.2) (mk a.2 y.2) = mk x.2 y.2
        exact s3
end Dl
set_option Elab.async false
set_option linter.all false
set_option maxRecDepth 100000
set_option maxHeartbeats 4000000
set_option autoImplicit false
namespace Dl
/-! ## maps of words that keep products; words put together of letters -/
structure HomW (n : Nat) (φ : Wp → Wp) : Prop where
  ok : ∀ x, okX n x → okX n (φ x)
  par : ∀ x y, okX n x → okX n y → (qs (φ x).2 (φ y).2 - qs x.2 y.2) % 2 = 0
  mul : ∀ m x y, okX n x → okX n y → (qs x.2 y.2 + m) % 2 = 0 → prM m (φ x) (φ y) = φ (prM m x y)
  one : ∀ s, (s = 1 ∨ s = -1) → φ (s, List.replicate n 73) = (s, List.replicate n 73)
theorem HomW.id {n : Nat} : HomW n fun x => x := ⟨fun _ h => h, fun _ _ _ _ => by omega, fun _ _ _ _ _ _ => rfl, fun _ _ => rfl⟩
theorem HomW.comp {n : Nat} {φ ψ : Wp → Wp} (h : HomW n φ) (k : HomW n ψ) : HomW n fun x => ψ (φ x) := by
  refine ⟨fun x hx => k.ok _ (h.ok x hx), fun x y hx hy => ?_, fun m x y hx hy e => ?_, fun s hs => by rw [h.one s hs, k.one s hs]⟩
  · have h1 := h.par x y hx hy
    have h2 := k.par _ _ (h.ok x hx) (h.ok y hy)
    omega
  · have h1 := h.par x y hx hy
    rw [k.mul m _ _ (h.ok x hx) (h.ok y hy) (by omega), h.mul m x y hx hy e]
theorem HomW.ld {n : Nat} {a : Wp} (ha : okX n a) : HomW n (ldW a) := by
  refine ⟨fun x hx => ldW_ok ha hx, fun x y hx hy => ldW_par ha hx hy, fun m x y hx hy e => prM_ld ha hx hy e, fun s hs => ?_⟩
  have h := (mk_I a.2 ha.ok.all).2
  rw [ha.len] at h
  have e := qs_anti (List.replicate n 73) a.2
  unfold ldW
  rw [if_pos]
  show qs a.2 (List.replicate n 73) % 2 = 0
  omega
theorem HomW.fold {n : Nat} : ∀ {as : List Wp}, (∀ a ∈ as, okX n a) → HomW n fun x => as.foldl (fun x a => ldW a x) x
  | [], _ => HomW.id
  | a :: as, h => (HomW.ld (h a List.mem_cons_self)).comp (HomW.fold fun b hb => h b (List.mem_cons_of_mem _ hb))
/-! letters at one wire -/
def ln1 (n k c : Nat) : List Nat := List.replicate k 73 ++ [c] ++ List.replicate (n - k - 1) 73
theorem qs_app : ∀ {A C B D : List Nat}, A.length = C.length → qs (A ++ B) (C ++ D) = qs A C + qs B D
  | [], [], B, D, _ => by simp [qs]
  | a :: A, c :: C, B, D, h => by
    have h' : A.length = C.length := by simpa using h
    show qs (a :: (A ++ B)) (c :: (C ++ D)) = _
    rw [qs_cons, qs_cons, qs_app h']
    omega
theorem mk_Ir {L : List Nat} (h : ∀ c ∈ L, c ∈ IXYZ) : mk L (List.replicate L.length 73) = L ∧ qs L (List.replicate L.length 73) = 0 := by
  obtain ⟨h1, h2⟩ := mk_I L h
  have e := qs_anti (List.replicate L.length 73) L
  exact ⟨(mk_comm _ _).trans h1, by omega⟩
theorem rep_in (k : Nat) : ∀ c ∈ List.replicate k 73, c ∈ IXYZ := fun c hc => by rw [(List.mem_replicate.mp hc).2]; decide
theorem ln1_len {n k c : Nat} (h : k < n) : (ln1 n k c).length = n := by unfold ln1; simp; omega
theorem ln1_ok {n k c : Nat} (h : k < n) (h4 : n ≤ 4) (hc : c ∈ IXYZ) : okL (ln1 n k c) := by
  have l := ln1_len (c := c) h
  refine ⟨by omega, by omega, fun x hx => ?_⟩
  unfold ln1 at hx
  rcases List.mem_append.mp hx with hx | hx
  · rcases List.mem_append.mp hx with hx | hx
    · exact rep_in _ x hx
    · rw [List.mem_singleton.mp hx]; exact hc
  · exact rep_in _ x hx
end Dl
set_option Elab.async false
set_option linter.all false
set_option maxRecDepth 100000
set_option maxHeartbeats 4000000
set_option autoImplicit false
namespace Dl
/-! ## rows of words that pass one another and of which none is made of others -/
/-- the letters that a map makes do not hang on the sign -/
def LetW (φ : Wp → Wp) : Prop := ∀ s t L, (φ (s, L)).2 = (φ (t, L)).2
theorem LetW.id : LetW fun x => x := fun _ _ _ => rfl
theorem LetW.comp {φ ψ : Wp → Wp} (h : LetW φ) (k : LetW ψ) : LetW fun x => ψ (φ x) := fun s t L => by
  have e := h s t L
  have := k (φ (s, L)).1 (φ (t, L)).1 (φ (s, L)).2
  rw [show ((φ (s, L)).1, (φ (s, L)).2) = φ (s, L) from rfl] at this
  show (ψ (φ (s, L))).2 = (ψ (φ (t, L))).2
  rw [this, e]
theorem LetW.ld (a : Wp) : LetW (ldW a) := fun s t L => by
  unfold ldW
  show (if qs a.2 L % 2 = 0 then (s, L) else _).2 = (if qs a.2 L % 2 = 0 then (t, L) else _).2
  split <;> rfl
theorem LetW.fold : ∀ {as : List Wp}, LetW fun x => as.foldl (fun x a => ldW a x) x
  | [] => LetW.id
  | a :: as => (LetW.ld a).comp (LetW.fold (as := as))
def fL (φ : Wp → Wp) (L : List Nat) : List Nat := (φ (1, L)).2
theorem okS.x {n : Nat} {L : List Nat} (h : okS n L) : okX n (1, L) := ⟨h.ok, h.len, .inl rfl⟩
section
variable {n : Nat} {φ : Wp → Wp}
theorem fL_ok (H : HomW n φ) {L : List Nat} (h : okS n L) : okS n (fL φ L) := ⟨(H.ok _ h.x).ok, (H.ok _ h.x).len⟩
theorem fL_mk (H : HomW n φ) (Hl : LetW φ) {A B : List Nat} (hA : okS n A) (hB : okS n B) : mk (fL φ A) (fL φ B) = fL φ (mk A B) := by
  have h := H.mul (qs A B) (1, A) (1, B) hA.x hB.x (by show (qs A B + qs A B) % 2 = 0; omega)
  have e := congrArg Prod.snd h
  have e2 : (φ (prM (qs A B) (1, A) (1, B))).2 = fL φ (mk A B) := Hl _ 1 _
  rw [e2] at e
  exact e
theorem fL_one (H : HomW n φ) : fL φ (List.replicate n 73) = List.replicate n 73 := congrArg Prod.snd (H.one 1 (.inl rfl))
/-- what passes all is I -/
theorem non_deg {L : List Nat} (h : okS n L) (hz : ∀ Z, okS n Z → qs L Z % 2 = 0) : L = List.replicate n 73 := by
  refine List.eq_replicate_iff.mpr ⟨h.len, fun c hc => ?_⟩
  obtain ⟨k, hk⟩ := List.getElem?_of_mem hc
  have hkl := (List.getElem?_eq_some_iff.mp hk).1
  have hg : L[k] = c := by rw [List.getElem?_eq_getElem hkl] at hk; exact Option.some.inj hk
  have hcm := h.ok.all c hc
  have hkn : k < n := by rw [← h.len]; exact hkl
  have key : ∀ d ∈ IXYZ, qt c d % 2 = 0 := fun d hd => by
    have h4 : n ≤ 4 := by rw [← h.len]; exact h.ok.four
    have := hz (ln1 n k d) ⟨ln1_ok hkn h4 hd, ln1_len hkn⟩
    have e1 : L = L.take k ++ ([c] ++ L.drop (k + 1)) := by
      rw [← hg]
      show L = L.take k ++ (L[k] :: L.drop (k + 1))
      rw [← List.drop_eq_getElem_cons hkl, List.take_append_drop]
    have e2 : ln1 n k d = List.replicate k 73 ++ ([d] ++ List.replicate (n - k - 1) 73) := by unfold ln1; rw [List.append_assoc]
    have lt : (L.take k).length = k := by rw [List.length_take]; omega
    have ld : (L.drop (k + 1)).length = n - k - 1 := by rw [List.length_drop, h.len]; omega
    obtain ⟨_, i2⟩ := mk_Ir (L := L.take k) fun c hc => h.ok.all c (List.mem_of_mem_take hc)
    obtain ⟨_, j2⟩ := mk_Ir (L := L.drop (k + 1)) fun c hc => h.ok.all c (List.mem_of_mem_drop hc)
    rw [lt] at i2
    rw [ld] at j2
    rw [e2, e1, qs_app (by rw [lt, List.length_replicate]), qs_app (A := [c]) (C := [d]) rfl, i2, j2] at this
    have e3 : qs [c] [d] = qt c d := by simp [qs]
    rw [e3] at this
    omega
  have fin : ∀ c ∈ IXYZ, (∀ d ∈ IXYZ, qt c d % 2 = 0) → c = 73 := by decide +kernel
  exact fin c hcm key
theorem fL_inj (H : HomW n φ) (Hl : LetW φ) {A B : List Nat} (hA : okS n A) (hB : okS n B) (e : fL φ A = fL φ B) : A = B := by
  have hAB := hA.prod hB
  have e1 : fL φ (mk A B) = List.replicate n 73 := by
    rw [← fL_mk H Hl hA hB, e, mk_self, (fL_ok H hB).len]
  have e2 : mk A B = List.replicate n 73 := non_deg hAB fun Z hZ => by
    have p := H.par (1, mk A B) (1, Z) hAB.x hZ.x
    have p : (qs (fL φ (mk A B)) (fL φ Z) - qs (mk A B) Z) % 2 = 0 := p
    rw [e1] at p
    have z := (mk_I (fL φ Z) (fL_ok H hZ).ok.all).2
    rw [(fL_ok H hZ).len] at z
    omega
  have c := mk_can hA.ok hB.ok (hA.len.trans hB.len.symm)
  rw [e2] at c
  have i := (mk_Ir (L := A) hA.ok.all).1
  rw [hA.len] at i
  exact i.symm.trans c
end
/-! closed rows -/
structure Clo (n : Nat) (f : List (List Nat)) : Prop where
  ok : ∀ a ∈ f, okS n a
  one : List.replicate n 73 ∈ f
  mul : ∀ a ∈ f, ∀ b ∈ f, mk a b ∈ f
theorem Clo.step {n : Nat} {f : List (List Nat)} {w : List Nat} (G : Clo n f) (hw : okS n w) : Clo n (twice f w) := by
  refine ⟨fun a ha => ?_, List.mem_append_left _ G.one, fun a ha b hb => ?_⟩
  · rcases List.mem_append.mp ha with ha | ha
    · exact G.ok a ha
    · obtain ⟨x, hx, rfl⟩ := List.mem_map.mp ha
      exact (G.ok x hx).prod hw
  · unfold twice at *
    rcases List.mem_append.mp ha with ha | ha <;> rcases List.mem_append.mp hb with hb | hb
    · exact List.mem_append_left _ (G.mul a ha b hb)
    · obtain ⟨y, hy, rfl⟩ := List.mem_map.mp hb
      rw [← (G.ok a ha).assoc (G.ok y hy) hw]
      exact List.mem_append_right _ (List.mem_map.mpr ⟨_, G.mul a ha y hy, rfl⟩)
    · obtain ⟨x, hx, rfl⟩ := List.mem_map.mp ha
      rw [mk_comm (Dl.mk x w) b, ← (G.ok b hb).assoc (G.ok x hx) hw]
      exact List.mem_append_right _ (List.mem_map.mpr ⟨_, G.mul b hb x hx, rfl⟩)
    · obtain ⟨x, hx, rfl⟩ := List.mem_map.mp ha
      obtain ⟨y, hy, rfl⟩ := List.mem_map.mp hb
      rw [(G.ok x hx).assoc hw ((G.ok y hy).prod hw), mk_comm w (Dl.mk y w), (G.ok y hy).back hw]
      exact List.mem_append_left _ (G.mul x hx y hy)
theorem span_clo {n : Nat} : ∀ {ws : List (List Nat)} {f : List (List Nat)}, Clo n f → (∀ w ∈ ws, okS n w) → Clo n (spanF f ws)
  | [], _, G, _ => G
  | w :: ws, f, G, h => span_clo (ws := ws) (f := twice f w) (G.step (h w List.mem_cons_self)) fun x hx => h x (List.mem_cons_of_mem _ hx)
theorem span_sub : ∀ {ws : List (List Nat)} {f : List (List Nat)} {x : List Nat}, x ∈ f → x ∈ spanF f ws
  | [], _, _, h => h
  | w :: ws, f, x, h => span_sub (ws := ws) (f := twice f w) (List.mem_append_left _ h)
theorem span_mem {n : Nat} : ∀ {ws : List (List Nat)} {f : List (List Nat)}, List.replicate n 73 ∈ f → (∀ w ∈ ws, okS n w) → ∀ w ∈ ws, w ∈ spanF f ws
  | [], _, _, _, w, h => by cases h
  | v :: ws, f, h1, hok, w, h => by
    rcases List.mem_cons.mp h with rfl | h
    · refine span_sub (ws := ws) (f := twice f w) (List.mem_append_right _ (List.mem_map.mpr ⟨_, h1, ?_⟩))
      exact (hok w List.mem_cons_self).one
    · exact span_mem (ws := ws) (f := twice f v) (List.mem_append_left _ h1) (fun x hx => hok x (List.mem_cons_of_mem _ hx)) w h
theorem span_in {n : Nat} {G : List (List Nat)} (hG : Clo n G) : ∀ {ws : List (List Nat)} {f : List (List Nat)}, (∀ a ∈ f, a ∈ G) → (∀ w ∈ ws, w ∈ G) → ∀ x ∈ spanF f ws, x ∈ G
  | [], _, hf, _, x, h => hf x h
  | w :: ws, f, hf, hw, x, h => span_in hG (ws := ws) (f := twice f w) (fun a ha => by
      rcases List.mem_append.mp ha with ha | ha
      · exact hf a ha
      · obtain ⟨y, hy, rfl⟩ := List.mem_map.mp ha
        exact hG.mul y (hf y hy) w (hw w List.mem_cons_self)) (fun v hv => hw v (List.mem_cons_of_mem _ hv)) x h
theorem span_length : ∀ (ws f : List (List Nat)), (spanF f ws).length = f.length * 2 ^ ws.length
  | [], f => by simp [spanF]
  | w :: ws, f => by
    show (spanF (twice f w) ws).length = _
    rw [span_length ws, List.length_cons, Nat.pow_succ]
    unfold twice
    rw [List.length_append, List.length_map, ← Nat.two_mul, Nat.mul_comm 2 f.length, Nat.mul_assoc, Nat.mul_comm 2 (2 ^ ws.length)]
theorem perm_of {α : Type} [DecidableEq α] : ∀ {l l' : List α}, l.Nodup → (∀ x ∈ l, x ∈ l') → l.length = l'.length → l.Perm l'
  | [], l', _, _, e => by
    have : l' = [] := List.eq_nil_of_length_eq_zero e.symm
    rw [this]
  | a :: t, l', hn, hs, e => by
    rw [List.nodup_cons] at hn
    have ha := hs a List.mem_cons_self
    have hp := List.perm_cons_erase ha
    refine (List.Perm.cons a (perm_of (l' := l'.erase a) hn.2 (fun x hx => ?_) ?_)).trans hp.symm
    · have hne : x ≠ a := fun z => hn.1 (z ▸ hx)
      exact (List.mem_erase_of_ne hne).mpr (hs x (List.mem_cons_of_mem _ hx))
    · have := hp.length_eq
      rw [List.length_cons] at this e
      omega
theorem nodup_of {α : Type} [DecidableEq α] {l l' : List α} (hn : l.Nodup) (hs : ∀ x ∈ l, x ∈ l') (e : l.length = l'.length) : l'.Nodup := (perm_of hn hs e).nodup_iff.mp hn
abbrev spanI (n : Nat) (ws : List (List Nat)) : List (List Nat) := spanF [List.replicate n 73] ws
structure Ind (n : Nat) (ws : List Wp) : Prop where
  ok : ∀ x ∈ ws, okX n x
  len : ws.length = n
  ps : ∀ x ∈ ws, ∀ y ∈ ws, qs x.2 y.2 % 2 = 0
  nd : (spanI n (ws.map (·.2))).Nodup
theorem clo_one {n : Nat} (h1 : 1 ≤ n) (h4 : n ≤ 4) : Clo n [List.replicate n 73] := by
  have hI : okS n (List.replicate n 73) := ⟨⟨by simpa using h1, by simpa using h4, rep_in n⟩, by simp⟩
  exact ⟨fun a ha => by rw [List.mem_singleton.mp ha]; exact hI, List.mem_singleton.mpr rfl, fun a ha b hb => by
    rw [List.mem_singleton.mp ha, List.mem_singleton.mp hb, hI.one]
    exact List.mem_singleton.mpr rfl⟩
theorem okX.s {n : Nat} {x : Wp} (h : okX n x) : okS n x.2 := ⟨h.ok, h.len⟩
section
variable {n : Nat} {ws : List Wp}
theorem Ind.okS (h : Ind n ws) : ∀ L ∈ ws.map (·.2), okS n L := fun L hL => by
  obtain ⟨x, hx, rfl⟩ := List.mem_map.mp hL
  exact (h.ok x hx).s
/-- the same products: as good -/
theorem Ind.same {vs : List Wp} (h : Ind n ws) (h1 : 1 ≤ n) (h4 : n ≤ 4) (ok : ∀ x ∈ vs, okX n x) (len : vs.length = n) (hs : ∀ x ∈ vs, x.2 ∈ spanI n (ws.map (·.2))) (hb : ∀ x ∈ ws, x.2 ∈ spanI n (vs.map (·.2))) (ps : ∀ x ∈ vs, ∀ y ∈ vs, qs x.2 y.2 % 2 = 0) : Ind n vs := by
  refine ⟨ok, len, ps, ?_⟩
  have okv : ∀ L ∈ vs.map (·.2), Dl.okS n L := fun L hL => by
    obtain ⟨x, hx, rfl⟩ := List.mem_map.mp hL
    exact (ok x hx).s
  have cv := span_clo (ws := vs.map (·.2)) (clo_one h1 h4) okv
  refine nodup_of h.nd (span_in cv (fun a ha => ?_) fun w hw => ?_) ?_
  · rw [List.mem_singleton.mp ha]; exact cv.one
  · obtain ⟨x, hx, rfl⟩ := List.mem_map.mp hw
    exact hb x hx
  · rw [span_length, span_length, List.length_map, List.length_map, h.len, len]
theorem Ind.map (h : Ind n ws) {φ : Wp → Wp} (H : HomW n φ) (Hl : LetW φ) (h1 : 1 ≤ n) (h4 : n ≤ 4) : Ind n (ws.map φ) := by
  refine ⟨fun x hx => ?_, by rw [List.length_map]; exact h.len, fun x hx y hy => ?_, ?_⟩
  · obtain ⟨y, hy, rfl⟩ := List.mem_map.mp hx
    exact H.ok y (h.ok y hy)
  · obtain ⟨a, ha, rfl⟩ := List.mem_map.mp hx
    obtain ⟨b, hb, rfl⟩ := List.mem_map.mp hy
    have p := H.par a b (h.ok a ha) (h.ok b hb)
    have q := h.ps a ha b hb
    omega
  · have hs : ∀ (vs f : List (List Nat)), (∀ v ∈ vs, Dl.okS n v) → (∀ a ∈ f, Dl.okS n a) → spanF (f.map (fL φ)) (vs.map (fL φ)) = (spanF f vs).map (fL φ) := by
      intro vs
      induction vs with
      | nil => intro f _ _; rfl
      | cons v vs ih =>
        intro f hv hf
        have e : twice (f.map (fL φ)) (fL φ v) = (twice f v).map (fL φ) := by
          unfold twice
          rw [List.map_append, List.map_map, List.map_map]
          congr 1
          refine List.map_congr_left fun a ha => ?_
          exact fL_mk H Hl (hf a ha) (hv v List.mem_cons_self)
        show spanF (twice (f.map (fL φ)) (fL φ v)) (vs.map (fL φ)) = (spanF (twice f v) vs).map (fL φ)
        rw [e, ih (twice f v) (fun w hw => hv w (List.mem_cons_of_mem _ hw)) fun a ha => ?_]
        rcases List.mem_append.mp ha with ha | ha
        · exact hf a ha
        · obtain ⟨b, hb, rfl⟩ := List.mem_map.mp ha
          exact (hf b hb).prod (hv v List.mem_cons_self)
    have e1 : (ws.map φ).map (·.2) = (ws.map (·.2)).map (fL φ) := by
      rw [List.map_map, List.map_map]
      refine List.map_congr_left fun x hx => ?_
      exact Hl x.1 1 x.2
    have c1 := clo_one h1 h4
    have cw := span_clo (ws := ws.map (·.2)) c1 h.okS
    show (spanF [List.replicate n 73] ((ws.map φ).map (·.2))).Nodup
    have e0 : [List.replicate n 73] = ([List.replicate n 73] : List (List Nat)).map (fL φ) := by
      show _ = [fL φ (List.replicate n 73)]
      rw [fL_one H]
    rw [e1, e0, hs _ _ h.okS c1.ok]
    exact nodup_map h.nd fun a ha b hb e => fL_inj H Hl (cw.ok a ha) (cw.ok b hb) e
end
end Dl
set_option Elab.async false
set_option linter.all false
set_option maxRecDepth 100000
set_option maxHeartbeats 4000000
set_option autoImplicit false
namespace Dl
open PySem PySem.Spec PyProof.Rows L2
/-! ## dicts that change: written, looked up, filled, listed, frozen -/
def dM (kv : List (Key × D)) : M := .dic (kv.map (·.1)) (kv.map (·.2))
def dD (kv : List (Key × D)) : D := .dic (kv.map (·.1)) (kv.map (·.2))
def valP (kv : List (Key × D)) (k : Key) : Option D := (kv.find? fun p => decide (p.1 = k)).map (·.2)
def keyD : Key → D
  | .inl i => .int i
  | .inr x => .str x
theorem rkv_of {K : PySem.W.Frag} {F : Hp} : ∀ {kvs : List (Key × V)} {kv : List (Key × D)}, kvs.map (·.1) = kv.map (·.1) → Reps K F (kvs.map (·.2)) (kv.map (·.2)) → RKV K F kvs kv
  | [], [], _, _ => .nil
  | [], _ :: _, h, _ => by cases h
  | _ :: _, [], h, _ => by cases h
  | (k, v) :: kvs, (j, d) :: kv, h, r => by
    rw [List.map_cons, List.map_cons] at h
    injection h with h1 h2
    cases r with
    | cons a b =>
      have h1 : k = j := h1
      subst h1
      exact .cons a (rkv_of h2 b)
theorem RKV.val {K : PySem.W.Frag} {F : Hp} {kvs : List (Key × V)} {kv : List (Key × D)} (h : RKV K F kvs kv) (k : Key) : (valP kv k = none ∧ valV kvs k = none) ∨ ∃ v d, valP kv k = some d ∧ valV kvs k = some v ∧ Rep K F v d := by
  induction h with
  | nil => exact .inl ⟨rfl, rfl⟩
  | @cons j v d kvs kv r _ ih =>
    by_cases hj : j = k
    · exact .inr ⟨v, d, by simp [valP, hj], by simp [valV, hj], r⟩
    · have e1 : valP ((j, d) :: kv) k = valP kv k := by simp [valP, hj]
      have e2 : valV ((j, v) :: kvs) k = valV kvs k := by simp [valV, hj]
      rw [e1, e2]
      exact ih
theorem RKV.length {K : PySem.W.Frag} {F : Hp} {kvs : List (Key × V)} {kv : List (Key × D)} (h : RKV K F kvs kv) : kvs.length = kv.length := by
  induction h with
  | nil => rfl
  | cons _ _ ih => exact congrArg (· + 1) ih
theorem rep_key {K : PySem.W.Frag} {F : Hp} {v : V} {k : Key} (h : Rep K F v (keyD k)) : v = kV k := by
  cases k with
  | inl i => exact rs_int (A := []) h
  | inr x =>
    cases (show Rep K F v (.str x) from h)
    rfl
theorem rep_dD {K : PySem.W.Frag} {F : Hp} {v : V} {kv : List (Key × D)} (h : Rep K F v (dD kv)) : ∃ a kvs, v = .ref a ∧ F a = some (.dK kvs) ∧ RKV K F kvs kv := by
  obtain ⟨a, kvs, rfl, h1, h2, h3⟩ := rep_dic h
  exact ⟨a, kvs, rfl, h1, rkv_of h2 h3⟩
section
variable {X : Cx} {N : En} {W : WX} {n : Nat} {δ : List (Option S)} {μ μ1 μ2 μ3 : List M} {a b o e value : Expr} {pos pos' apos cpos : Pos} {d : D} {kv : List (Key × D)} {k : Key} {j : Nat}
theorem dic_at {F : Hp} {A : List Addr} {H : Hp} {ad : Addr} (R : Rc N F A H μ) (ha : A[j]? = some ad) (hm : μ[j]? = some (dM kv)) : ∃ kvs, H ad = some (.dK kvs) ∧ RKV N.K F kvs kv := by
  obtain ⟨kvs, h1, h2, h3⟩ := R.mus j ad _ ha hm
  exact ⟨kvs, h1, rkv_of h2 h3⟩
/-- d[k] -/
theorem de_dgetM (g : Go X N W n) (ho : DE X N W δ μ o (.v (.l j)) μ1) (hi : DE X N W δ μ1 e (.v (.p (keyD k))) μ2) (hm : μ2[j]? = some (dM kv)) (hv : valP kv k = some d) (hs : NoSl e := by exact fun _ _ => rfl) : DE X N W δ μ (.Subscript o e pos) (.v (.p d)) μ2 :=
  PE.imp (pe_dget (by have := g.room.un; omega) ho hi hs) fun σ H Q ⟨F, A, R0, q⟩ => ⟨F, A, R0, fun x F1 A1 H1 e1 p1 R1 rx => ⟨F1, A1, R1, fun y F2 A2 H2 e2 p2 R2 ry => by
    obtain ⟨ad, rfl, ha⟩ := rx
    obtain ⟨kvs, h1, h2⟩ := dic_at R2.rc (getElem?_pre p2 ha) hm
    obtain rfl := rep_key ry
    rcases h2.val k with ⟨z, _⟩ | ⟨v, d', h3, h4, h5⟩
    · rw [hv] at z; cases z
    · rw [hv] at h3; cases h3
      exact ⟨ad, v, rfl, by have := DGet.k (k := k) h1; rw [h4] at this; exact this, q v F2 A2 H2 (e1.trans e2) (p1.trans p2) R2 h5⟩⟩⟩
/-- d.get(k, x) -/
theorem de_dget2D (g : Go X N W n) {d2 : D} (ho : DE X N W δ μ o (.v (.p (dD kv))) μ1) (ha : DE X N W δ μ1 a (.v (.p (keyD k))) μ2) (hb : DE X N W δ μ2 b (.v (.p d2)) μ3) (m : M2 X o "get" apos a b cpos := by exact ⟨rfl, rfl, rfl, rfl⟩) :
    DE X N W δ μ (.Call (.Attribute o "get" apos) [a, b] [] cpos) (.v (.p ((valP kv k).getD d2))) μ3 :=
  PE.imp (pe_dget2 (by have := g.room.un; omega) ho ha hb m) fun σ H Q ⟨F, A, R0, q⟩ => ⟨F, A, R0, fun x F1 A1 H1 e1 p1 R1 rx => by
    obtain ⟨ad, kvs, rfl, h1, h2⟩ := rep_dD (show Rep N.K F1 x (dD kv) from rx)
    refine ⟨ad, rfl, .inl ⟨kvs, .inl (R1.rc.sub _ _ h1)⟩, F1, A1, R1, fun y F2 A2 H2 e2 p2 R2 ry => ⟨F2, A2, R2, fun z F3 A3 H3 e3 p3 R3 rz => ?_⟩⟩
    obtain rfl := rep_key ry
    have rz : Rep N.K F3 z d2 := rz
    have h2 := h2.mono (e2.trans e3)
    refine ⟨valV kvs k, DGet.k (R3.rc.sub _ _ ((e2.trans e3) _ _ h1)), ?_⟩
    rcases h2.val k with ⟨z1, z2⟩ | ⟨v, d', h3, h4, h5⟩
    · rw [z2]
      rw [z1] at q
      exact q z F3 A3 H3 ((e1.trans e2).trans e3) ((p1.trans p2).trans p3) R3 rz
    · rw [h4]
      rw [h3] at q
      exact q v F3 A3 H3 ((e1.trans e2).trans e3) ((p1.trans p2).trans p3) R3 h5⟩
/-- d[k] = v -/
theorem ds_dput (g : Go X N W n) (hv : DE X N W δ μ value (.v (.p d)) μ1) (ho : DE X N W δ μ1 o (.v (.l j)) μ2) (hi : DE X N W δ μ2 e (.v (.p (keyD k))) μ3) (hm : μ3[j]? = some (dM kv)) (hl : kv.length < sizeLine)
    (hs : swapsWith value (some (.Subscript o e pos')) pos.line X.env = pure false := by rfl) : DS X N W δ μ (.Assign [.Subscript o e pos'] value pos) (.nx δ (μ3.set j (dM (putP kv k d)))) :=
  PS.imp (ps_dput (by have := g.room.un; omega) ho hi hv hs) fun K σ H ⟨F, A, R0, q⟩ => ⟨F, A, R0, fun v F1 A1 H1 e1 p1 R1 rv => ⟨F1, A1, R1, fun x F2 A2 H2 e2 p2 R2 rx => ⟨F2, A2, R2, fun y F3 A3 H3 e3 p3 R3 ry => by
    obtain ⟨ad, rfl, had⟩ := rx
    obtain rfl := rep_key ry
    have rv : Rep N.K F1 v d := rv
    have had3 := getElem?_pre p3 had
    obtain ⟨kvs, h1, h2⟩ := dic_at R3.rc had3 hm
    have h4 := h2.put (k := k) (rv.mono (e2.trans e3))
    refine ⟨ad, upd H3 ad (.dK (putK kvs k v)), rfl, DPut.k h1 (by rw [h2.length]; exact hl), ?_⟩
    exact q σ F3 A3 _ ((e1.trans e2).trans e3) ((p1.trans p2).trans p3) (R3.to (Same.refl _) (List.prefix_refl _) (R3.rc.write had3 hm trivial ⟨_, upd_same, h4.keys, h4.reps⟩))⟩⟩⟩
/-- list(d) -/
theorem keys_rep {K : PySem.W.Frag} {F : Hp} : ∀ {kvs : List (Key × V)} {kv : List (Key × D)}, RKV K F kvs kv → Reps K F (kvs.map fun p => kV p.1) (kv.map fun p => keyD p.1)
  | _, _, .nil => .nil
  | _, _, .cons (k := k) r h => .cons (by cases k with | inl i => exact .int i | inr x => exact .str x) (keys_rep h)
theorem c_listDM (g : Go X N W n) (hm : μ[j]? = some (dM kv)) : CallOk X N W (.type "list") μ [.l j] (.v (.p (.lst (kv.map fun p => keyD p.1)))) μ :=
  ⟨_, call_listD g.calm, fun σ δ F A H vs Q R rv q => by
    obtain ⟨v, rfl, ad, rfl, had⟩ := one_of rv
    obtain ⟨kvs, h1, h2⟩ := dic_at R.rc had hm
    refine ⟨ad, kvs, rfl, .inl h1, fun p np => ?_⟩
    have sm := same_updN (o := .lst (kvs.map fun p => kV p.1)) (R.rc.fresh np).2.1
    exact q (.ref p) _ A _ sm (List.prefix_refl _) (R.to sm (List.prefix_refl _) (R.rc.frozen np _)) (.lst upd_same ((keys_rep h2).mono sm))⟩
theorem de_dicM1 (hk : DE X N W δ (μ ++ [dM []]) a (.v (.p (keyD k))) (μ ++ [dM []])) (hv : DE X N W δ (μ ++ [dM []]) b (.v (.p d)) (μ ++ [dM []])) : DE X N W δ μ (.Dict [some a] [b] pos) (.v (.l μ.length)) (μ ++ [dM [(k, d)]]) :=
  PE.imp (pe_disp (pps_cons hk hv pps_nil) rfl rfl (by simp) (by show 1 ≤ 15; decide)) fun σ H Q ⟨F, A, R, q⟩ p np => by
    have r1 := R.rc.newM (m := dM []) np (o := .dK []) ⟨[], upd_same, rfl, .nil⟩
    refine ⟨F, A ++ [p], R.to (Same.refl _) (List.prefix_append _ _) r1, fun x F1 A1 H1 e1 p1 R1 rx => ⟨F1, A1, R1, fun y F2 A2 H2 e2 p2 R2 ry => ?_⟩⟩
    obtain rfl := rep_key rx
    have ry : Rep N.K F2 y d := ry
    have lA : A.length = μ.length := R.rc.len
    have e3 : A2 = A ++ [p] := app_one (p1.trans p2) (by rw [R2.rc.len, List.length_append, lA]; rfl)
    subst e3
    have ha : (A ++ [p])[μ.length]? = some p := by rw [← lA, List.getElem?_append_right (Nat.le_refl _), Nat.sub_self]; rfl
    have hm : (μ ++ [dM []])[μ.length]? = some (dM []) := by rw [List.getElem?_append_right (Nat.le_refl _), Nat.sub_self]; rfl
    obtain ⟨k0, h0, h1⟩ := dic_at R2.rc ha hm
    cases h1
    refine ⟨h0, [(k, y)], rfl, by show 1 ≤ 15; decide, ?_⟩
    have r4 := R2.rc.write ha hm trivial (o := .dK [(k, y)]) (m' := dM [(k, d)]) ⟨[(k, y)], upd_same, rfl, .cons ry .nil⟩
    rw [List.set_append_right _ _ (Nat.le_refl _), Nat.sub_self] at r4
    exact q (.ref p) F2 (A ++ [p]) _ (e1.trans e2) (List.prefix_append _ _) (R.to (e1.trans e2) (List.prefix_append _ _) r4) ⟨p, rfl, ha⟩
/-- a dict is frozen from here on -/
theorem dss_freezeD {rest : List Stmt} {out : Os} (hj : μ[j]? = some (dM kv)) (hA : N.A0.length ≤ j) (i : Nat) (hi : δ[i]? = some (some (.l j))) (h : DSs X N W (δ.set i (some (.p (dD kv)))) (μ.set j .gone) rest out) : DSs X N W δ μ rest out :=
  PSs.imp h fun K σ H ⟨F, A, R, q⟩ => by
    obtain ⟨v, hv, ad, rfl, ha⟩ := R.sl i _ hi
    obtain ⟨kvs, h1, h2⟩ := dic_at R.rc ha hj
    obtain ⟨r1, sm⟩ := R.rc.freeze ha hj trivial hA h1
    refine ⟨_, A, ⟨r1, by simp [R.len], fun i' s' e => ?_⟩, q.to sm (List.prefix_refl _)⟩
    by_cases hi' : i' = i
    · subst hi'
      have hl : i' < δ.length := (List.getElem?_eq_some_iff.mp hi).1
      rw [List.getElem?_set_self hl] at e
      cases e
      exact ⟨.ref ad, hv, (h2.mono sm).rep upd_same⟩
    · rw [List.getElem?_set_ne (Ne.symm hi')] at e
      obtain ⟨w, h3, h4⟩ := R.sl i' s' e
      exact ⟨w, h3, h4.mono sm (List.prefix_refl _)⟩
end
end Dl
set_option Elab.async false
set_option linter.all false
set_option maxRecDepth 100000
set_option maxHeartbeats 4000000
set_option autoImplicit false
namespace Dl
open PySem PySem.Spec PyProof.Rows L2
/-! ## dicts of flat values compared -/
def eqsV (ls : List (Key × V)) (ks : List (Key × V)) : Bool := ks.all fun p => match valV ls p.1 with
  | none => false
  | some v => eqV p.2 v
def eqDV (ks ls : List (Key × V)) : Bool := ks.length == ls.length && eqsV ls ks
theorem hits_of {A : Around} {s : Shared} {ls : List (Key × V)} {vb : List (Key × Value)} (rb : KV ls vb) (hl : ∀ p ∈ ls, flatV p.2 = true) {ks : List (Key × V)} {va : List (Key × Value)} (ra : KV ks va) : (∀ p ∈ ks, flatV p.2 = true) → PySem.W.KeqHits A s vb va (eqsV ls ks) := by
  unfold KV at ra
  induction ra with
  | nil => intro _; exact .nil
  | @cons p q ps qs h t ih =>
    intro hp
    obtain ⟨h1, h2⟩ := h
    obtain ⟨k, v⟩ := q
    have h1' : p.1 = k := h1
    have ih := ih fun p' hm => hp p' (List.mem_cons_of_mem _ hm)
    show PySem.W.KeqHits A s vb ((k, v) :: qs) (eqsV ls (p :: ps))
    have e : eqsV ls (p :: ps) = ((match valV ls p.1 with | none => false | some v => eqV p.2 v) && eqsV ls ps) := rfl
    rw [e]
    have r := rb.val p.1
    cases hv : valV ls p.1 with
    | none =>
      rw [hv] at r
      rw [Bool.false_and]
      have hn : valueAt vb p.1 = none := by
        have := RelO.isSome_eq r
        cases hx : valueAt vb p.1 with
        | none => rfl
        | some y => rw [hx] at this; cases this
      rw [h1'] at hn
      exact .miss hn
    | some w =>
      rw [hv] at r
      obtain ⟨y, hy, ry⟩ := r.some_of
      rw [h1'] at hy
      have fw : flatV w = true := by
        have : ∃ p' ∈ ls, p'.2 = w := by
          unfold valV at hv
          obtain ⟨p', hf, e2⟩ := Option.map_eq_some_iff.mp hv
          exact ⟨p', List.mem_of_find?_eq_some hf, e2⟩
        obtain ⟨p', hm, e2⟩ := this
        rw [← e2]
        exact hl p' hm
      exact .hit hy (eqAt_V h2 ry (hp p List.mem_cons_self) fw) ih
section
variable {X : Cx}
def rEqDG (neg : Bool) : R2 := fun x y H Q => ∃ a b ks ls, x = .ref a ∧ y = .ref b ∧ H a = some (.dK ks) ∧ H b = some (.dK ls) ∧ (∀ p ∈ ks, flatV p.2 = true) ∧ (∀ p ∈ ls, flatV p.2 = true) ∧ Q (.bl (if neg then !eqDV ks ls else eqDV ks ls)) H
theorem op_eqDG (hu : X.A.units < cLine) : OpR X (compareOp .Eq) (rEqDG false) := by
  intro pins s σ H x y v u Q I rx ry h
  obtain ⟨a, b, ks, ls, rfl, rfl, ea, eb, f1, f2, q⟩ := h
  obtain rfl : v = Value.ref a := rx
  obtain rfl : u = Value.ref b := ry
  obtain ⟨_, ya, va, ra, da⟩ := (show ObjOk X.prog X.w H s.heap a (.dK ks) from I.hok a _ ea)
  obtain ⟨_, yb, vb, rb, db⟩ := (show ObjOk X.prog X.w H s.heap b (.dK ls) from I.hok b _ eb)
  have hl : (va.length == vb.length) = (ks.length == ls.length) := by rw [← ra.length, ← rb.length]
  refine PySem.W.keq_eq (knd := mixKind X.prog X.w) (r := eqsV ls ks) ya yb da db hu (fun _ => hits_of rb f2 ra f1) ?_
  rw [hl]
  exact ⟨.bl _, H, I, rfl, q⟩
end
def flatP (kv : List (Key × D)) : List (Key × V) := kv.map fun p => (p.1, flatB p.2)
theorem rkv_flat {K : PySem.W.Frag} {F : Hp} {kvs : List (Key × V)} {kv : List (Key × D)} (h : RKV K F kvs kv) : (∀ p ∈ kv, FlatD p.2) → kvs = flatP kv ∧ ∀ p ∈ kvs, flatV p.2 = true := by
  induction h with
  | nil => intro _; exact ⟨rfl, fun p hp => by cases hp⟩
  | @cons k v d kvs kv r _ ih =>
    intro hf
    obtain ⟨h1, h2⟩ := ih fun p hp => hf p (List.mem_cons_of_mem _ hp)
    obtain ⟨e1, f1⟩ := flat_rep (hf _ List.mem_cons_self) r
    refine ⟨by rw [h1, e1]; rfl, fun p hp => ?_⟩
    rcases List.mem_cons.mp hp with rfl | hp
    · rw [show (k, v).2 = v from rfl, e1]; rw [e1] at f1; exact f1
    · exact h2 p hp
section
variable {X : Cx} {N : En} {W : WX} {n : Nat} {μ : List M} {kv lv : List (Key × D)}
theorem o_eqDD (g : Go X N W n) (h1 : ∀ p ∈ kv, FlatD p.2) (h2 : ∀ p ∈ lv, FlatD p.2) : OpOk X N W (compareOp .Eq) μ (.p (dD kv)) (.p (dD lv)) (.v (.p (.bl (eqDV (flatP kv) (flatP lv))))) μ :=
  ⟨_, op_eqDG (by have := g.room.units0; omega), fun σ δ F A H x y Q R rx ry q => by
    obtain ⟨a, kvs, rfl, e1, r1⟩ := rep_dD (show Rep N.K F x (dD kv) from rx)
    obtain ⟨b, lvs, rfl, e2, r2⟩ := rep_dD (show Rep N.K F y (dD lv) from ry)
    obtain ⟨g1, f1⟩ := rkv_flat r1 h1
    obtain ⟨g2, f2⟩ := rkv_flat r2 h2
    subst g1 g2
    exact ⟨a, b, _, _, rfl, rfl, R.rc.sub _ _ e1, R.rc.sub _ _ e2, f1, f2, q.here R (.bl _)⟩⟩
end
end Dl
set_option Elab.async false
set_option linter.all false
set_option maxRecDepth 100000
set_option maxHeartbeats 4000000
set_option autoImplicit false
namespace Dl
open PySem PySem.Spec PyProof.Rows L2
/-! ## repr of a truth, `is not` of truths, list of a frozen list -/
section
variable {X : Cx}
theorem call_repr_bool : CallR X (.builtin "repr") (fun xs H Q => ∃ b, xs = [.bl b] ∧ Q (.str (if b then "True" else "False")) H) := by
  intro pins s σ H xs us Q I r h
  obtain ⟨b, rfl, q⟩ := h
  obtain ⟨u, rfl, t⟩ := vals1 r
  obtain rfl : u = Value.bool b := t
  exact PySem.P.repr_of_bool ⟨.str _, H, I.tok _, ⟨_, rfl⟩, q⟩
theorem op_notBl : OpR X (compareOp .IsNot) (fun x y H Q => ∃ b c, x = .bl b ∧ y = .bl c ∧ Q (.bl (!decide (b = c))) H) := by
  intro pins s σ H x y v u Q I rx ry h
  obtain ⟨b, c, rfl, rfl, q⟩ := h
  obtain rfl : v = Value.bool b := rx
  obtain rfl : u = Value.bool c := ry
  refine wpAny_isNot_plain (by cases b <;> cases c <;> rfl) ⟨.bl (!decide (b = c)), H, I, ?_, q⟩
  cases b <;> cases c <;> rfl
end
section
variable {X : Cx} {N : En} {W : WX} {n : Nat} {μ : List M}
theorem c_reprB {b : Bool} : CallOk X N W (.builtin "repr") μ [.p (.bl b)] (.v (.p (.str (if b then "True" else "False")))) μ :=
  ⟨_, call_repr_bool, fun σ δ F A H vs Q R rv k => by
    cases rv with
    | cons r1 rv =>
      cases rv
      cases rs_bl r1
      exact ⟨b, rfl, k.here R (.str _)⟩⟩
theorem o_notBl {i j : Bool} : OpOk X N W (compareOp .IsNot) μ (.p (.bl i)) (.p (.bl j)) (.v (.p (.bl (!decide (i = j))))) μ :=
  ⟨_, op_notBl, fun σ δ F A H x y Q R rx ry k => ⟨i, j, rs_bl rx, rs_bl ry, k.here R (.bl _)⟩⟩
theorem c_listF (g : Go X N W n) {ds : List D} : CallOk X N W (.type "list") μ [.p (.lst ds)] (.v (.p (.lst ds))) μ :=
  ⟨_, call_list_of, fun σ δ F A H vs Q R rv k => by
    obtain ⟨v, rfl, h⟩ := one_of rv
    obtain ⟨a, ws, rfl, h1, h2⟩ := rep_lst (show Rep N.K F v (.lst ds) from h)
    refine ⟨a, ws, rfl, .inl (SqL.of (R.rc.sub _ _ h1)), fun p np => ?_⟩
    have sm := same_updN (o := .lst ws) (R.rc.fresh np).2.1
    exact k (.ref p) _ A _ sm (List.prefix_refl _) (R.to sm (List.prefix_refl _) (R.rc.frozen np _)) (.lst upd_same (h2.mono sm))⟩
end
end Dl
set_option Elab.async false
set_option linter.all false
set_option maxRecDepth 100000
set_option maxHeartbeats 4000000
set_option autoImplicit false
namespace Dl
open PySem PySem.Spec PyProof.Rows L2
section
variable {X : Cx} {N : En} {W : WX} {f : As} {body : List Stmt}
/-- a loop whose turns know their number -/
theorem loop_ix {T α : Type} {mu : T → List M} {nx : α → T → T} {gd : α → D} (I : Nat → T → Prop) (Δ : T → List (Option S) → Prop) : ∀ (l : List α) (m : Nat) (δ : List (Option S)) (t : T),
    (∀ i a, l[i]? = some a → ∀ t δ, Δ t δ → I (m + i) t → I (m + i + 1) (nx a t) ∧ ∃ δt δ1, f (gd a) δ = some δt ∧ DSs X N W δt (mu t) body (.nx δ1 (mu (nx a t))) ∧ Δ (nx a t) δ1) → Δ t δ → I m t →
    ∃ δ', Loop X N W f body (l.map gd) δ (mu t) (.nx δ' (mu (l.foldl (fun t a => nx a t) t))) ∧ Δ (l.foldl (fun t a => nx a t) t) δ' ∧ I (m + l.length) (l.foldl (fun t a => nx a t) t)
  | [], m, δ, t, _, h0, hi => ⟨δ, .nil, h0, hi⟩
  | a :: l, m, δ, t, h, h0, hi => by
    obtain ⟨h1, δt, δ1, h2, h3, h4⟩ := h 0 a rfl t δ h0 hi
    obtain ⟨δ', h5, h6, h7⟩ := loop_ix I Δ l (m + 1) δ1 (nx a t) (fun i b hb t δ hd hi => by
      have := h (i + 1) b (by simpa using hb) t δ hd (by rw [show m + (i + 1) = m + 1 + i by omega]; exact hi)
      rw [show m + (i + 1) = m + 1 + i by omega] at this
      exact this) h4 h1
    refine ⟨δ', .next h2 h3 h5, h6, ?_⟩
    rw [List.length_cons, show m + (l.length + 1) = m + 1 + l.length by omega]
    exact h7
end
end Dl
set_option Elab.async false
set_option linter.all false
set_option maxRecDepth 100000
set_option maxHeartbeats 4000000
set_option autoImplicit false
namespace Dl
open PySem PySem.Spec PyProof.Rows L2
section
variable {X : Cx} {N : En} {W : WX} {n m : Nat} {μ : List M} {R : Rel} {k : Nat} {C : Addr}
def flB : D → Bool
  | .non => true
  | .bl _ => true
  | .int _ => true
  | .str _ => true
  | _ => false
theorem flat_of {d : D} (h : flB d = true) : FlatD d := by
  cases d with
  | non => exact .non
  | bl b => exact .bl b
  | int i => exact .int i
  | str z => exact .str z
  | _ => cases h
theorem eqV_self : ∀ {d : D}, FlatD d → eqV (flatB d) (flatB d) = true := by
  intro d h
  cases h with
  | non => rfl
  | bl b => cases b <;> rfl
  | int i => simp [flatB, eqV]
  | str z => simp [flatB, eqV]
/-- plain data, by depth -/
def okB : Nat → D → Bool
  | k + 1, .tup ds => ds.all (okB k)
  | k + 1, .lst ds => ds.all (okB k)
  | _ + 1, .dic ks ds => decide ks.Nodup && ds.all flB
  | _, d => flB d
theorem eb_ok : ∀ (k : Nat) {d : D}, okB k d = true → EB X k d d true
  | 0, d, h => eb_flat (flat_of (by cases d <;> first | rfl | exact h)) (flat_of (by cases d <;> first | rfl | exact h)) (eqV_self (flat_of (by cases d <;> first | rfl | exact h)))
  | k + 1, .non, _ => (eb_flat .non .non rfl).mono (Nat.zero_le _)
  | k + 1, .bl b, _ => (eb_flat (.bl b) (.bl b) (eqV_self (.bl b))).mono (Nat.zero_le _)
  | k + 1, .int b, _ => (eb_flat (.int b) (.int b) (eqV_self (.int b))).mono (Nat.zero_le _)
  | k + 1, .str b, _ => (eb_flat (.str b) (.str b) (eqV_self (.str b))).mono (Nat.zero_le _)
  | k + 1, .tup ds, h => eb_of_rb (rb_tup fun d hd => eb_ok k (List.all_eq_true.mp h d hd)) ref_tup
  | k + 1, .lst ds, h => eb_of_rb (rb_lst fun d hd => eb_ok k (List.all_eq_true.mp h d hd)) ref_lst
  | k + 1, .dic ks ds, h => by
    have h : (decide ks.Nodup && ds.all flB) = true := h
    rw [Bool.and_eq_true] at h
    exact (eb_of_rb (rb_dic (of_decide_eq_true h.1) fun d hd => flat_of (List.all_eq_true.mp h.2 d hd)) ref_dic).mono (Nat.zero_le _)
  | k + 1, .ins .., h => by cases h
  | k + 1, .exc .., h => by cases h
  | k + 1, .adr _, h => by cases h
  | k + 1, .ty _, h => by cases h
  | k + 1, .sc _, h => by cases h
end
end Dl
set_option Elab.async false
set_option linter.all false
set_option maxRecDepth 100000
set_option maxHeartbeats 4000000
set_option autoImplicit false
namespace K62
open PySem PySem.Spec PyProof.Rows L2 Dl Cq
/-! ### drawn starts are starts -/
theorem okX_of {n : Nat} {x : Wd} (h : okW n x) : okX n x := ⟨h.ok, h.len, h.pm⟩
theorem okW_of {n : Nat} {x : Wd} (h : okX n x) : okW n x := ⟨h.ok, h.len, h.pm⟩
theorem hom_fix {n : Nat} {l : Ln} (h1 : 1 ≤ n) (h4 : n ≤ 4) (hl : okLn n l) : HomW n (ledFix n l) :=
  HomW.fold (as := (quartersF n l).reverse) fun a ha => okX_of (quartersF_ok h1 h4 hl a (List.mem_reverse.mp ha))
theorem let_fix (n : Nat) (l : Ln) : LetW (ledFix n l) := LetW.fold (as := (quartersF n l).reverse)
def lZ (n : Nat) : List (List Nat) := (List.range n).map fun i => lone1 n i 90
theorem lZ_nd : ∀ n ≤ 4, (spanI n (lZ n)).Nodup := by decide +kernel
theorem lZ_ps : ∀ n ≤ 4, ∀ a ∈ lZ n, ∀ b ∈ lZ n, qs a b % 2 = 0 := by decide +kernel
theorem scan_let (n : Nat) : ∀ (l : List Nat) (p : Pot), (scanO (fun i p => ((swS p, lone1 n i 90) : Wd)) (fun _ p => tkP p 3) l p).map (·.2) = l.map fun i => lone1 n i 90
  | [], _ => rfl
  | a :: l, p => by
    show lone1 n a 90 :: _ = _
    rw [scan_let n l]
    rfl
theorem sw0_let (n : Nat) (p : Pot) : (sw0 n p).map (·.2) = lZ n := scan_let n _ p
theorem ind_sw0 {n : Nat} {p : Pot} (h1 : 1 ≤ n) (h4 : n ≤ 4) : Ind n (sw0 n p) := by
  refine ⟨fun x hx => okX_of (sw0_ok h1 h4 x hx), sw0_len n p, fun x hx y hy => ?_, by rw [sw0_let]; exact lZ_nd n h4⟩
  have e := sw0_let n p
  exact lZ_ps n h4 _ (by rw [← e]; exact List.mem_map_of_mem hx) _ (by rw [← e]; exact List.mem_map_of_mem hy)
theorem ind_iter {n : Nat} (h1 : 1 ≤ n) (h4 : n ≤ 4) : ∀ (k : Nat) (t : SwT), Ind n t.ws → Ind n (iter (swX n) k t).ws
  | 0, t, h => h
  | k + 1, t, h => ind_iter h1 h4 k (swX n t) (h.map (hom_fix h1 h4 (gate_is h1 h4)) (let_fix n _) h1 h4)
theorem ind_swT {n : Nat} {p : Pot} (h1 : 1 ≤ n) (h4 : n ≤ 4) : Ind n (swT n p).ws := ind_iter h1 h4 _ _ (ind_sw0 h1 h4)
section
variable {n : Nat} {ws vs : List Wd}
theorem span_at (h : Ind n ws) {x : Wd} (hx : x ∈ ws) : x.2 ∈ spanI n (ws.map (·.2)) := span_mem (List.mem_singleton.mpr rfl) h.okS _ (List.mem_map_of_mem hx)
/-- the same letters in some order -/
theorem ind_sub (h : Ind n ws) (h1 : 1 ≤ n) (h4 : n ≤ 4) (ok : ∀ x ∈ vs, okX n x) (len : vs.length = n) (a : ∀ x ∈ vs, ∃ y ∈ ws, y.2 = x.2) (b : ∀ x ∈ ws, ∃ y ∈ vs, y.2 = x.2) : Ind n vs := by
  have okv : ∀ L ∈ vs.map (·.2), Dl.okS n L := fun L hL => by
    obtain ⟨x, hx, rfl⟩ := List.mem_map.mp hL
    exact (ok x hx).s
  refine h.same h1 h4 ok len (fun x hx => ?_) (fun x hx => ?_) fun x hx y hy => ?_
  · obtain ⟨y, hy, e⟩ := a x hx
    rw [← e]
    exact span_at h hy
  · obtain ⟨y, hy, e⟩ := b x hx
    rw [← e]
    exact span_mem (List.mem_singleton.mpr rfl) okv _ (List.mem_map_of_mem hy)
  · obtain ⟨x', hx', e⟩ := a x hx
    obtain ⟨y', hy', e'⟩ := a y hy
    rw [← e, ← e']
    exact h.ps x' hx' y' hy'
/-- one word by its product with another one -/
theorem ind_prod (h : Ind n ws) (h1 : 1 ≤ n) (h4 : n ≤ 4) {i j : Nat} (hi : i < n) (hj : j < n) (hij : i ≠ j) {x : Wd} (hx : okX n x) (e : x.2 = Dl.mk (w1A ws i).2 (w1A ws j).2) : Ind n (ws.set i x) := by
  have hi' : i < ws.length := by rw [h.len]; exact hi
  have hj' : j < ws.length := by rw [h.len]; exact hj
  have ai := w1A_in hi'
  have aj := w1A_in hj'
  have oi := (h.ok _ ai).s
  have oj := (h.ok _ aj).s
  have len : (ws.set i x).length = n := by rw [List.length_set]; exact h.len
  have okv : ∀ y ∈ ws.set i x, okX n y := fun y hy => by
    rcases List.mem_or_eq_of_mem_set hy with hy | rfl
    · exact h.ok y hy
    · exact hx
  have oks : ∀ L ∈ (ws.set i x).map (·.2), Dl.okS n L := fun L hL => by
    obtain ⟨y, hy, rfl⟩ := List.mem_map.mp hL
    exact (okv y hy).s
  have cw := span_clo (ws := ws.map (·.2)) (clo_one h1 h4) h.okS
  have cv := span_clo (ws := (ws.set i x).map (·.2)) (clo_one h1 h4) oks
  have hxs : x.2 ∈ spanI n (ws.map (·.2)) := by rw [e]; exact cw.mul _ (span_at h ai) _ (span_at h aj)
  have mem_set : ∀ k, k < n → k ≠ i → w1A ws k ∈ ws.set i x := fun k hk hki => by
    have hk' : k < ws.length := by rw [h.len]; exact hk
    have : (ws.set i x)[k]? = some (w1A ws k) := by
      rw [List.getElem?_set_ne (Ne.symm hki)]
      unfold w1A
      rw [List.getD_eq_getElem?_getD, List.getElem?_eq_getElem hk']
      rfl
    exact List.mem_of_getElem? this
  have mem_x : x ∈ ws.set i x := List.mem_of_getElem? (List.getElem?_set_self hi')
  have sv : ∀ y ∈ ws.set i x, y.2 ∈ spanI n ((ws.set i x).map (·.2)) := fun y hy => span_mem (List.mem_singleton.mpr rfl) oks _ (List.mem_map_of_mem hy)
  have par : ∀ y ∈ ws, qs x.2 y.2 % 2 = 0 := fun y hy => by
    have oy := (h.ok y hy).s
    have e3 := (mk_assoc oi.ok oj.ok oy.ok (oi.len.trans oj.len.symm) (oj.len.trans oy.len.symm)).2.2
    have p1 := h.ps _ ai y hy
    have p2 := h.ps _ aj y hy
    rw [e]
    omega
  have parx : qs x.2 x.2 % 2 = 0 := by
    have ox := hx.s
    have e3 := (mk_assoc oi.ok oj.ok ox.ok (oi.len.trans oj.len.symm) (oj.len.trans ox.len.symm)).2.2
    rw [← e] at e3
    have c1 : qs (w1A ws i).2 x.2 % 2 = 0 := by
      have := par _ ai
      have := qs_anti x.2 (w1A ws i).2
      omega
    have c2 : qs (w1A ws j).2 x.2 % 2 = 0 := by
      have := par _ aj
      have := qs_anti x.2 (w1A ws j).2
      omega
    omega
  refine h.same h1 h4 okv len (fun y hy => ?_) (fun y hy => ?_) fun y hy z hz => ?_
  · rcases List.mem_or_eq_of_mem_set hy with hy | rfl
    · exact span_at h hy
    · exact hxs
  · obtain ⟨k, hk⟩ := List.getElem?_of_mem hy
    have hk' := (List.getElem?_eq_some_iff.mp hk).1
    have ek : w1A ws k = y := by unfold w1A; rw [List.getD_eq_getElem?_getD, hk]; rfl
    by_cases hki : k = i
    · subst hki
      have := cv.mul _ (sv x mem_x) _ (sv _ (mem_set j hj (Ne.symm hij)))
      rw [e, oi.back oj, ek] at this
      exact this
    · rw [← ek]
      exact sv _ (mem_set k (by rw [← h.len]; exact hk') hki)
  · rcases List.mem_or_eq_of_mem_set hy with hy' | hy' <;> rcases List.mem_or_eq_of_mem_set hz with hz' | hz'
    · exact h.ps y hy' z hz'
    · rw [hz']
      have := par y hy'
      have := qs_anti x.2 y.2
      omega
    · rw [hy']
      exact par z hz'
    · rw [hy', hz']
      exact parx
/-- so it is a start -/
theorem ind_st (h : Ind n ws) (h1 : 1 ≤ n) : isSt (.tp (ws.map toEl)) = true := by
  show (wordsB (ws.map toEl) && decide (spanE (ws.map toEl)).Nodup) = true
  have lw : (ws.map toEl).length = n := by rw [List.length_map]; exact h.len
  have e : spanE (ws.map toEl) = spanI n (ws.map (·.2)) := by
    unfold spanE
    rw [lw, List.map_map]
    rfl
  rw [e, decide_eq_true h.nd, Bool.and_true]
  unfold wordsB
  rw [lw, decide_eq_false (show ¬ n = 0 by omega)]
  have a1 : (ws.map toEl).all (isOf n) = true := List.all_eq_true.mpr fun e he => by
    obtain ⟨x, hx, rfl⟩ := List.mem_map.mp he
    exact decide_eq_true (h.ok x hx).len
  have a2 : passesB (ws.map toEl) = true := by
    unfold passesB
    refine List.all_eq_true.mpr fun e he => List.all_eq_true.mpr fun e' he' => ?_
    obtain ⟨x, hx, rfl⟩ := List.mem_map.mp he
    obtain ⟨y, hy, rfl⟩ := List.mem_map.mp he'
    exact decide_eq_true (h.ps x hx y hy)
  rw [a1, a2]
  rfl
theorem ind_okW (h : Ind n ws) : ∀ x ∈ ws, okW n x := fun x hx => okW_of (h.ok x hx)
end
theorem ind_swL {n : Nat} {p : Pot} (h1 : 1 ≤ n) (h4 : n ≤ 4) : Ind n (swL n p) := by
  have h := ind_swT (p := p) h1 h4
  unfold swL
  split
  · rename_i hc
    exact ind_prod h h1 h4 (by omega) (j := 1) (by omega) (by decide) (okX_of (prodW_ok (okW_of (h.ok _ (w1A_in (by rw [h.len]; omega)))) (okW_of (h.ok _ (w1A_in (by rw [h.len]; omega)))))) rfl
  · exact h
/-! the products as a dict -/
def kvF (ws : List Wd) : List (Key × D) := (prodsF ws.length ws).map fun x => (.inr (Dl.st x.2), .int x.1)
theorem putP_new {kv : List (Key × D)} {k : Key} {d : D} (h : k ∉ kv.map (·.1)) : putP kv k d = kv ++ [(k, d)] := by
  unfold putP
  rw [if_neg]
  intro z
  obtain ⟨p, hp, e⟩ := List.any_eq_true.mp z
  exact h (List.mem_map.mpr ⟨p, hp, of_decide_eq_true e⟩)
theorem dcL_nd (fk : D → Str) (fv : D → D) : ∀ (ds : List D) (acc : List (Key × D)), (acc.map (·.1) ++ ds.map fun d => (Sum.inr (fk d) : Key)).Nodup → ds.foldl (fun kv d => putP kv (.inr (fk d)) (fv d)) acc = acc ++ ds.map fun d => (.inr (fk d), fv d)
  | [], acc, _ => by simp
  | d :: ds, acc, h => by
    have hn : (Sum.inr (fk d) : Key) ∉ acc.map (·.1) := fun z => by
      rw [List.nodup_append] at h
      exact h.2.2 _ z _ List.mem_cons_self rfl
    rw [List.foldl_cons, putP_new hn, dcL_nd fk fv ds _ ?_, List.map_cons, List.append_assoc]
    · rfl
    · rw [List.map_append, List.append_assoc]
      exact h
theorem prods_nd {n : Nat} {ws : List Wd} (h : Ind n ws) : ((prodsF ws.length ws).map (·.2)).Nodup := by
  have := h.nd
  unfold prodsF
  rw [prods_let, h.len]
  exact this
theorem signs_kv {n : Nat} {ws : List Wd} (h : Ind n ws) (C : Addr) : dcL fkD fvD ((prodsF ws.length ws).map (wdV C)) = kvF ws := by
  have hn := prods_nd h
  have e := dcL_nd fkD fvD ((prodsF ws.length ws).map (wdV C)) [] (by
    show (((prodsF ws.length ws).map (wdV C)).map fun d => (Sum.inr (fkD d) : Key)).Nodup
    rw [List.map_map]
    have : ((prodsF ws.length ws).map ((fun d => (Sum.inr (fkD d) : Key)) ∘ wdV C)) = ((prodsF ws.length ws).map (·.2)).map fun L => (Sum.inr (Dl.st L) : Key) := by
      rw [List.map_map]
      rfl
    rw [this]
    exact List.pairwise_map.mpr (List.Pairwise.imp (fun h e => h (st_inj.mp (Sum.inr.inj e))) hn))
  show _ = kvF ws
  unfold dcL
  rw [e, List.nil_append, List.map_map]
  rfl
end K62
set_option Elab.async false
set_option linter.all false
set_option maxRecDepth 100000
set_option maxHeartbeats 4000000
set_option autoImplicit false
namespace Dl
open PySem PySem.Spec PyProof.Rows L2
/-! ## != of a value beside itself -/
theorem kv_same : ∀ {p q : List (Key × V)}, p.map (·.1) = q.map (·.1) → p.map (·.2) = q.map (·.2) → p = q := by
  intro p
  induction p with
  | nil => intro q h1 _; cases q with
    | nil => rfl
    | cons _ _ => cases h1
  | cons a p ih =>
    intro q h1 h2
    cases q with
    | nil => cases h1
    | cons b q =>
      rw [List.map_cons, List.map_cons] at h1 h2
      injection h1 with h3 h4
      injection h2 with h5 h6
      rw [ih h4 h6, Prod.ext h3 h5]
theorem val_self : ∀ {kv : List (Key × V)}, (kv.map (·.1)).Nodup → ∀ p ∈ kv, valV kv p.1 = some p.2
  | [], _, p, h => by cases h
  | q :: kv, hnd, p, hp => by
    rw [List.map_cons, List.nodup_cons] at hnd
    rcases List.mem_cons.mp hp with rfl | hp
    · simp [valV]
    · have hne : q.1 ≠ p.1 := fun z => hnd.1 (by rw [z]; exact List.mem_map_of_mem hp)
      have := val_self hnd.2 p hp
      simp [valV, hne] at this ⊢
      exact this
/-- data that may be asked so -/
def neB : D → Bool
  | .tup ds => ds.all (okB 3)
  | .dic ks ds => decide ks.Nodup && ds.all flB
  | d => isPy d && SeqAt.shaped (py d) && PyData.eqv (py d) (py d)
section
variable {X : Cx} {N : En} {W : WX} {n : Nat} {μ : List M} {d : D} {ks : List Key} {ds : List D}
theorem o_neDic (g : Go X N W n) (hn : ks.Nodup) (h : ∀ d ∈ ds, FlatD d) : OpOk X N W (compareOp .NotEq) μ (.p (.dic ks ds)) (.p (.dic ks ds)) (.v (.p (.bl false))) μ :=
  ⟨_, op_ne_dictA (by have := g.room.units0; omega), fun σ δ F A H x y Q R rx ry k => by
    obtain ⟨a, kv, rfl, h1, h2, h3⟩ := rep_dic (show Rep N.K F x (.dic ks ds) from rx)
    obtain ⟨b, lv, rfl, k1, k2, k3⟩ := rep_dic (show Rep N.K F y (.dic ks ds) from ry)
    obtain ⟨e, hf⟩ := flat_same h h3 k3
    have ekv : kv = lv := kv_same (h2.trans k2.symm) e
    subst ekv
    refine ⟨a, b, kv, kv, rfl, rfl, R.rc.sub _ _ h1, R.rc.sub _ _ k1, rfl, fun p hp => ⟨val_self (by rw [h2]; exact hn) p hp, hf _ (List.mem_map_of_mem hp)⟩, ?_⟩
    exact k.here R (.bl _)⟩
theorem eqL_true : ∀ ds : List D, eqL (fun _ _ => true) ds ds = true := fun ds => by
  induction ds with
  | nil => rfl
  | cons d ds ih => first | exact ih | simpa [eqL] using ih
theorem o_neTup (g : Go X N W n) {m : Nat} (h : ∀ d ∈ ds, EB X m d d true) (hm : m + 1 ≤ n := by decide) : OpOk X N W (compareOp .NotEq) μ (.p (.tup ds)) (.p (.tup ds)) (.v (.p (.bl false))) μ := by
  have := o_tupNe (X := X) (N := N) (W := W) (μ := μ) (ds := ds) (es := ds) (qf := fun _ _ => true) g (m := m) (fun i a b h1 h2 => by
    rw [h1] at h2
    cases h2
    exact h a (List.mem_of_getElem? h1)) hm
  rw [eqL_true] at this
  exact this
theorem o_neSelf (g : Go X N W n) (h : neB d = true) (hn : 5 ≤ n := by decide) : OpOk X N W (compareOp .NotEq) μ (.p d) (.p d) (.v (.p (.bl false))) μ := by
  have pl : (isPy d && SeqAt.shaped (py d) && PyData.eqv (py d) (py d)) = true → OpOk X N W (compareOp .NotEq) μ (.p d) (.p d) (.v (.p (.bl false))) μ := fun h => by
    rw [Bool.and_eq_true, Bool.and_eq_true] at h
    exact ⟨_, op_neD (by have := g.room.un; omega), fun σ δ F A H x y Q R rx ry k => ⟨py d, py d, by rw [← g.hK]; exact rep_dp R.rc.sub rx h.1.1, by rw [← g.hK]; exact rep_dp R.rc.sub ry h.1.1, h.1.2, h.1.2, by rw [h.2]; exact k.here R (.bl _)⟩⟩
  cases d with
  | tup ds => exact o_neTup (m := 3) g (fun d hd => eb_ok 3 (List.all_eq_true.mp (show ds.all (okB 3) = true from h) d hd)) (by omega)
  | dic ks ds =>
    have h : (decide ks.Nodup && ds.all flB) = true := h
    rw [Bool.and_eq_true] at h
    exact o_neDic g (of_decide_eq_true h.1) fun d hd => flat_of (List.all_eq_true.mp h.2 d hd)
  | _ => exact pl h
end
end Dl
set_option Elab.async false
set_option linter.all false
set_option maxRecDepth 100000
set_option maxHeartbeats 4000000
set_option autoImplicit false
namespace K62
open PySem PySem.Spec PyProof.Rows L2 Dl Cq
/-! ### a Start is made -/
structure TKs (K : PySem.W.Frag) (mg : Str → Option Value) (CS : Addr) : Prop where
  ci : ClsI K CS
  nW : NoAttr K CS "words"
  nN : NoAttr K CS "wires"
  nS : NoAttr K CS "signs"
  at_ : mg "Start" = some (.ref CS)
def sF : List Str := ["words", "wires", "signs"]
def prodsD (C : Addr) (ws : List Wd) : List D := (prodsF ws.length ws).map (wdV C)
def signsD (C : Addr) (ws : List Wd) : D := .dic ((dcL fkD fvD (prodsD C ws)).map (·.1)) ((dcL fkD fvD (prodsD C ws)).map (·.2))
def sObj (C : Addr) (ws : List Wd) : List D := [.tup (ws.map (wdV C)), .int ((ws.length : Nat) : Int), signsD C ws]
def rSInit (K : PySem.W.Frag) (C CS CB : Addr) : Rel := fun ss μ r μ' => ∃ (j : Nat) (v : Vv), okV K C v ∧ ss = [.l j, .p (vvD C v)] ∧ μ[j]? = some (.obj CS [] []) ∧
  ((∃ ws, v = .tp (ws.map toEl) ∧ isSt v = true ∧ r = .v (.p .non) ∧ μ' = μ.set j (.obj CS sF (sObj C ws))) ∨ (areW v = false ∧ r = .x CB (vvD C v) ∧ μ' = μ) ∨ (∃ ws, v = .tp (ws.map toEl) ∧ areW v = true ∧ isSt v = false ∧ r = .x CB (vvD C v) ∧ μ' = μ.set j (.obj CS sF (sObj C ws))))
theorem toEl_inj {ws ws' : List Wd} (h : ws.map toEl = ws'.map toEl) : ws = ws' := by
  have : ∀ (l : List Wd), (l.map toEl).map (fun e => match e with | .wd L s => ((s, L) : Wd) | .ot _ => (1, [])) = l := fun l => by
    rw [List.map_map]
    exact List.map_id'' (fun x => rfl) l
  rw [← this ws, h, this ws']
theorem words_is {K : PySem.W.Frag} {C : Addr} {es : List El} (hk : ∀ e ∈ es, okEl K C e) (h : wordsB es = true) : ∃ ws : List Wd, es = ws.map toEl ∧ 1 ≤ ws.length ∧ ws.length ≤ 4 ∧ (∀ x ∈ ws, okW ws.length x) ∧ ∀ x ∈ ws, ∀ y ∈ ws, qs x.2 y.2 % 2 = 0 := by
  unfold wordsB at h
  simp only [Bool.and_eq_true, Bool.not_eq_true', decide_eq_false_iff_not] at h
  obtain ⟨h1, h2, h3⟩ := h
  obtain ⟨ws, rfl, hw⟩ := wds_of (of_wd h2) hk
  have lw : (ws.map toEl).length = ws.length := List.length_map ..
  rw [lw] at h1 h2
  have hl : ∀ x ∈ ws, x.2.length = ws.length := fun x hx => of_decide_eq_true (List.all_eq_true.mp h2 (toEl x) (List.mem_map.mpr ⟨x, hx, rfl⟩))
  refine ⟨ws, rfl, by omega, ?_, fun x hx => ⟨(hw x hx).1, hl x hx, (hw x hx).2⟩, fun x hx y hy => ?_⟩
  · obtain ⟨x, ws', rfl⟩ : ∃ x ws', ws = x :: ws' := by
      cases ws with
      | nil => exact absurd rfl h1
      | cons x ws' => exact ⟨x, ws', rfl⟩
    have e1 := hl x List.mem_cons_self
    have e2 := (hw x List.mem_cons_self).1.four
    omega
  · unfold passesB at h3
    have h4 := List.all_eq_true.mp h3 (toEl x) (List.mem_map.mpr ⟨x, hx, rfl⟩)
    exact of_decide_eq_true (List.all_eq_true.mp h4 (toEl y) (List.mem_map.mpr ⟨y, hy, rfl⟩))
theorem span_prods (ws : List Wd) : spanE (ws.map toEl) = (prodsF ws.length ws).map (·.2) := by
  unfold spanE prodsF
  rw [prods_let, List.length_map, List.map_map]
  rfl
theorem signs_len (C : Addr) (ws : List Wd) : (decide (((dcL fkD fvD (prodsD C ws)).map (·.1)).length < (prodsD C ws).length)) = !decide (spanE (ws.map toEl)).Nodup := by
  obtain ⟨h1, h2⟩ := dcL_len fkD fvD (prodsD C ws)
  have e : (prodsD C ws).map fkD = (spanE (ws.map toEl)).map Dl.st := by
    rw [span_prods]
    unfold prodsD
    rw [List.map_map, List.map_map]
    rfl
  have e2 : ((spanE (ws.map toEl)).map Dl.st).Nodup ↔ (spanE (ws.map toEl)).Nodup := by
    constructor
    · intro q
      exact List.Pairwise.imp (fun h e => h (congrArg _ e)) (List.pairwise_map.mp q)
    · intro q
      exact List.pairwise_map.mpr (List.Pairwise.imp (fun h e => h (st_inj.mp e)) q)
  rw [e, e2] at h2
  rw [List.length_map]
  by_cases hn : (spanE (ws.map toEl)).Nodup
  · rw [decide_eq_true hn, decide_eq_false (by have := h2.mpr hn; omega)]
    rfl
  · rw [decide_eq_false hn, decide_eq_true]
    · rfl
    · have : (dcL fkD fvD (prodsD C ws)).length ≠ (prodsD C ws).length := fun z => hn (h2.mp z)
      omega
section
variable {P : Program} {w : World} {K : PySem.W.Frag} {mg : Str → Option Value} {base : Heap} {qa ta f C CS CB : Addr} {fd : FuncData}
theorem ok_sinit (F : Fun K "__init__" "Start.__init__" sSInit f fd) (T : TM mg) (T2 : TC K mg C) (Ts : TKs K mg CS) (ca : Cf P w K mg base 5 "_are_words" [] (rAreWords K C)) (cp : Cf P w K mg base 7 "_products" [] (rProducts C)) (ce : Ce P w K mg base 1 CB "BadStart") : FnOk P w K mg base (L2.CX P w) 9 f fd ["self", "words"] (spD K (rSInit K C CS CB)) := by
  refine fn_D (k := 8) F scSInit (fun ss μ r μ' h => by obtain ⟨_, _, _, rfl, _⟩ := h; rfl) ?_
  intro cdv A0 outer s0 H E N W ss μ r μ' g hA hR
  obtain ⟨j, v, hv, rfl, hj, hc⟩ := hR
  have hj2 : ∀ x, (μ.set j x)[j]? = some x := fun x => List.getElem?_set_self (List.getElem?_eq_some_iff.mp hj).1
  have tA : DT (cxOf (L2.CX P w) P w K mg base siN "Start.__init__" (defScope sSInit) f cdv A0 outer s0 H E) N W (starts siN [.l j, .p (vvD C v)]) μ (ifC ((defBody sSInit).getD 0 (.Pass ⟨0, 0, 0, 0⟩))) (!areW v) μ := dt_not (dt_val (de_call g ca (da_cons (de_var 1) da_nil) ⟨v, hv, rfl, rfl, rfl⟩))
  have body : ∀ ws : List Wd, v = .tp (ws.map toEl) → areW v = true → ∃ sts, defBody sSInit = sts ∧ True ∧
      DT (cxOf (L2.CX P w) P w K mg base siN "Start.__init__" (defScope sSInit) f cdv A0 outer s0 H E) N W [some (.l j), some (.p (.tup (ws.map (wdV C)))), some (.p (.lst (prodsD C ws))), none] (μ.set j (.obj CS sF (sObj C ws))) (ifC ((defBody sSInit).getD 5 (.Pass ⟨0, 0, 0, 0⟩))) (!decide (spanE (ws.map toEl)).Nodup) (μ.set j (.obj CS sF (sObj C ws))) ∧
      ∀ o, DSs (cxOf (L2.CX P w) P w K mg base siN "Start.__init__" (defScope sSInit) f cdv A0 outer s0 H E) N W [some (.l j), some (.p (.tup (ws.map (wdV C)))), some (.p (.lst (prodsD C ws))), none] (μ.set j (.obj CS sF (sObj C ws))) ((defBody sSInit).drop 5) o → DSs (cxOf (L2.CX P w) P w K mg base siN "Start.__init__" (defScope sSInit) f cdv A0 outer s0 H E) N W (starts siN [.l j, .p (vvD C v)]) μ (defBody sSInit) o := by
    rintro ws rfl hw
    obtain ⟨ws', e, h1, h4, hok, hps⟩ := words_is hv.2 hw
    cases toEl_inj e
    have eV : vvD C (.tp (ws.map toEl)) = .tup (ws.map (wdV C)) := by show D.tup ((ws.map toEl).map (elD C)) = _; rw [els_D]
    have lw : (ws.map (wdV C)).length = ws.length := List.length_map ..
    have pl : (prodsD C ws).length < 100000 := by
      have hlen : ∀ (l f : List Wd), (l.foldl twW f).length = f.length * 2 ^ l.length := by
        intro l
        induction l with
        | nil => intro f; simp
        | cons a l ih => intro f; rw [List.foldl_cons, ih, twW_len, List.length_cons, Nat.pow_succ, ← Nat.two_mul, Nat.mul_comm 2 f.length, Nat.mul_assoc, Nat.mul_comm 2 (2 ^ l.length)]
      unfold prodsD prodsF
      rw [List.length_map, hlen]
      have : 2 ^ ws.length ≤ 2 ^ 4 := Nat.pow_le_pow_right (by decide) h4
      show 1 * _ < _
      omega
    have d1 : DS (cxOf (L2.CX P w) P w K mg base siN "Start.__init__" (defScope sSInit) f cdv A0 outer s0 H E) N W (starts siN [.l j, .p (vvD C (.tp (ws.map toEl)))]) μ ((defBody sSInit).getD 1 (.Pass ⟨0, 0, 0, 0⟩)) (.nx [some (.l j), some (.p (.tup (ws.map (wdV C)))), some (.p (.lst (prodsD C ws))), none] μ) := by
      rw [eV]
      exact ds_set 2 (de_call g cp (da_cons (de_var 1) da_nil) ⟨ws.length, ws, h1, h4, rfl, hok, hps, rfl, rfl, rfl⟩) g.nd
    let δ2 : List (Option S) := [some (.l j), some (.p (.tup (ws.map (wdV C)))), some (.p (.lst (prodsD C ws))), none]
    have d2 : DS (cxOf (L2.CX P w) P w K mg base siN "Start.__init__" (defScope sSInit) f cdv A0 outer s0 H E) N W δ2 μ ((defBody sSInit).getD 2 (.Pass ⟨0, 0, 0, 0⟩)) (.nx δ2 (μ.set j (.obj CS ["words"] [.tup (ws.map (wdV C))]))) := ds_fldNew (de_var 1) (de_var 0) Ts.ci.cl Ts.nW hj
    have d3 : DS (cxOf (L2.CX P w) P w K mg base siN "Start.__init__" (defScope sSInit) f cdv A0 outer s0 H E) N W δ2 (μ.set j (.obj CS ["words"] [.tup (ws.map (wdV C))])) ((defBody sSInit).getD 3 (.Pass ⟨0, 0, 0, 0⟩)) (.nx δ2 (μ.set j (.obj CS ["words", "wires"] [.tup (ws.map (wdV C)), .int ((ws.length : Nat) : Int)]))) :=
      ds_to (ds_fldNew (de_of (d' := .int ((ws.length : Nat) : Int)) (de_callB (id := "len") (da_cons (de_var 1) da_nil) (c_lenT g) T.len (by decide +kernel)) (by rw [lw])) (de_var 0) Ts.ci.cl Ts.nN (hj2 _)) (by rw [List.set_set]; rfl)
    have d4 : DS (cxOf (L2.CX P w) P w K mg base siN "Start.__init__" (defScope sSInit) f cdv A0 outer s0 H E) N W δ2 (μ.set j (.obj CS ["words", "wires"] [.tup (ws.map (wdV C)), .int ((ws.length : Nat) : Int)])) ((defBody sSInit).getD 4 (.Pass ⟨0, 0, 0, 0⟩)) (.nx δ2 (μ.set j (.obj CS sF (sObj C ws)))) :=
      ds_to (ds_fldNew (de_dcT g [("word", 3)] fkD fvD (di_lst g (de_var 2)) (fun s H C cl fp => dg_name 3 g.nd) (fun d hd => by
        obtain ⟨x, hx, rfl⟩ := List.mem_map.mp hd
        exact ⟨_, rfl, fun s H C' cl fp N' hK g' => de_fld (de_var 3) g' T2.ci.cl T2.nL, fun s H C' cl fp N' hK g' => de_fld (de_var 3) g' T2.ci.cl T2.nS⟩) (ok := blkOk_by (by rfl)) (hds := sz' (by omega))) (de_var 0) Ts.ci.cl Ts.nS (hj2 _)) (by rw [List.set_set]; rfl)
    refine ⟨_, rfl, trivial, ?_, fun o h => dss_skip (dt_of tA (by rw [hw]; rfl)) (dss_cons d1 (cn (dss_cons d2 (cn (dss_cons d3 (cn (dss_cons d4 (cn h))))))))⟩
    refine dt_of (dt_cmp (de_callB (id := "len") (da_cons (de_fldM (de_var 0) g Ts.ci.cl Ts.nS (hj2 _)) da_nil) c_lenD T.len (by decide +kernel)) (de_callB (id := "len") (da_cons (de_var 2) da_nil) (c_lenL g) T.len (by decide +kernel)) o_lt) ?_
    rw [← signs_len C ws]
    exact decide_eq_decide.mpr (by omega)
  rcases hc with ⟨ws, rfl, hi, rfl, rfl⟩ | ⟨hi, rfl, rfl⟩ | ⟨ws, rfl, hw, hi, rfl, rfl⟩
  · have hi' : (wordsB (ws.map toEl) && decide (spanE (ws.map toEl)).Nodup) = true := hi
    rw [Bool.and_eq_true] at hi'
    obtain ⟨_, _, _, t5, hb⟩ := body ws rfl hi'.1
    exact ⟨_, hb _ (dss_skip (dt_of t5 (by rw [hi'.2]; rfl)) dss_nil), .nx⟩
  · exact ⟨_, dss_ifT (dt_of tA (by rw [hi]; rfl)) (dss_cons (ds_raise g ce (de_var 1)) cx) cx, .xx⟩
  · have hi' : (wordsB (ws.map toEl) && decide (spanE (ws.map toEl)).Nodup) = false := hi
    rw [show wordsB (ws.map toEl) = true from hw, Bool.true_and] at hi'
    obtain ⟨_, _, _, t5, hb⟩ := body ws rfl hw
    have eV : vvD C (.tp (ws.map toEl)) = .tup (ws.map (wdV C)) := by show D.tup ((ws.map toEl).map (elD C)) = _; rw [els_D]
    rw [eV]
    rw [eV] at hb
    exact ⟨_, hb _ (dss_ifT (dt_of t5 (by rw [hi']; rfl)) (dss_cons (ds_raise g ce (de_var 1)) cx) cx), .xx⟩
end
theorem scHeard : FnScope ["call", "caught", "back", "error"] ["call"] (defScope sHeard) := ⟨rfl, rfl, rfl, by decide +kernel, rfl, by decide +kernel, by decide +kernel⟩
theorem scOdd : FnScope ["pot", "some"] ["pot"] (defScope sOdd) := ⟨rfl, rfl, rfl, by decide +kernel, rfl, by decide +kernel, by decide +kernel⟩
def qJ : Str := "_law_right" ++ ".<locals>." ++ "<lambda>"
def odds1 : List D := [.non, .bl true, .bl false, .int 0, .int 1, .int (-1), .int 7, .int 100000000, .str "", .str "X", .str "k", .str "h 0", .tup [], .lst [], .dic [] [], .tup [.int 0], .tup [.tup []], .lst [.int 0], .tup [.int 0, .int 1]]
def odds2 : List D := [.tup [.str "same"], .tup [.str "k"], .str "XX", .str "-", .str "wires 1", .tup [.tup [.str "k", .int 1, .int 0]], .tup [.non], .tup [.str "row"], .dic [.inr "k"] [.int 1], .str "turn"]
def oddsL : List D := odds1 ++ odds2
def oddF (p : Pot) : D := oddsL.getD (tk p 29) .non
def rOdd : Rel := fun ss μ r μ' => ∃ (j : Nat) (p : Pot), p.ok 8990 ∧ μ[j]? = some p.m ∧ ss = [.l j] ∧ r = .v (.p (oddF p)) ∧ μ' = μ.set j (tkP p 29).m
/-! ### the values that are judged -/
def goodE : El → Prop
  | .wd L s => okL L ∧ pm s
  | .ot d => okB 3 d = true
inductive Gv (C : Addr) : Vv → Prop
  | tp {es : List El} : es.length ≤ 60 → (∀ e ∈ es, goodE e) → Gv C (.tp es)
  | wds {ws : List Wd} : (∀ x ∈ ws, okL x.2 ∧ pm x.1) → Gv C (.ot (.lst (ws.map fun x => wd C x.2 x.1)))
  | any {d : D} : okB 4 d = true → (∀ ds, d ≠ .tup ds) → Gv C (.ot d)
  | wd {L : List Nat} {s : Int} : okL L → pm s → Gv C (.ot (wd C L s))
structure KJ (K : PySem.W.Frag) (C : Addr) : Prop where
  wnon : PySem.W.kitOne K (.type "NoneType") (.ref C) = some false
  wbl : PySem.W.kitOne K (.type "bool") (.ref C) = some false
  wint : PySem.W.kitOne K (.type "int") (.ref C) = some false
  wstr : PySem.W.kitOne K (.type "str") (.ref C) = some false
  wtup : PySem.W.kitOne K (.type "tuple") (.ref C) = some false
  wlst : PySem.W.kitOne K (.type "list") (.ref C) = some false
  wdic : PySem.W.kitOne K (.type "dict") (.ref C) = some false
  tnon : PySem.W.kitOne K (.type "NoneType") (.type "tuple") = some false
  tbl : PySem.W.kitOne K (.type "bool") (.type "tuple") = some false
  tint : PySem.W.kitOne K (.type "int") (.type "tuple") = some false
  tstr : PySem.W.kitOne K (.type "str") (.type "tuple") = some false
  tlst : PySem.W.kitOne K (.type "list") (.type "tuple") = some false
  tdic : PySem.W.kitOne K (.type "dict") (.type "tuple") = some false
  twd : PySem.W.kitOne K (.ref C) (.type "tuple") = some false
theorem KJ.wd {K : PySem.W.Frag} {C : Addr} (k : KJ K C) {n : Nat} {d : D} (h : okB n d = true) : ∃ t, TyI K d t ∧ PySem.W.kitOne K t (.ref C) = some false := by
  cases d with
  | non => exact ⟨_, .non, k.wnon⟩
  | bl b => exact ⟨_, .bl b, k.wbl⟩
  | int b => exact ⟨_, .int b, k.wint⟩
  | str b => exact ⟨_, .str b, k.wstr⟩
  | tup b => exact ⟨_, .tup b, k.wtup⟩
  | lst b => exact ⟨_, .lst b, k.wlst⟩
  | dic a b => exact ⟨_, .dic a b, k.wdic⟩
  | _ => cases n <;> cases h
theorem KJ.tp {K : PySem.W.Frag} {C : Addr} (k : KJ K C) {n : Nat} {d : D} (h : okB n d = true) (hn : ∀ ds, d ≠ .tup ds) : ∃ t, TyI K d t ∧ PySem.W.kitOne K t (.type "tuple") = some false := by
  cases d with
  | non => exact ⟨_, .non, k.tnon⟩
  | bl b => exact ⟨_, .bl b, k.tbl⟩
  | int b => exact ⟨_, .int b, k.tint⟩
  | str b => exact ⟨_, .str b, k.tstr⟩
  | tup b => exact absurd rfl (hn b)
  | lst b => exact ⟨_, .lst b, k.tlst⟩
  | dic a b => exact ⟨_, .dic a b, k.tdic⟩
  | _ => cases n <;> cases h
theorem KJ.ok {K : PySem.W.Frag} {C : Addr} (k : KJ K C) (ci : ClsI K C) {v : Vv} (h : Gv C v) : okV K C v := by
  cases h with
  | tp hl he =>
    refine ⟨hl, fun e hm => ?_⟩
    have := he e hm
    cases e with
    | wd L s => exact this
    | ot d => exact k.wd this
  | wds h => exact ⟨_, .lst _, k.tlst⟩
  | any h hn => exact k.tp h hn
  | wd hL hs => exact ⟨_, .ins _ _ _ ci, k.twd⟩
section
variable {P : Program} {w : World} {K : PySem.W.Frag} {mg : Str → Option Value} {base : Heap} {f C CK CT CB : Addr} {fd : FuncData}
theorem ok_heard {j : Nat} (F : Fun K "_law_heard" "_law_heard" sHeard f fd) (hme : mg "KnobError" = some (.ref CK)) : FnL P w K mg base false (j + 1) j f fd ["call"] (rHear K CK) := by
  obtain ⟨oc, od, kV, doc, pm, an, cdv, ct, osl, rfl, lk, hcd⟩ := F.ex
  refine ⟨fun L ss μ r μ' h => by obtain ⟨rfl, _⟩ := h; rfl, fun L A outer s H args us vs Q E fl F0 A0 ss μ r μ' _ hr e0 hb hv hR rc rv c0 hq => ?_⟩
  obtain ⟨rfl, r0, res, hL, hh, rfl⟩ := hR
  cases rv
  cases hv
  have nd := scHeard.nd
  have run : codeAny (model P w) A (.call (.ref f) args) (CR C8.CX0 outer P w H s Q C8.E0) s := by
    refine LamX.run_ofS (us := [.ref fl]) (vs := [.ref fl]) (N := ["call", "caught", "back", "error"]) (ps := ["call"]) lk hcd scHeard hr e0 hb (.cons rfl .nil) rfl fun hr1 => ?_
    have c1 := c0 μ r0 μ' hL
    let Z : Cx := cxOf C8.CX0 P w K mg base ["call", "caught", "back", "error"] "_law_heard" (defScope sHeard) f cdv A outer s H C8.E0
    have act : ∀ (W : WX) (pn : List (Addr × Obj)) (xe : Value → Shared → Prop) (p1 p2 : Pos), Takes (Z.tr pn xe) W → PE (Z.tr pn xe) (.Call (.Name "call" p1) [] [] p2) (fun σZ HZ Q => σZ[0]? = some (some (.ref fl)) ∧ tlD K F0 A0 μ r0 μ' (WE W σZ) HZ Q) :=
      fun W pn xe p1 p2 tk => pe_callV (Z := Z.tr pn xe) (i := 0) (j := j) tk c1 rfl hr1 rfl (.inl rfl)
    refine ⟨_, PSs.nox (pss_cons (ps_asg (pe_tup (pa_cons pe_non (pa_cons pe_non pa_nil))) (pg_tup rfl (pgs_cons (pg_name (i := 1) nd rfl (.inl rfl)) (pgs_cons (pg_name (i := 2) nd rfl (.inl rfl)) pgs_nil))))
      (pss_cons (ps_keep (X := Z.nox) (i := 3) (c := .ref CK)
        (tb := fun W D σ H => σ[0]? = some (some (.ref fl)) ∧ tlD K F0 A0 μ r0 μ' (WE W σ) H fun v H' => D.nx (σ.set 2 (some v)) H') rfl rfl nd rfl rfl ⟨rfl, by decide, .inl hme⟩
        (fun W pn xe tk po => ?_) (fun a cls d pn => pss_one (ps_set (i := 1) nd rfl (.inl rfl) (pv 3))))
      (pss_one (ps_ret (pe_tup (pa_cons (pv 1) (pa_cons (pv 2) pa_nil))))))), ?_⟩
    · refine ⟨fun pins s' σ H' D I ⟨h1, h2⟩ => ?_⟩
      exact (pss_one (ps_set (i := 2) nd rfl (.inl rfl) (act W pn xe _ _ tk))).run pins s' σ H' D I ⟨h1, h2⟩
    · refine ⟨by show 2 ≤ sizeLine; exact size4 (by omega), fun t nt => ⟨t, [.non, .non], rfl, .inl (.inl upd_same), rfl, .non, [.non], rfl, .non, [], rfl, rfl, rfl, ?_⟩⟩
      refine tlD_mono _ _ _ _ _ ?_ ?_ (hear_end rc nt hh hq)
      · intro cls d H' h0
        obtain ⟨h1, h2⟩ := h0
        refine ⟨h1, fun a na => ⟨.ref a, rfl, .ref a, rfl, .non, rfl, ?_, fun p np => h2 a na p np⟩⟩
        show 2 ≤ sizeLine
        exact size4 (by omega)
      · intro v H' h1
        refine ⟨.non, rfl, v, rfl, ?_, fun p np => h1 p np⟩
        show 2 ≤ sizeLine
        exact size4 (by omega)
  refine codeAny_mono run fun r s2 hq2 => ?_
  cases r with
  | error e => exact (show False from hq2).elim
  | ok fl2 =>
    cases fl2 with
    | ret u => exact hq2
    | next => exact hq2.elim
    | brk => exact hq2.elim
    | cont => exact hq2.elim
theorem ok_odd (F : Fun K "_law_odd" "_law_odd" sOdd f fd) (co : Cf P w K mg base 2 "_law_of" [] rOf) : FnOk P w K mg base (L2.CX P w) 3 f fd ["pot"] (spD K rOdd) := by
  refine fn_D (k := 2) F scOdd (fun ss μ r μ' h => by obtain ⟨j, p, _, _, rfl, _⟩ := h; rfl) ?_
  intro cdv A0 outer s0 H E N W ss μ r μ' g hA hR
  obtain ⟨j, p, hp, hj, rfl, rfl, rfl⟩ := hR
  exact ⟨_, dss_cons (ds_set 1 (de_lst (ds := odds1) (dp_cons de_non (dp_cons de_bl (dp_cons de_bl (dp_cons de_int (dp_cons de_int (dp_cons (de_of (de_un de_int u_neg) (by rfl)) (dp_cons de_int (dp_cons (de_of (de_bin de_int de_int (o_pow (by decide +kernel))) (by rfl)) (dp_cons de_str (dp_cons de_str (dp_cons de_str (dp_cons de_str (dp_cons (de_tup dp_nil) (dp_cons (de_lst dp_nil) (dp_cons de_dic0 (dp_cons (de_tup (dp_cons de_int dp_nil)) (dp_cons (de_tup (dp_cons (de_tup dp_nil) dp_nil)) (dp_cons (de_lst (dp_cons de_int dp_nil)) (dp_cons (de_tup (dp_cons de_int (dp_cons de_int dp_nil))) dp_nil)))))))))))))))))))) g.nd) (cn
    (dss_cons (ds_set 1 (de_bin (de_var 1) (de_lst (ds := odds2) (dp_cons (de_tup (dp_cons de_str dp_nil)) (dp_cons (de_tup (dp_cons de_str dp_nil)) (dp_cons de_str (dp_cons de_str (dp_cons de_str (dp_cons (de_tup (dp_cons (de_tup (dp_cons de_str (dp_cons de_int (dp_cons de_int dp_nil)))) dp_nil)) (dp_cons (de_tup (dp_cons de_non dp_nil)) (dp_cons (de_tup (dp_cons de_str dp_nil)) (dp_cons de_dic1 (dp_cons de_str dp_nil))))))))))) (o_catL (by show 29 ≤ sizeLine; exact size4 (by omega)))) g.nd) (cn
    (dss_ret (de_call (r := .v (.p (oddF p))) g co (da_cons (de_var 0) (da_cons (de_var 1) da_nil)) ⟨j, p, hp.mono (by omega), hj, .inl ⟨D, id, .non, oddsL, by decide, by decide, by rw [List.map_id]; rfl, rfl, rfl⟩⟩))))), .rt⟩
end
/-! ### values that are asked for -/
def kdB : D → Bool
  | .non => true
  | .bl _ => true
  | .int _ => true
  | .str _ => true
  | .tup _ => true
  | .lst _ => true
  | .dic _ _ => true
  | _ => false
theorem KJ.kd {K : PySem.W.Frag} {C : Addr} (k : KJ K C) {d : D} (h : kdB d = true) : ∃ t, TyI K d t ∧ PySem.W.kitOne K t (.ref C) = some false := by
  cases d with
  | non => exact ⟨_, .non, k.wnon⟩
  | bl b => exact ⟨_, .bl b, k.wbl⟩
  | int b => exact ⟨_, .int b, k.wint⟩
  | str b => exact ⟨_, .str b, k.wstr⟩
  | tup b => exact ⟨_, .tup b, k.wtup⟩
  | lst b => exact ⟨_, .lst b, k.wlst⟩
  | dic a b => exact ⟨_, .dic a b, k.wdic⟩
  | _ => cases h
def nfK (K : PySem.W.Frag) (CT : Addr) (t : Value) : Prop := PySem.W.kitOne K t (.ref CT) = some false ∧ PySem.W.notFirst K CT t = true
structure KXt (K : PySem.W.Frag) (C CT : Addr) : Prop where
  non : nfK K CT (.type "NoneType")
  bl : nfK K CT (.type "bool")
  int : nfK K CT (.type "int")
  str : nfK K CT (.type "str")
  tup : nfK K CT (.type "tuple")
  lst : nfK K CT (.type "list")
  dic : nfK K CT (.type "dict")
  wd : nfK K CT (.ref C)
theorem KXt.kd {K : PySem.W.Frag} {C CT : Addr} (k : KXt K C CT) {d : D} (h : kdB d = true) : ∃ t, TyI K d t ∧ TyD K d t ∧ nfK K CT t := by
  cases d with
  | non => exact ⟨_, .non, .non, k.non⟩
  | bl b => exact ⟨_, .bl b, .bl b, k.bl⟩
  | int b => exact ⟨_, .int b, .int b, k.int⟩
  | str b => exact ⟨_, .str b, .str b, k.str⟩
  | tup b => exact ⟨_, .tup b, .tup b, k.tup⟩
  | lst b => exact ⟨_, .lst b, .lst b, k.lst⟩
  | dic a b => exact ⟨_, .dic a b, .dic a b, k.dic⟩
  | _ => cases h
theorem odd_kd : ∀ d ∈ oddsL, kdB d = true := by
  have : (oddsL.all kdB) = true := by decide +kernel
  exact fun d hd => List.all_eq_true.mp this d hd
theorem odd_ne : ∀ d ∈ oddsL, neB d = true := by
  have : (oddsL.all neB) = true := by decide +kernel
  exact fun d hd => List.all_eq_true.mp this d hd
theorem oddF_in (p : Pot) : oddF p ∈ oddsL := getD_in (q := fun d => d ∈ oddsL) (l := oddsL) (d := .non) (fun x hx => hx) (tk_lt (p := p) (u := 29) (by decide))
/-! words of the law, as data, compared -/
def wPy (x : Wd) : PyData := .tuple [.int x.1, .str (Dl.st x.2)]
theorem wd_py (x : Wd) : PyD (wD x) (wPy x) := .tup (.cons (.int _) (.cons (.str _) .nil))
theorem wds_py : ∀ l : List Wd, PyDs (l.map wD) (l.map wPy)
  | [] => .nil
  | a :: x => .cons (wd_py a) (wds_py x)
theorem wd_eqv (x y : Wd) : PyData.eqv (wPy x) (wPy y) = decide (x = y) := by
  obtain ⟨i, x⟩ := x
  obtain ⟨j, y⟩ := y
  unfold wPy
  have e : (Dl.st x == Dl.st y) = decide (x = y) := by
    by_cases h : x = y
    · subst h; simp
    · have : Dl.st x ≠ Dl.st y := fun z => h (st_inj.mp z)
      simp [h, this]
  simp only [PyData.eqv, PyData.eqvAll, e]
  by_cases h : i = j <;> by_cases h2 : x = y <;> simp [h, h2]
theorem wds_eqv : ∀ l m : List Wd, PyData.eqvAll (l.map wPy) (m.map wPy) = decide (l = m)
  | [], [] => rfl
  | [], _ :: _ => rfl
  | _ :: _, [] => rfl
  | a :: x, b :: y => by
    rw [List.map_cons, List.map_cons, PyData.eqvAll, wds_eqv x y, wd_eqv]
    by_cases h : a = b <;> by_cases h2 : x = y <;> simp [h, h2]
theorem wds_lay : ∀ {l : List Wd}, (∀ x ∈ l, okL x.2) → PyData.canLayAll0 (l.map wPy) = true ∧ PyData.depthAll (l.map wPy) ≤ 1
  | [], _ => ⟨rfl, Nat.zero_le _⟩
  | a :: x, h => by
    obtain ⟨h1, h2⟩ := wds_lay (l := x) fun y hy => h y (List.mem_cons_of_mem _ hy)
    have h3 : (PyData.str (Dl.st a.2)).canLay0 = true := by
      simp only [PyData.canLay0]
      show (a.2.toArray).all (· < 0x110000) = true
      rw [List.all_toArray]
      exact List.all_eq_true.mpr fun c hc => decide_eq_true (by have := IXYZ_lt ((h a List.mem_cons_self).all c hc); omega)
    have h5 : (wPy a).canLay0 = true := by simp only [wPy, PyData.canLay0, PyData.canLayAll0]; simp only [PyData.canLay0] at h3; simp [h3]
    have h6 : (wPy a).depth ≤ 1 := by simp only [wPy, PyData.depth, PyData.depthAll]; omega
    rw [List.map_cons, PyData.canLayAll0, PyData.depthAll, h1, h5]
    exact ⟨rfl, by omega⟩
theorem wds_shaped {l : List Wd} (h : ∀ x ∈ l, okL x.2) : SeqAt.shaped (.list (l.map wPy)) = true := by
  obtain ⟨h1, h2⟩ := wds_lay h
  unfold SeqAt.shaped
  simp only [PyData.canLay0, PyData.depth, h1, Bool.true_and]
  exact decide_eq_true (by omega)
section
variable {X : Cx} {N : En} {W : WX} {n : Nat} {μ : List M}
theorem o_eqLW (g : Go X N W n) {l m : List Wd} (h1 : ∀ x ∈ l, okL x.2) (h2 : ∀ x ∈ m, okL x.2) : OpOk X N W (compareOp .Eq) μ (.p (.lst (l.map wD))) (.p (.lst (m.map wD))) (.v (.p (.bl (decide (l = m))))) μ :=
  o_eqD g (.lst (wds_py l)) (.lst (wds_py m)) (wds_shaped h1) (wds_shaped h2) (by rw [PyData.eqv, wds_eqv])
theorem c_reprI {i : Int} (hi : i.natAbs.log2 < 1920) : CallOk X N W (.builtin "repr") μ [.p (.int i)] (.v (.p (.str (toString i)))) μ :=
  ⟨_, SkE.call_repr_int, fun σ δ F A H vs Q R rv k => by
    cases rv with
    | cons r1 rv =>
      cases rv
      cases rs_int r1
      exact ⟨i, rfl, hi, k.here R (.str _)⟩⟩
end
end K62
set_option Elab.async false
set_option linter.all false
set_option maxRecDepth 100000
set_option maxHeartbeats 4000000
set_option autoImplicit false
namespace Dl
open PySem PySem.Spec PyProof.Rows L2
/-! ## enumerate(x), x a text -/
end Dl
set_option Elab.async false
set_option linter.all false
set_option maxRecDepth 100000
set_option maxHeartbeats 4000000
set_option autoImplicit false
namespace K62
open PySem PySem.Spec PyProof.Rows L2 Dl Cq
def bodyOf2 (s : Stmt) (i j : Nat) : List Stmt := match (bodyOf s i).getD j (.Pass ⟨0, 0, 0, 0⟩) with
  | .For _ _ b _ _ => b
  | _ => []
abbrev alN : List Str := ["wires", "found", "lap", "longer", "letters", "sign"]
theorem scAllLetters : FnScope alN ["wires"] (defScope sAllLetters) := ⟨rfl, rfl, rfl, by decide +kernel, rfl, by decide +kernel, by decide +kernel⟩
abbrev sD (L : List Nat) : D := .str (Dl.st L)
def rNeedX (K : PySem.W.Frag) (C CW CO : Addr) : Rel := fun ss μ r μ' => ∃ (e : El) (n : Nat), okEl K C e ∧ n ≤ 4 ∧ ss = [.p (elD C e), .p (.int (n : Nat))] ∧ μ' = μ ∧
  ((∃ L s, e = .wd L s ∧ L.length = n ∧ r = .v (.p .non)) ∨ (∃ L s, e = .wd L s ∧ L.length ≠ n ∧ r = .x CO (elD C e)) ∨ (∃ d, e = .ot d ∧ r = .x CW (elD C e)))
def allL : Nat → List (List Nat)
  | 0 => [[]]
  | k + 1 => (allL k).flatMap fun L => IXYZ.map fun c => L ++ [c]
theorem allL_len : ∀ k ≤ 4, (allL k).length ≤ 256 := by decide +kernel
theorem allL_is : ∀ (k : Nat) (L : List Nat), L ∈ allL k → L.length = k ∧ ∀ c ∈ L, c ∈ IXYZ
  | 0, L, h => by
    rw [show L = [] from List.mem_singleton.mp h]
    exact ⟨rfl, fun c hc => by cases hc⟩
  | k + 1, L, h => by
    obtain ⟨M, hM, h2⟩ := List.mem_flatMap.mp h
    obtain ⟨c, hc, rfl⟩ := List.mem_map.mp h2
    obtain ⟨l1, l2⟩ := allL_is k M hM
    refine ⟨by rw [List.length_append, l1]; rfl, fun x hx => ?_⟩
    rcases List.mem_append.mp hx with hx | hx
    · exact l2 x hx
    · rw [List.mem_singleton.mp hx]; exact hc
def rAllLetters : Rel := fun ss μ r μ' => ∃ n : Nat, n ≤ 4 ∧ ss = [.p (.int (n : Nat))] ∧ r = .v (.p (.lst ((allL n).map sD))) ∧ μ' = μ
def wdQ : D → D → Bool
  | .ins _ _ (.str x :: .int s :: _), .ins _ _ (.str y :: .int t :: _) => decide (x = y) && decide (s = t)
  | _, _ => false
theorem wdQ_is (C : Addr) (x y : Wd) : wdQ (wdV C x) (wdV C y) = decide (x = y) := by
  show (decide (Dl.st x.2 = Dl.st y.2) && decide (x.1 = y.1)) = _
  rw [Bool.eq_iff_iff]
  simp only [Bool.and_eq_true, decide_eq_true_eq, st_inj]
  exact ⟨fun h => Prod.ext h.2 h.1, fun h => by rw [h]; exact ⟨rfl, rfl⟩⟩
theorem eqL_wds (C : Addr) : ∀ ws ws' : List Wd, eqL wdQ (ws.map (wdV C)) (ws'.map (wdV C)) = decide (ws = ws')
  | [], [] => rfl
  | [], _ :: _ => rfl
  | _ :: _, [] => rfl
  | x :: ws, y :: ws' => by
    show (wdQ (wdV C x) (wdV C y) && eqL wdQ (ws.map (wdV C)) (ws'.map (wdV C))) = _
    rw [wdQ_is, eqL_wds C ws ws']
    rw [Bool.eq_iff_iff]
    simp
theorem wd_same {K : PySem.W.Frag} {F : Hp} {C : Addr} {x y : Wd} {v : V} (h1 : Rep K F v (wdV C x)) (h2 : Rep K F v (wdV C y)) : (decide (x.2 = y.2) && decide (x.1 = y.1)) = true := by
  obtain ⟨a, dx, fs, rfl, g1, g2, g3⟩ := rep_ins h1
  obtain ⟨b, dy, gs, e, k1, k2, k3⟩ := rep_ins h2
  cases e
  rw [g1] at k1
  cases k1
  have r1 : Reps K F (fs.map (·.2)) [.str (Dl.st x.2), .int x.1] := g3
  have r2 : Reps K F (fs.map (·.2)) [.str (Dl.st y.2), .int y.1] := k3
  generalize fs.map (·.2) = vs at r1 r2
  cases r1 with
  | cons p1 q1 =>
    cases q1 with
    | cons p2 q2 =>
      cases r2 with
      | cons p3 q3 =>
        cases q3 with
        | cons p4 q4 =>
          generalize hx : Dl.st x.2 = u1 at p1
          generalize hy : Dl.st y.2 = u2 at p3
          cases p1
          cases p3
          cases p2
          generalize hz : y.1 = z at p4
          cases p4
          have e1 : Dl.st x.2 = Dl.st y.2 := hx.trans hy.symm
          rw [decide_eq_true (st_inj.mp e1)]
          simp
section
variable {X : Cx} {N : En} {W : WX} {n : Nat} {μ : List M} {C : Addr}
theorem eb_wds (g : Go X N W n) (ce : Cm X.prog X.w X.K X.mg X.base 1 C "__eq__" [] (rEq C)) (x y : Wd) : EB X 1 (wdV C x) (wdV C y) (wdQ (wdV C x) (wdV C y)) := by
  have e : wdQ (wdV C x) (wdV C y) = (decide (x.2 = y.2) && decide (x.1 = y.1)) := by
    show (decide (Dl.st x.2 = Dl.st y.2) && decide (x.1 = y.1)) = _
    congr 1
    exact decide_eq_decide.mpr st_inj
  rw [e]
  exact eb_ins g ce ⟨x.2, y.2, x.1, y.1, rfl, rfl, rfl⟩ fun F v h1 h2 => wd_same h1 h2
theorem eb_lists (g : Go X N W n) (ce : Cm X.prog X.w X.K X.mg X.base 1 C "__eq__" [] (rEq C)) (ws ws' : List Wd) : ∀ (i : Nat) (a b : D), (ws.map (wdV C))[i]? = some a → (ws'.map (wdV C))[i]? = some b → EB X 1 a b (wdQ a b) := fun i a b h1 h2 => by
  rw [List.getElem?_map] at h1 h2
  obtain ⟨x, _, rfl⟩ := Option.map_eq_some_iff.mp h1
  obtain ⟨y, _, rfl⟩ := Option.map_eq_some_iff.mp h2
  exact eb_wds g ce x y
theorem o_wdsEq (g : Go X N W n) (ce : Cm X.prog X.w X.K X.mg X.base 1 C "__eq__" [] (rEq C)) {ws ws' : List Wd} (hn : 2 ≤ n := by decide) : OpOk X N W (compareOp .Eq) μ (.p (.tup (ws.map (wdV C)))) (.p (.tup (ws'.map (wdV C)))) (.v (.p (.bl (decide (ws = ws'))))) μ := by
  have h := o_tupEq (μ := μ) g (m := 1) (eb_lists g ce ws ws') hn
  rw [eqL_wds] at h
  exact h
theorem o_wdsNe (g : Go X N W n) (ce : Cm X.prog X.w X.K X.mg X.base 1 C "__eq__" [] (rEq C)) {ws ws' : List Wd} (hn : 2 ≤ n := by decide) : OpOk X N W (compareOp .NotEq) μ (.p (.tup (ws.map (wdV C)))) (.p (.tup (ws'.map (wdV C)))) (.v (.p (.bl (!decide (ws = ws'))))) μ := by
  have h := o_tupNe (μ := μ) g (m := 1) (eb_lists g ce ws ws') hn
  rw [eqL_wds] at h
  exact h
end
section
variable {P : Program} {w : World} {K : PySem.W.Frag} {mg : Str → Option Value} {base : Heap} {qa ta f C CT CW CO : Addr} {fd : FuncData}
theorem ok_needX (F : Fun K "need_word" "need_word" sNeed f fd) (T : TW w K mg qa ta) (T2 : TC K mg C) (eW : Ce P w K mg base 1 CW "BadWord") (eO : Ce P w K mg base 1 CO "OtherSize") : FnOk P w K mg base (L2.CX P w) 3 f fd ["value", "wires"] (spD K (rNeedX K C CW CO)) := by
  refine fn_D (k := 2) F scNeed (fun ss μ r μ' h => by obtain ⟨_, _, _, _, rfl, _⟩ := h; rfl) ?_
  intro cdv A0 outer s0 H E N W ss μ r μ' g hA hR
  obtain ⟨e, n, he, h4, rfl, rfl, (⟨L, s, rfl, hl, rfl⟩ | ⟨L, s, rfl, hl, rfl⟩ | ⟨d, rfl, rfl⟩)⟩ := hR
  · have h5 := he.1.four
    exact ⟨_, dss_skip (dt_not (dt_val (de_callB (id := "isinstance") (da_cons (de_var 0) (da_cons (de_glob (v := .ref C) T2.at_ rfl (fun _ _ => .adr _)) da_nil)) (c_isi g (.ins _ _ _ T2.ci) (.adr C) kit_same) T.isi (by decide +kernel)))) (dss_skip (dt_of (dt_cmp (de_callB (id := "len") (da_cons (de_fld (de_var 0) g T2.ci.cl T2.nL) da_nil) (c_lenS (by rw [st_len]; exact sz (by omega))) T.len (by decide +kernel)) (de_var 1) o_neI) (by rw [st_len, hl]; simp)) dss_nil), .nx⟩
  · have h5 := he.1.four
    exact ⟨_, dss_skip (dt_not (dt_val (de_callB (id := "isinstance") (da_cons (de_var 0) (da_cons (de_glob (v := .ref C) T2.at_ rfl (fun _ _ => .adr _)) da_nil)) (c_isi g (.ins _ _ _ T2.ci) (.adr C) kit_same) T.isi (by decide +kernel)))) (dss_ifT (dt_of (dt_cmp (de_callB (id := "len") (da_cons (de_fld (de_var 0) g T2.ci.cl T2.nL) da_nil) (c_lenS (by rw [st_len]; exact sz (by omega))) T.len (by decide +kernel)) (de_var 1) o_neI) (by rw [st_len, decide_eq_false (by omega)]; rfl)) (dss_cons (ds_raise g eO (de_var 0)) cx) cx), .xx⟩
  · obtain ⟨t, ht, hk⟩ := he
    exact ⟨_, dss_ifT (dt_of (dt_not (dt_val (de_callB (id := "isinstance") (da_cons (de_var 0) (da_cons (de_glob (v := .ref C) T2.at_ rfl (fun _ _ => .adr _)) da_nil)) (c_isi g ht (.adr C) hk) T.isi (by decide +kernel)))) rfl) (dss_cons (ds_raise g eW (de_var 0)) cx) cx, .xx⟩
theorem ok_allletters (F : Fun K "_law_all_letters" "_law_all_letters" sAllLetters f fd) (T : TM mg) : FnOk P w K mg base (L2.CX P w) 1 f fd ["wires"] (spD K rAllLetters) := by
  refine fn_D (k := 0) F scAllLetters (fun ss μ r μ' h => by obtain ⟨_, _, rfl, _⟩ := h; rfl) ?_
  intro cdv A0 outer s0 H E N W ss μ r μ' g hA hR
  obtain ⟨n, h4, rfl, rfl, rfl⟩ := hR
  have repl : ∀ k, (μ' ++ List.replicate k M.gone).length = μ'.length + k := fun k => by simp
  have four : ∀ (l t : List (List Nat)), (l.foldl (fun t L => t ++ IXYZ.map fun c => L ++ [c]) t).length = t.length + 4 * l.length := by
    intro l
    induction l with
    | nil => intro t; simp
    | cons a l ih =>
      intro t
      rw [List.foldl_cons, ih, List.length_append, List.length_map, List.length_cons]
      show t.length + 4 + _ = _
      omega
  obtain ⟨δ', hlo, ⟨x2, x3, x4, x5, rfl⟩, hI⟩ := loop_ix (X := (cxOf (L2.CX P w) P w K mg base alN "_law_all_letters" (defScope sAllLetters) f cdv A0 outer s0 H E)) (N := N) (W := W) (f := asName 2) (body := bodyOf sAllLetters 1) (T := Nat) (mu := fun k => μ' ++ List.replicate k M.gone) (nx := fun (_ : Nat) k => k + 1) (gd := inD)
    (fun i k => k = i) (fun k δ => ∃ x2 x3 x4 x5, δ = [some (.p (.int (n : Nat))), some (.p (.lst ((allL k).map sD))), x2, x3, x4, x5]) (List.range n) 0 [some (.p (.int (n : Nat))), some (.p (.lst ((allL 0).map sD))), none, none, none, none] 0
    (fun i a ha k δ hδ hI => by
      obtain ⟨x2, x3, x4, x5, rfl⟩ := hδ
      have hi := (List.getElem?_eq_some_iff.mp ha).1
      rw [List.length_range] at hi
      rw [Nat.zero_add] at hI ⊢
      subst hI
      have hl := allL_len k (by omega)
      refine ⟨rfl, ?_⟩
      have hle : (.l (μ'.length + k) : S) = .l (μ' ++ List.replicate k M.gone).length := by rw [repl]
      obtain ⟨δ2, hlo2, ⟨y4, y5, rfl⟩, _⟩ := loop_fo (X := (cxOf (L2.CX P w) P w K mg base alN "_law_all_letters" (defScope sAllLetters) f cdv A0 outer s0 H E)) (N := N) (W := W) (f := asName 4) (body := bodyOf2 sAllLetters 1 1) (T := List (List Nat)) (mu := fun t => (μ' ++ List.replicate k M.gone) ++ [.lst (t.map sD)]) (nx := fun L t => t ++ IXYZ.map fun c => L ++ [c]) (gd := sD)
        (fun m t => t.length + 4 * m ≤ 1024) (fun t δ => ∃ x4 x5, δ = [some (.p (.int (n : Nat))), some (.p (.lst ((allL k).map sD))), some (.p (inD a)), some (.l (μ'.length + k)), x4, x5]) (allL k) [some (.p (.int (n : Nat))), some (.p (.lst ((allL k).map sD))), some (.p (inD a)), some (.l (μ'.length + k)), x4, x5] []
        (fun L hL m t δ hδ hI => by
          obtain ⟨x4, x5, rfl⟩ := hδ
          have lL := (allL_is k L hL).1
          refine ⟨?_, _, _, rfl, dss_cons (ds_to (ds_expr (de_bm PySem.F.plainAttrs_list PySem.F.slot_list_extend PySem.F.type_list_extend (de_var 3) (da_cons (de_lc g [("sign", 5)] (di_of (di_str (de_of (d' := .str (Dl.st IXYZ)) de_str rfl)) (chars_st IXYZ)) (fun s H C cl fp => dg_name 5 g.nd) (of_maps (fy := fun c => sD (L ++ [c])) fun c hc => ⟨_, rfl, fun s H C' cl fp N' hK g' => de_of (d' := sD (L ++ [c])) (de_bin (de_var 4) (de_var 5) (o_addS (by rw [st_len]; exact sz (by show L.length + 1 ≤ _; omega)))) (congrArg D.str (st_app L [c]))⟩) (ok := blkOk_by (by rfl)) (hds := sz' (by show 4 ≤ _; decide))) da_nil) (m_extend (end_at (repl k)) (end_at (repl k)) (by rw [List.length_map, List.length_map]; exact sz (by show t.length + 4 ≤ _; omega))))) ?_) (cn dss_nil), _, _, rfl⟩
          · rw [List.length_append, List.length_map]
            show t.length + 4 + _ ≤ _
            omega
          · rw [end_set (repl k)]
            show _ = (μ' ++ List.replicate k M.gone) ++ [M.lst ((t ++ IXYZ.map fun c => L ++ [c]).map sD)]
            rw [List.map_append, List.map_map]
            rfl) ⟨_, _, rfl⟩ (by show 0 + _ ≤ _; omega)
      rw [flat_fold (fun L : List Nat => IXYZ.map fun c => L ++ [c]), List.nil_append] at hlo2
      have e3 : ((μ' ++ List.replicate k M.gone) ++ [M.lst ((allL (k + 1)).map sD)]).set (μ'.length + k) .gone = μ' ++ List.replicate (k + 1) M.gone := by
        rw [end_set (repl k), List.append_assoc, List.replicate_succ']
      have dL : DS (cxOf (L2.CX P w) P w K mg base alN "_law_all_letters" (defScope sAllLetters) f cdv A0 outer s0 H E) N W [some (.p (.int (n : Nat))), some (.p (.lst ((allL k).map sD))), some (.p (inD a)), x3, x4, x5] (μ' ++ List.replicate k M.gone) ((bodyOf sAllLetters 1).getD 0 (.Pass ⟨0, 0, 0, 0⟩)) (.nx [some (.p (.int (n : Nat))), some (.p (.lst ((allL k).map sD))), some (.p (inD a)), some (.l (μ'.length + k)), x4, x5] ((μ' ++ List.replicate k M.gone) ++ [.lst (([] : List (List Nat)).map sD)])) := by
        rw [hle]
        exact ds_set 3 (de_lstM dp_nil) g.nd
      refine ⟨_, _, rfl, dss_cons dL (cn (dss_cons (ds_for g (di_lst g (de_var 1)) (dg_name 4 g.nd) hlo2) (cn (dss_cons (ds_set 1 (de_var 3) g.nd) (cn (dss_freeze (j := μ'.length + k) (ds := (allL (k + 1)).map sD) (end_at (repl k)) (by omega) 1 rfl (Eq.mp (congrArg (fun ν => DSs _ N W _ ν [] _) e3.symm) dss_nil))))))), _, _, _, _, rfl⟩) ⟨_, _, _, _, rfl⟩ rfl
  have hI : (List.range n).foldl (fun (k : Nat) (_ : Nat) => k + 1) 0 = n := by
    rw [hI, List.length_range, Nat.zero_add]
  rw [hI] at hlo
  refine ⟨_, dss_cons (ds_set 1 (de_lst (ds := (allL 0).map sD) (dp_cons (de_of (d' := sD []) de_str rfl) dp_nil) (sz (by show 1 ≤ _; decide))) g.nd) (cn (dss_cons (ds_for g (di_of (di_range1 (da_cons (de_var 0) da_nil) T.range (by omega)) (by rw [Int.toNat_natCast, rng_in])) (dg_name 2 g.nd) (by have := hlo; simp only [List.replicate_zero, List.append_nil] at this; exact this)) (cn (dss_ret (de_var 1))))), ?_⟩
  have e : (μ' ++ List.replicate n M.gone).take μ'.length = μ' := List.take_left ..
  conv => rhs; rw [← e]
  exact .rtT (Nat.le_refl _)
end
end K62
set_option Elab.async false
set_option linter.all false
set_option maxRecDepth 100000
set_option maxHeartbeats 4000000
set_option autoImplicit false
namespace K62
open PySem PySem.Spec PyProof.Rows L2 Dl Cq
/-! ### a Start is asked -/
def kvL (f : List Wd) : List (Key × D) := f.map fun x => (.inr (Dl.st x.2), .int x.1)
theorem kvF_eq (ws : List Wd) : kvF ws = kvL (prodsF ws.length ws) := rfl
def sVal (C CS : Addr) (ws : List Wd) : D := .ins CS sF [.tup (ws.map (wdV C)), .int ((ws.length : Nat) : Int), dD (kvF ws)]
theorem sVal_is {n : Nat} {ws : List Wd} (h : Ind n ws) (C CS : Addr) : D.ins CS sF (sObj C ws) = sVal C CS ws := by
  unfold sObj sVal signsD prodsD
  rw [signs_kv h]
  rfl
def signAt (ws : List Wd) (L : List Nat) : Int := (((prodsF ws.length ws).find? fun x => decide (x.2 = L)).map (·.1)).getD 0
theorem find_kv (f : List Wd) (L : List Nat) : (kvL f).find? (fun p => decide (p.1 = (.inr (Dl.st L) : Key))) = (f.find? fun x => decide (x.2 = L)).map fun x => (.inr (Dl.st x.2), .int x.1) := by
  unfold kvL
  rw [List.find?_map]
  congr 2
  funext x
  show decide ((Sum.inr (Dl.st x.2) : Key) = .inr (Dl.st L)) = decide (x.2 = L)
  exact decide_eq_decide.mpr ⟨fun h => st_inj.mp (Sum.inr.inj h), fun h => by rw [h]⟩
theorem val_sign (ws : List Wd) (L : List Nat) : (valP (kvF ws) (.inr (Dl.st L))).getD (.int 0) = .int (signAt ws L) := by
  unfold valP signAt
  rw [kvF_eq, find_kv]
  cases (prodsF ws.length ws).find? (fun x => decide (x.2 = L)) <;> rfl
theorem fold_okP {n : Nat} {ws : List Wd} (hw : ∀ x ∈ ws, okW n x) (hp : ∀ x ∈ ws, ∀ y ∈ ws, qs x.2 y.2 % 2 = 0) : ∀ (l f : List Wd), (∀ x ∈ l, x ∈ ws) → okPs n ws f → okPs n ws (l.foldl twW f)
  | [], f, _, h => h
  | a :: l, f, hl, h => fold_okP hw hp l (twW f a) (fun x hx => hl x (List.mem_cons_of_mem _ hx)) (h.step hw hp (hl a List.mem_cons_self))
theorem prods_ok {n : Nat} {ws : List Wd} (h : Ind n ws) (h1 : 1 ≤ n) (h4 : n ≤ 4) : ∀ x ∈ prodsF ws.length ws, okW n x := by
  have hw := ind_okW h
  have := (fold_okP hw h.ps ws _ (fun x hx => hx) (okPs_one h1 h4 hw)).ok
  unfold prodsF
  rw [h.len]
  exact this
theorem sign_pm {n : Nat} {ws : List Wd} (h : Ind n ws) (h1 : 1 ≤ n) (h4 : n ≤ 4) (L : List Nat) : signAt ws L = 0 ∨ pm (signAt ws L) := by
  unfold signAt
  cases e : (prodsF ws.length ws).find? fun x => decide (x.2 = L) with
  | none => exact .inl rfl
  | some x => exact .inr (prods_ok h h1 h4 x (List.mem_of_find?_eq_some e)).pm
def likeB (ws vs : List Wd) : Bool := eqDV (flatP (kvF ws)) (flatP (kvF vs))
theorem kv_flat (f : List Wd) : ∀ p ∈ kvL f, FlatD p.2 := fun p hp => by
  obtain ⟨x, _, rfl⟩ := List.mem_map.mp hp
  exact .int _
def rSignOf (K : PySem.W.Frag) (C CS CW CO : Addr) : Rel := fun ss μ r μ' => ∃ (n : Nat) (ws : List Wd) (e : El), Ind n ws ∧ 1 ≤ n ∧ n ≤ 4 ∧ okEl K C e ∧ ss = [.p (sVal C CS ws), .p (elD C e)] ∧ μ' = μ ∧
  ((∃ L s, e = .wd L s ∧ L.length = n ∧ r = .v (.p (.int (signAt ws L * s)))) ∨ (∃ L s, e = .wd L s ∧ L.length ≠ n ∧ r = .x CO (elD C e)) ∨ (∃ d, e = .ot d ∧ r = .x CW (elD C e)))
def rLike (K : PySem.W.Frag) (C CS : Addr) : Rel := fun ss μ r μ' => ∃ (ws : List Wd), μ' = μ ∧
  ((∃ vs : List Wd, ss = [.p (sVal C CS ws), .p (sVal C CS vs)] ∧ r = .v (.p (.bl (likeB ws vs)))) ∨ (∃ d t, TyI K d t ∧ PySem.W.kitOne K t (.ref CS) = some false ∧ ss = [.p (sVal C CS ws), .p d] ∧ r = .v (.p (.bl false))))
def rSEq (K : PySem.W.Frag) (C CS : Addr) : Rel := fun ss μ r μ' => ∃ (ws : List Wd), μ' = μ ∧
  ((∃ vs : List Wd, ss = [.p (sVal C CS ws), .p (sVal C CS vs)] ∧ r = .v (.p (.bl (decide (ws = vs))))) ∨ (∃ d t, TyI K d t ∧ PySem.W.kitOne K t (.ref CS) = some false ∧ ss = [.p (sVal C CS ws), .p d] ∧ r = .v (.p (.bl false))))
theorem scSEq : FnScope ["self", "other"] ["self", "other"] (defScope sSEq) := ⟨rfl, rfl, rfl, by decide +kernel, rfl, by decide +kernel, by decide +kernel⟩
theorem scSignOf : FnScope ["self", "word"] ["self", "word"] (defScope sSignOf) := ⟨rfl, rfl, rfl, by decide +kernel, rfl, by decide +kernel, by decide +kernel⟩
theorem scLike : FnScope ["self", "other"] ["self", "other"] (defScope sLike) := ⟨rfl, rfl, rfl, by decide +kernel, rfl, by decide +kernel, by decide +kernel⟩
section
variable {P : Program} {w : World} {K : PySem.W.Frag} {mg : Str → Option Value} {base : Heap} {f C CS CW CO : Addr} {fd : FuncData}
theorem ok_seq (F : Fun K "__eq__" "Start.__eq__" sSEq f fd) (T : TM mg) (Ts : TKs K mg CS) (ce : Cm P w K mg base 1 C "__eq__" [] (rEq C)) : FnOk P w K mg base (L2.CX P w) 3 f fd ["self", "other"] (spD K (rSEq K C CS)) := by
  refine fn_D (k := 2) F scSEq (fun ss μ r μ' h => by obtain ⟨_, _, (⟨_, rfl, _⟩ | ⟨_, _, _, _, rfl, _⟩)⟩ := h <;> rfl) ?_
  intro cdv A0 outer s0 H E N W ss μ r μ' g hA hR
  obtain ⟨ws, rfl, (⟨vs, rfl, rfl⟩ | ⟨d, t, ht, hk, rfl, rfl⟩)⟩ := hR
  · exact ⟨_, dss_ret (de_of (d' := .bl (decide (ws = vs))) (de_and (k := true) (k' := decide (ws = vs)) (de_callB (id := "isinstance") (da_cons (de_var 1) (da_cons (de_glob (v := .ref CS) Ts.at_ rfl (fun _ _ => .adr _)) da_nil)) (c_isi g (.ins _ _ _ Ts.ci) (.adr CS) kit_same) T.isinstance (by decide +kernel)) (fun _ => de_one (de_cmp (de_fld (de_var 0) g Ts.ci.cl Ts.nW) (de_fld (de_var 1) g Ts.ci.cl Ts.nW) (o_wdsEq g ce)))) rfl), .rt⟩
  · exact ⟨_, dss_ret (de_of (d' := .bl false) (de_and (k := false) (k' := true) (de_callB (id := "isinstance") (da_cons (de_var 1) (da_cons (de_glob (v := .ref CS) Ts.at_ rfl (fun _ _ => .adr _)) da_nil)) (c_isi g ht (.adr CS) hk) T.isinstance (by decide +kernel)) (fun h => by cases h)) rfl), .rt⟩
theorem ok_like (F : Fun K "like" "Start.like" sLike f fd) (T : TM mg) (Ts : TKs K mg CS) : FnOk P w K mg base (L2.CX P w) 1 f fd ["self", "other"] (spD K (rLike K C CS)) := by
  refine fn_D (k := 0) F scLike (fun ss μ r μ' h => by obtain ⟨_, _, (⟨_, rfl, _⟩ | ⟨_, _, _, _, rfl, _⟩)⟩ := h <;> rfl) ?_
  intro cdv A0 outer s0 H E N W ss μ r μ' g hA hR
  obtain ⟨ws, rfl, (⟨vs, rfl, rfl⟩ | ⟨d, t, ht, hk, rfl, rfl⟩)⟩ := hR
  · exact ⟨_, dss_ret (de_of (d' := .bl (likeB ws vs)) (de_and (k := true) (k' := likeB ws vs) (de_callB (id := "isinstance") (da_cons (de_var 1) (da_cons (de_glob (v := .ref CS) Ts.at_ rfl (fun _ _ => .adr _)) da_nil)) (c_isi g (.ins _ _ _ Ts.ci) (.adr CS) kit_same) T.isinstance (by decide +kernel)) (fun _ => de_one (de_cmp (de_fld (de_var 0) g Ts.ci.cl Ts.nS) (de_fld (de_var 1) g Ts.ci.cl Ts.nS) (o_eqDD g (kv_flat _) (kv_flat _))))) rfl), .rt⟩
  · exact ⟨_, dss_ret (de_of (d' := .bl false) (de_and (k := false) (k' := true) (de_callB (id := "isinstance") (da_cons (de_var 1) (da_cons (de_glob (v := .ref CS) Ts.at_ rfl (fun _ _ => .adr _)) da_nil)) (c_isi g ht (.adr CS) hk) T.isinstance (by decide +kernel)) (fun h => by cases h)) rfl), .rt⟩
theorem ok_signof (F : Fun K "sign_of" "Start.sign_of" sSignOf f fd) (T2 : TC K mg C) (Ts : TKs K mg CS) (cn_ : Cf P w K mg base 3 "need_word" [] (rNeedX K C CW CO)) : FnOk P w K mg base (L2.CX P w) 4 f fd ["self", "word"] (spD K (rSignOf K C CS CW CO)) := by
  refine fn_D (k := 3) F scSignOf (fun ss μ r μ' h => by obtain ⟨_, _, _, _, _, _, _, rfl, _⟩ := h; rfl) ?_
  intro cdv A0 outer s0 H E N W ss μ r μ' g hA hR
  obtain ⟨n, ws, e, hI, h1, h4, he, rfl, rfl, (⟨L, s, rfl, hl, rfl⟩ | ⟨L, s, rfl, hl, rfl⟩ | ⟨d, rfl, rfl⟩)⟩ := hR
  · refine ⟨_, dss_cons (ds_expr (de_call g cn_ (da_cons (de_var 1) (da_cons (de_of (d' := .int ((n : Nat) : Int)) (de_fld (de_var 0) g Ts.ci.cl Ts.nN) (by rw [hI.len])) da_nil)) ⟨.wd L s, n, he, h4, rfl, rfl, .inl ⟨L, s, rfl, hl, rfl⟩⟩)) (cn (dss_ret (de_bin (de_of (d' := .int (signAt ws L)) (de_dget2D (k := .inr (Dl.st L)) g (de_fld (de_var 0) g Ts.ci.cl Ts.nS) (de_fld (de_var 1) g T2.ci.cl T2.nL) de_int) (val_sign ws L)) (de_fld (de_var 1) g T2.ci.cl T2.nS) (o_mul (.inr ?_))))), .rt⟩
    rcases he.2 with h | h <;> rw [h] <;> decide
  · exact ⟨_, dss_cons (ds_exprX (de_call (r := .x CO (wd C L s)) g cn_ (da_cons (de_var 1) (da_cons (de_of (d' := .int ((n : Nat) : Int)) (de_fld (de_var 0) g Ts.ci.cl Ts.nN) (by rw [hI.len])) da_nil)) ⟨.wd L s, n, he, h4, rfl, rfl, .inr (.inl ⟨L, s, rfl, hl, rfl⟩)⟩)) cx, .xx⟩
  · exact ⟨_, dss_cons (ds_exprX (de_call (r := .x CW d) g cn_ (da_cons (de_var 1) (da_cons (de_of (d' := .int ((n : Nat) : Int)) (de_fld (de_var 0) g Ts.ci.cl Ts.nN) (by rw [hI.len])) da_nil)) ⟨.ot d, n, he, h4, rfl, rfl, .inr (.inr ⟨d, rfl, rfl⟩)⟩)) cx, .xx⟩
end
end K62
set_option Elab.async false
set_option linter.all false
set_option maxRecDepth 100000
set_option maxHeartbeats 4000000
set_option autoImplicit false
namespace K62
open PySem PySem.Spec PyProof.Rows L2 Dl Cq
/-! ### the law's dict of products -/
abbrev gpN : List Str := ["said", "found", "word", "letters", "sign", "others"]
theorem scGroup : FnScope gpN ["said"] (defScope sGroup) := ⟨rfl, rfl, rfl, by decide +kernel, rfl, by decide +kernel, by decide +kernel⟩
def rGroup : Rel := fun ss μ r μ' => ∃ (n : Nat) (ws : List Wd), Ind n ws ∧ 1 ≤ n ∧ n ≤ 4 ∧ ss = [.p (.lst (ws.map wD))] ∧ r = .v (.p (dD (kvF ws))) ∧ μ' = μ
def letD (x : Wd) : D := .str (Dl.st x.2)
theorem keys_kv (f : List Wd) : (kvL f).map (fun p => keyD p.1) = f.map letD := by
  unfold kvL
  rw [List.map_map]
  rfl
theorem val_in : ∀ {f : List Wd} {x : Wd}, (f.map (·.2)).Nodup → x ∈ f → valP (kvL f) (.inr (Dl.st x.2)) = some (.int x.1)
  | [], _, _, h => by cases h
  | y :: f, x, hn, hx => by
    rw [List.map_cons, List.nodup_cons] at hn
    rcases List.mem_cons.mp hx with rfl | hx
    · simp [valP, kvL]
    · have hne : y.2 ≠ x.2 := fun z => hn.1 (by rw [z]; exact List.mem_map_of_mem hx)
      have := val_in hn.2 hx
      unfold valP kvL at this ⊢
      rw [List.map_cons, List.find?_cons_of_neg]
      · exact this
      · simp only [decide_eq_true_eq]
        exact fun z => hne (st_inj.mp (Sum.inr.inj z))
theorem kv_new {f : List Wd} {x : Wd} (h : x.2 ∉ f.map (·.2)) : putP (kvL f) (.inr (Dl.st x.2)) (.int x.1) = kvL (f ++ [x]) := by
  rw [putP_new]
  · unfold kvL
    rw [List.map_append]
    rfl
  · intro z
    unfold kvL at z
    rw [List.map_map] at z
    obtain ⟨y, hy, e⟩ := List.mem_map.mp z
    exact h (List.mem_map.mpr ⟨y, hy, st_inj.mp (Sum.inr.inj e)⟩)
/-- what is so far, letters all different -/
theorem part_nd {f : List Wd} {w : Wd} {i : Nat} {x : Wd} (hx : f[i]? = some x) (hn : ((twW f w).map (·.2)).Nodup) : ((f ++ (f.take i).map fun a => mulW a w).map (·.2)).Nodup ∧ (mulW x w).2 ∉ (f ++ (f.take i).map fun a => mulW a w).map (·.2) := by
  have hi := (List.getElem?_eq_some_iff.mp hx).1
  have e : twW f w = (f ++ (f.take i).map fun a => mulW a w) ++ (mulW x w :: (f.drop (i + 1)).map fun a => mulW a w) := by
    unfold twW
    rw [List.append_assoc]
    congr 1
    have hd : f.drop i = x :: f.drop (i + 1) := by
      rw [List.drop_eq_getElem_cons hi]
      rw [List.getElem?_eq_getElem hi] at hx
      rw [Option.some.inj hx]
    show f.map (fun a => mulW a w) = (f.take i).map (fun a => mulW a w) ++ (x :: f.drop (i + 1)).map fun a => mulW a w
    rw [← hd, ← List.map_append, List.take_append_drop]
  rw [e, List.map_append, List.map_cons, List.nodup_append] at hn
  refine ⟨hn.1, fun z => hn.2.2 _ z _ List.mem_cons_self rfl⟩
theorem pre_nd {n : Nat} {ws : List Wd} (h : Ind n ws) {i : Nat} : (((ws.take i).foldl twW [(1, List.replicate n 73)]).map (·.2)).Nodup := by
  have hn := h.nd
  rw [prods_let]
  show (spanF [List.replicate n 73] _).Nodup
  refine Classical.byContradiction fun z => ?_
  have := span_bad (ws := (ws.drop i).map (·.2)) z
  refine this ?_
  unfold spanF
  rw [← List.foldl_append, ← List.map_append, List.take_append_drop]
  exact hn
theorem pre_len : ∀ (l f : List Wd), (l.foldl twW f).length = f.length * 2 ^ l.length := by
  intro l
  induction l with
  | nil => intro f; simp
  | cons a l ih => intro f; rw [List.foldl_cons, ih, twW_len, List.length_cons, Nat.pow_succ, ← Nat.two_mul, Nat.mul_comm 2 f.length, Nat.mul_assoc, Nat.mul_comm 2 (2 ^ l.length)]
section
variable {P : Program} {w : World} {K : PySem.W.Frag} {mg : Str → Option Value} {base : Heap} {f C CS CW CO : Addr} {fd : FuncData}
theorem ok_group (F : Fun K "_law_group" "_law_group" sGroup f fd) (T : TM mg) (cp : Cf P w K mg base 2 "_law_product" [] rProduct) : FnOk P w K mg base (L2.CX P w) 3 f fd ["said"] (spD K rGroup) := by
  refine fn_D (k := 2) F scGroup (fun ss μ r μ' h => by obtain ⟨_, _, _, _, _, rfl, _⟩ := h; rfl) ?_
  intro cdv A0 outer s0 H E N W ss μ r μ' g hA hR
  obtain ⟨n, ws, hI, h1, h4, rfl, rfl, rfl⟩ := hR
  have hw := ind_okW hI
  have lw : (ws.map wD).length = n := by rw [List.length_map]; exact hI.len
  have base1 := okPs_one (ws := ws) h1 h4 hw
  have rep : ∀ (μ : List M), OpOk (cxOf (L2.CX P w) P w K mg base gpN "_law_group" (defScope sGroup) f cdv A0 outer s0 H E) N W (binaryOp .Mult) μ (.p (.str ⟨#[73]⟩)) (.p (.int ((n : Nat) : Int))) (.v (.p (.str (Dl.st (List.replicate n 73))))) μ := fun μ => by
    by_cases h : n = 1
    · subst h
      exact o_mulS (k := true)
    · exact o_mulSk ⟨by omega, by omega⟩
  have d0 : DS (cxOf (L2.CX P w) P w K mg base gpN "_law_group" (defScope sGroup) f cdv A0 outer s0 H E) N W (starts gpN [.p (.lst (ws.map wD))]) μ' ((defBody sGroup).getD 0 (.Pass ⟨0, 0, 0, 0⟩)) (.nx [some (.p (.lst (ws.map wD))), some (.l μ'.length), none, none, none, none] (μ' ++ [dM (kvL [(1, List.replicate n 73)])])) :=
    ds_set 1 (de_dicM1 (k := .inr (Dl.st (List.replicate n 73))) (d := .int 1) (de_bin (de_of (d' := .str ⟨#[73]⟩) de_str rfl) (de_of (d' := .int ((n : Nat) : Int)) (de_callB (id := "len") (da_cons (de_var 0) da_nil) (c_lenL g) T.len (by decide +kernel)) (by rw [lw])) (rep _)) de_int) g.nd
  have hat : ∀ m : M, (μ' ++ [m])[μ'.length]? = some m := fun m => end_at rfl
  have hst : ∀ m m' : M, (μ' ++ [m]).set μ'.length m' = μ' ++ [m'] := fun m m' => end_set rfl
  obtain ⟨δ', hlo, ⟨x2, x3, x4, x5, rfl⟩, hEnd⟩ := loop_ix (X := (cxOf (L2.CX P w) P w K mg base gpN "_law_group" (defScope sGroup) f cdv A0 outer s0 H E)) (N := N) (W := W) (f := asName 2) (body := bodyOf sGroup 1) (T := List Wd) (mu := fun t => μ' ++ [dM (kvL t)]) (nx := fun a t => twW t a) (gd := wD)
    (fun i t => t = (ws.take i).foldl twW [(1, List.replicate n 73)]) (fun t δ => ∃ x2 x3 x4 x5, δ = [some (.p (.lst (ws.map wD))), some (.l μ'.length), x2, x3, x4, x5]) ws 0 [some (.p (.lst (ws.map wD))), some (.l μ'.length), none, none, none, none] [(1, List.replicate n 73)]
    (fun i a ha t δ hδ hT => by
      obtain ⟨x2, x3, x4, x5, rfl⟩ := hδ
      rw [Nat.zero_add] at hT ⊢
      have hi := (List.getElem?_eq_some_iff.mp ha).1
      have hin : i < n := by rw [← hI.len]; exact hi
      have am := List.mem_of_getElem? ha
      have oa := hw a am
      have et : (ws.take (i + 1)).foldl twW [(1, List.replicate n 73)] = twW t a := by
        rw [List.take_add_one, ha, List.foldl_append, ← hT]
        rfl
      have nd2 : ((twW t a).map (·.2)).Nodup := by rw [← et]; exact pre_nd hI
      have okt : okPs n ws t := by rw [hT]; exact fold_okP hw hI.ps _ _ (fun x hx => List.mem_of_mem_take hx) base1
      have lt : t.length ≤ 16 := by
        rw [hT, pre_len, List.length_take]
        have : 2 ^ min i ws.length ≤ 2 ^ 4 := Nat.pow_le_pow_right (by decide) (by omega)
        show 1 * _ ≤ 16
        omega
      obtain ⟨δ1, hlo1, ⟨y3, y4, y5, rfl⟩, hE1⟩ := loop_ix (X := (cxOf (L2.CX P w) P w K mg base gpN "_law_group" (defScope sGroup) f cdv A0 outer s0 H E)) (N := N) (W := W) (f := asName 3) (body := bodyOf2 sGroup 1 0) (T := List Wd) (mu := fun d => μ' ++ [dM (kvL d)]) (nx := fun x d => d ++ [mulW x a]) (gd := letD)
        (fun k d => d = t ++ (t.take k).map fun x => mulW x a) (fun d δ => ∃ y3 y4 y5, δ = [some (.p (.lst (ws.map wD))), some (.l μ'.length), some (.p (wD a)), y3, y4, y5]) t 0 [some (.p (.lst (ws.map wD))), some (.l μ'.length), some (.p (wD a)), x3, x4, x5] t
        (fun k x hx d δ hδ hD => by
          obtain ⟨y3, y4, y5, rfl⟩ := hδ
          rw [Nat.zero_add] at hD ⊢
          obtain ⟨q1, q2⟩ := part_nd hx nd2
          rw [← hD] at q1 q2
          have xm := List.mem_of_getElem? hx
          have ox := okt.ok x xm
          have xd : x ∈ d := by rw [hD]; exact List.mem_append_left _ xm
          have eb : x.1 * a.1 * sg (qs x.2 a.2 + 0) = (mulW x a).1 := by
            show _ = bes x.1 a.1 (qs x.2 a.2)
            rw [bes_eq, Int.add_zero]
          have ld : d.length ≤ 32 := by
            rw [hD, List.length_append, List.length_map, List.length_take]
            omega
          refine ⟨?_, _, _, rfl, dss_cons (ds_asg (de_of (d' := .tup [.int (mulW x a).1, letD (mulW x a)]) (de_call g cp (da_cons (s := .p (tupW x.2 x.1)) (de_tup (dp_cons (de_dgetM (k := .inr (Dl.st x.2)) g (de_var 1) (de_var 3) (hat _) (val_in q1 xd)) (dp_cons (de_var 3) dp_nil)) (sz (by show 2 ≤ _; decide))) (da_cons (s := .p (tupW a.2 a.1)) (de_var 2) (da_cons de_int da_nil))) ⟨x.2, a.2, x.1, a.1, 0, ox.ok, oa.ok, ox.len.trans oa.len.symm, ox.pm, oa.pm, rfl, rfl, rfl⟩) (by rw [← eb]; rfl)) (dg_tup (dgs_cons (dg_name 4 g.nd) (dgs_cons (dg_name 5 g.nd) dgs_nil)) g.hK g.calm) rfl) (cn
            (dss_cons (ds_to (ds_dput (k := .inr (Dl.st (mulW x a).2)) (d := .int (mulW x a).1) (kv := kvL d) g (de_var 4) (de_var 1) (de_var 5) (hat _) (by unfold kvL; rw [List.length_map]; exact sz' (by omega))) (by rw [hst, kv_new q2])) (cn dss_nil))), _, _, _, rfl⟩
          rw [hD, List.append_assoc, List.take_add_one, hx, List.map_append]
          rfl)
        ⟨_, _, _, rfl⟩ (by simp)
      have ed : t.foldl (fun d x => d ++ [mulW x a]) t = twW t a := by
        rw [hE1, Nat.zero_add, List.take_length]
        rfl
      rw [ed] at hlo1
      exact ⟨et.symm, _, _, rfl, dss_cons (ds_for g (di_of (di_lst g (de_callT (T := "list") (da_cons (de_var 1) da_nil) (c_listDM g (hat _)) T.list (by decide +kernel))) (keys_kv t)) (dg_name 3 g.nd) hlo1) (cn dss_nil), _, _, _, _, rfl⟩)
    ⟨_, _, _, _, rfl⟩ rfl
  have eE : ws.foldl (fun t a => twW t a) [(1, List.replicate n 73)] = prodsF ws.length ws := by unfold prodsF; rw [hI.len]
  rw [eE] at hlo
  have fin : DSs (cxOf (L2.CX P w) P w K mg base gpN "_law_group" (defScope sGroup) f cdv A0 outer s0 H E) N W [some (.p (.lst (ws.map wD))), some (.l μ'.length), x2, x3, x4, x5] (μ' ++ [dM (kvL (prodsF ws.length ws))]) ((defBody sGroup).drop 2) (.rt (.p (dD (kvF ws))) (μ' ++ [.gone])) :=
    dss_freezeD (hat _) (by omega) 1 rfl (Eq.mp (congrArg (fun ν => DSs _ N W _ ν _ _) (hst _ _).symm) (dss_ret (de_var 1)))
  refine ⟨_, dss_cons d0 (cn (dss_cons (ds_for g (di_lst g (de_var 0)) (dg_name 2 g.nd) hlo) (cn fin))), ?_⟩
  have e : (μ' ++ [M.gone]).take μ'.length = μ' := List.take_left ..
  conv => rhs; rw [← e]
  exact .rtT (Nat.le_refl _)
end
end K62
set_option Elab.async false
set_option linter.all false
set_option maxRecDepth 100000
set_option maxHeartbeats 4000000
set_option autoImplicit false
namespace K62
open PySem PySem.Spec PyProof.Rows L2 Dl Cq
/-! ### other words -/
abbrev owN : List Str := ["pot", "said", "some", "at", "far", "way"]
theorem scOtherWords : FnScope owN ["pot", "said"] (defScope sOtherWords) := ⟨rfl, rfl, rfl, by decide +kernel, rfl, by decide +kernel, by decide +kernel⟩
def owS (n : Nat) (p : Pot) : List Nat × Pot := someF 0 2 p (List.range n)
def owA (n : Nat) (p : Pot) : Nat := (owS n p).1.getD 0 0
def owB (n : Nat) (p : Pot) : Nat := (owS n p).1.getD 1 0
def ow1 (n : Nat) (p : Pot) (ws : List Wd) : List Wd := if 1 < n then ws.set (owA n p) (prodW (w1A ws (owA n p)) (w1A ws (owB n p))) else ws
def owP (n : Nat) (p : Pot) : Pot := if 1 < n then (owS n p).2 else p
def owL (n : Nat) (p : Pot) (ws : List Wd) : List Wd :=
  if tk (owP n p) 4 = 0 then (ow1 n p ws).reverse else if tk (owP n p) 4 = 1 then (ow1 n p ws).set 0 (-(w1A (ow1 n p ws) 0).1, (w1A (ow1 n p ws) 0).2) else if tk (owP n p) 4 = 2 then ws else ow1 n p ws
def owQ (n : Nat) (p : Pot) : Pot := tkP (owP n p) 4
theorem owS_is {n : Nat} {p : Pot} (h : 1 < n) : owA n p < n ∧ owB n p < n ∧ owA n p ≠ owB n p ∧ ∃ a b, (owS n p).1 = [a, b] ∧ a = owA n p ∧ b = owB n p := by
  obtain ⟨h1, h2, h3⟩ := someF_is (d := 0) (n := 2) (p := p) (l := List.range n) (by rw [List.length_range]; omega) List.nodup_range
  unfold owA owB owS
  match hq : (someF 0 2 p (List.range n)).1, h1, h2, h3 with
  | [a, b], _, h2, h3 =>
    refine ⟨List.mem_range.mp (h3 a (by simp)), List.mem_range.mp (h3 b (by simp)), fun z => ?_, a, b, rfl, rfl, rfl⟩
    have z : a = b := z
    rw [z] at h2
    simp at h2
theorem owP_ok {n m : Nat} {p : Pot} (h : p.ok m) : (owP n p).ok (m + 2) := by
  unfold owP
  split
  · exact someF_ok h
  · exact h.mono (by omega)
theorem owQ_ok {n m : Nat} {p : Pot} (h : p.ok m) : (owQ n p).ok (m + 3) := tkP_ok (owP_ok h)
section
variable {n : Nat} {ws : List Wd} {p : Pot}
theorem ind_ow1 (h : Ind n ws) (h1 : 1 ≤ n) (h4 : n ≤ 4) : Ind n (ow1 n p ws) := by
  unfold ow1
  split
  · rename_i hc
    obtain ⟨a, b, c, _⟩ := owS_is (p := p) hc
    exact ind_prod h h1 h4 a b c (okX_of (prodW_ok (okW_of (h.ok _ (w1A_in (by rw [h.len]; omega)))) (okW_of (h.ok _ (w1A_in (by rw [h.len]; omega)))))) rfl
  · exact h
theorem w1_set {ws : List Wd} {x : Wd} (e : x.2 = (w1A ws 0).2) (hl : 0 < ws.length) : (∀ y ∈ ws.set 0 x, ∃ z ∈ ws, z.2 = y.2) ∧ ∀ y ∈ ws, ∃ z ∈ ws.set 0 x, z.2 = y.2 := by
  cases ws with
  | nil => cases hl
  | cons a ws =>
    have e : x.2 = a.2 := e
    refine ⟨fun y hy => ?_, fun y hy => ?_⟩
    · rcases List.mem_cons.mp hy with rfl | hy
      · exact ⟨a, List.mem_cons_self, e.symm⟩
      · exact ⟨y, List.mem_cons_of_mem _ hy, rfl⟩
    · rcases List.mem_cons.mp hy with rfl | hy
      · exact ⟨x, List.mem_cons_self, e⟩
      · exact ⟨y, List.mem_cons_of_mem _ hy, rfl⟩
theorem ind_owL (h : Ind n ws) (h1 : 1 ≤ n) (h4 : n ≤ 4) : Ind n (owL n p ws) := by
  have h2 := ind_ow1 (p := p) h h1 h4
  unfold owL
  split
  · exact ind_sub h2 h1 h4 (fun x hx => h2.ok x (List.mem_reverse.mp hx)) (by rw [List.length_reverse]; exact h2.len) (fun x hx => ⟨x, List.mem_reverse.mp hx, rfl⟩) (fun x hx => ⟨x, List.mem_reverse.mpr hx, rfl⟩)
  split
  · have l0 : 0 < (ow1 n p ws).length := by rw [h2.len]; exact h1
    obtain ⟨a, b⟩ := w1_set (ws := ow1 n p ws) (x := (-(w1A (ow1 n p ws) 0).1, (w1A (ow1 n p ws) 0).2)) rfl l0
    refine ind_sub h2 h1 h4 (fun x hx => ?_) (by rw [List.length_set]; exact h2.len) a b
    rcases List.mem_or_eq_of_mem_set hx with hx | rfl
    · exact h2.ok x hx
    · have := h2.ok _ (w1A_in l0)
      refine ⟨this.ok, this.len, ?_⟩
      rcases this.pm with q | q
      · exact .inr (by rw [q])
      · exact .inl (by rw [q]; rfl)
  split
  · exact h
  · exact h2
end
def rOther : Rel := fun ss μ r μ' => ∃ (j : Nat) (p : Pot) (n : Nat) (ws : List Wd), p.ok 8000 ∧ Ind n ws ∧ 1 ≤ n ∧ n ≤ 4 ∧ ss = [.l j, .p (.lst (ws.map wD))] ∧ μ[j]? = some p.m ∧ r = .v (.p (.lst ((owL n p ws).map wD))) ∧ μ' = μ.set j (owQ n p).m
section
variable {P : Program} {w : World} {K : PySem.W.Frag} {mg : Str → Option Value} {base : Heap} {f : Addr} {fd : FuncData}
theorem ok_other (F : Fun K "_law_other_words" "_law_other_words" sOtherWords f fd) (T : TM mg) (ct : Cf P w K mg base 1 "_law_take" [] rTk) (cs : Cf P w K mg base 2 "_law_some" [] rSome) (cp : Cf P w K mg base 2 "_law_product" [] rProduct) : FnOk P w K mg base (L2.CX P w) 3 f fd ["pot", "said"] (spD K rOther) := by
  refine fn_D (k := 2) F scOtherWords (fun ss μ r μ' h => by obtain ⟨_, _, _, _, _, _, _, _, rfl, _⟩ := h; rfl) ?_
  intro cdv A0 outer s0 H E N W ss μ r μ' g hA hR
  obtain ⟨j, p, n, ws, hp, hI, h1, h4, rfl, hj, rfl, rfl⟩ := hR
  have hJ := ind_ow1 (p := p) hI h1 h4
  have lw : (ws.map wD).length = n := by rw [List.length_map]; exact hI.len
  have lj := (List.getElem?_eq_some_iff.mp hj).1
  let mu : Pot → List Wd → List M := fun q l => μ.set j q.m ++ [.lst (l.map wD)]
  have mat : ∀ q l, (mu q l)[j]? = some q.m := fun q l => by
    show (μ.set j q.m ++ [M.lst (l.map wD)])[j]? = _
    rw [List.getElem?_append_left (by simpa using lj)]
    exact set_at hj
  have mset : ∀ q q' l, (mu q l).set j q'.m = mu q' l := fun q q' l => by
    show (μ.set j q.m ++ [M.lst (l.map wD)]).set j q'.m = μ.set j q'.m ++ _
    rw [List.set_append_left _ _ (by simpa using lj), List.set_set]
  have ml : ∀ q l, (mu q l)[μ.length]? = some (.lst (l.map wD)) := fun q l => end_at (by simp)
  have mlset : ∀ q l (a : M), (mu q l).set μ.length a = μ.set j q.m ++ [a] := fun q l a => end_set (by simp)
  have e0 : μ ++ [M.lst (ws.map wD)] = mu p ws := by
    show _ = μ.set j p.m ++ _
    rw [set_self hj]
  have d0 : DS (cxOf (L2.CX P w) P w K mg base owN "_law_other_words" (defScope sOtherWords) f cdv A0 outer s0 H E) N W (starts owN [.l j, .p (.lst (ws.map wD))]) μ ((defBody sOtherWords).getD 0 (.Pass ⟨0, 0, 0, 0⟩)) (.nx [some (.l j), some (.p (.lst (ws.map wD))), some (.l μ.length), none, none, none] (mu p ws)) := by
    rw [← e0]
    exact ds_set 2 (de_callT (T := "list") (da_cons (de_var 1) da_nil) c_listM T.list (by decide +kernel)) g.nd
  have d1 : ∃ x3 x4, DS (cxOf (L2.CX P w) P w K mg base owN "_law_other_words" (defScope sOtherWords) f cdv A0 outer s0 H E) N W [some (.l j), some (.p (.lst (ws.map wD))), some (.l μ.length), none, none, none] (mu p ws) ((defBody sOtherWords).getD 1 (.Pass ⟨0, 0, 0, 0⟩)) (.nx [some (.l j), some (.p (.lst (ws.map wD))), some (.l μ.length), x3, x4, none] (mu (owP n p) (ow1 n p ws))) := by
    have tt : DT (cxOf (L2.CX P w) P w K mg base owN "_law_other_words" (defScope sOtherWords) f cdv A0 outer s0 H E) N W [some (.l j), some (.p (.lst (ws.map wD))), some (.l μ.length), none, none, none] (mu p ws) (ifC ((defBody sOtherWords).getD 1 (.Pass ⟨0, 0, 0, 0⟩))) (decide (1 < n)) (mu p ws) :=
      dt_of (dt_cmp (de_of (d' := .int ((n : Nat) : Int)) (de_callB (id := "len") (da_cons (de_var 2) da_nil) (c_lenM (ml _ _)) T.len (by decide +kernel)) (by rw [lw])) de_int o_gt) (decide_eq_decide.mpr (by omega))
    by_cases hc : 1 < n
    · obtain ⟨ha, hb, hab, a, b, eS, ea, eb⟩ := owS_is (p := p) hc
      have eP : owP n p = (owS n p).2 := if_pos hc
      have eL : ow1 n p ws = ws.set (owA n p) (prodW (w1A ws (owA n p)) (w1A ws (owB n p))) := if_pos hc
      have wa := ind_okW hI _ (w1A_in (i := owA n p) (by rw [hI.len]; omega))
      have wb := ind_okW hI _ (w1A_in (i := owB n p) (by rw [hI.len]; omega))
      have g0 : ∀ i, i < n → atI (ws.map wD) ((i : Nat) : Int) = some (wD (w1A ws i)) := fun i hi => at_getD (by rw [hI.len]; omega)
      refine ⟨some (.p (inD (owA n p))), some (.p (inD (owB n p))), ?_⟩
      rw [eP, eL]
      have k1 : (mu (owS n p).2 ws).set μ.length (.lst ((ws.map wD).set (owA n p) (wD (prodW (w1A ws (owA n p)) (w1A ws (owB n p)))))) = mu (owS n p).2 (ws.set (owA n p) (prodW (w1A ws (owA n p)) (w1A ws (owB n p)))) := by
        rw [mlset, ← List.map_set]
      refine ds_if (k := true) (dt_of tt (decide_eq_true hc)) (fun _ => dss_cons (ds_asg (de_of (d' := .lst [inD (owA n p), inD (owB n p)]) (de_call (μ2 := mu (owS n p).2 ws) g cs (da_cons (de_var 0) (da_cons (de_of (de_listRg g (de_of (d' := .int ((n : Nat) : Int)) (de_callB (id := "len") (da_cons (de_var 2) da_nil) (c_lenM (ml _ _)) T.len (by decide +kernel)) (by rw [lw])) T.list T.range (by omega)) (congrArg D.lst ((congrArg (rangeD 0) (Int.toNat_natCast n)).trans (rng_in n)))) (da_cons (de_of (d' := .int ((2 : Nat) : Int)) de_int rfl) da_nil))) ⟨Nat, inD, 0, j, p, List.range n, 2, hp.mono (by omega), by rw [List.length_range]; omega, by rw [List.length_range]; omega, rfl, mat _ _, rfl, (mset _ _ _).symm⟩) (by show D.lst ((owS n p).1.map inD) = _; rw [eS, ea, eb]; rfl)) (dg_lst (dgs_cons (dg_name 3 g.nd) (dgs_cons (dg_name 4 g.nd) dgs_nil)) g.hK g.calm) rfl) (cn
        (dss_cons (ds_to (ds_setI (q := μ.length) (ds := ws.map wD) (k := owA n p) (d := wD (prodW (w1A ws (owA n p)) (w1A ws (owB n p)))) (de_call g cp (da_cons (de_ix (de_var 2) (de_var 3) (i_lstM (ml _ _) (g0 _ ha))) (da_cons (de_ix (de_var 2) (de_var 4) (i_lstM (ml _ _) (g0 _ hb))) (da_cons de_int da_nil))) ⟨_, _, _, _, 0, wa.ok, wb.ok, wa.len.trans wb.len.symm, wa.pm, wb.pm, rfl, rfl, rfl⟩) (de_var 2) (de_var 3) (ml _ _) ?_) k1) (cn dss_nil)))) (fun h => by cases h)
      rw [lw]
      unfold ixN
      simp
      omega
    · have eP : owP n p = p := if_neg hc
      have eL : ow1 n p ws = ws := if_neg hc
      rw [eP, eL]
      exact ⟨none, none, ds_if (k := false) (dt_of tt (decide_eq_false hc)) (fun h => by cases h) (fun _ => dss_nil)⟩
  obtain ⟨x3, x4, d1⟩ := d1
  let s1 := ow1 n p ws
  let q1 := owQ n p
  have hk := tk_lt (p := owP n p) (u := 4) (by decide)
  have d2 : DS (cxOf (L2.CX P w) P w K mg base owN "_law_other_words" (defScope sOtherWords) f cdv A0 outer s0 H E) N W [some (.l j), some (.p (.lst (ws.map wD))), some (.l μ.length), x3, x4, none] (mu (owP n p) s1) ((defBody sOtherWords).getD 2 (.Pass ⟨0, 0, 0, 0⟩)) (.nx [some (.l j), some (.p (.lst (ws.map wD))), some (.l μ.length), x3, x4, some (.p (.int ((tk (owP n p) 4 : Nat) : Int)))] (mu q1 s1)) :=
    ds_set 5 (de_call (μ2 := mu q1 s1) g ct (da_cons (de_var 0) (da_cons de_int da_nil)) ⟨j, owP n p, 4, (owP_ok hp).mono (by omega), by decide, by decide, rfl, mat _ _, rfl, (mset _ _ _).symm⟩) g.nd
  have eq : (mu q1 s1).take μ.length = μ.set j q1.m := by
    show (μ.set j q1.m ++ [M.lst (s1.map wD)]).take μ.length = _
    rw [List.take_append_of_le_length (by simp), List.take_of_length_le (by simp)]
  have eg : (μ.set j q1.m ++ [M.gone]).take μ.length = μ.set j q1.m := by
    rw [List.take_append_of_le_length (by simp), List.take_of_length_le (by simp)]
  have fin : ∀ (l : List Wd), ∃ o, True := fun l => ⟨(), trivial⟩
  have len1 : (s1.map wD).length = n := by rw [List.length_map]; exact hJ.len
  have t3 : ∀ (μ1 : List M) (x2 : Option S), DT (cxOf (L2.CX P w) P w K mg base owN "_law_other_words" (defScope sOtherWords) f cdv A0 outer s0 H E) N W [some (.l j), some (.p (.lst (ws.map wD))), x2, x3, x4, some (.p (.int ((tk (owP n p) 4 : Nat) : Int)))] μ1 (ifC ((defBody sOtherWords).getD 3 (.Pass ⟨0, 0, 0, 0⟩))) (decide (tk (owP n p) 4 = 0)) μ1 := fun μ1 x2 => dt_of (dt_cmp (de_var 5) de_int o_eqI) (decide_eq_decide.mpr (by omega))
  have t4 : ∀ (μ1 : List M) (x2 : Option S), DT (cxOf (L2.CX P w) P w K mg base owN "_law_other_words" (defScope sOtherWords) f cdv A0 outer s0 H E) N W [some (.l j), some (.p (.lst (ws.map wD))), x2, x3, x4, some (.p (.int ((tk (owP n p) 4 : Nat) : Int)))] μ1 (ifC ((defBody sOtherWords).getD 4 (.Pass ⟨0, 0, 0, 0⟩))) (decide (tk (owP n p) 4 = 1)) μ1 := fun μ1 x2 => dt_of (dt_cmp (de_var 5) de_int o_eqI) (decide_eq_decide.mpr (by omega))
  have g1 : (mu q1 s1).set μ.length .gone = μ.set j q1.m ++ [.gone] := mlset _ _ _
  by_cases c0 : tk (owP n p) 4 = 0
  · have e : owL n p ws = s1.reverse := if_pos c0
    rw [e]
    refine ⟨_, dss_cons d0 (cn (dss_cons d1 (cn (dss_cons d2 (cn (dss_freeze (ml q1 s1) (by omega) 2 rfl (dss_ifT (dt_of (t3 _ _) (decide_eq_true c0)) (dss_ret (de_of (d' := .lst (s1.reverse.map wD)) (de_revL g (de_var 2) (by omega)) (by rw [List.map_reverse]))) cr))))))), ?_⟩
    rw [g1]
    conv => rhs; rw [← eg]
    exact .rtT (Nat.le_refl _)
  by_cases c1 : tk (owP n p) 4 = 1
  · have e : owL n p ws = s1.set 0 (-(w1A s1 0).1, (w1A s1 0).2) := (if_neg c0).trans (if_pos c1)
    rw [e]
    have a0 : atI (s1.map wD) ((0 : Nat) : Int) = some (wD (w1A s1 0)) := at_getD (by rw [hJ.len]; omega)
    have k1 : (mu q1 s1).set μ.length (.lst ((s1.map wD).set 0 (wD (-(w1A s1 0).1, (w1A s1 0).2)))) = mu q1 (s1.set 0 (-(w1A s1 0).1, (w1A s1 0).2)) := by
      rw [mlset, ← List.map_set]
    have g2 : (mu q1 (s1.set 0 (-(w1A s1 0).1, (w1A s1 0).2))).set μ.length .gone = μ.set j q1.m ++ [.gone] := mlset _ _ _
    have dv : DS (cxOf (L2.CX P w) P w K mg base owN "_law_other_words" (defScope sOtherWords) f cdv A0 outer s0 H E) N W [some (.l j), some (.p (.lst (ws.map wD))), some (.l μ.length), x3, x4, some (.p (.int ((tk (owP n p) 4 : Nat) : Int)))] (mu q1 s1) ((defBody sOtherWords).getD 4 (.Pass ⟨0, 0, 0, 0⟩)) (.nx [some (.l j), some (.p (.lst (ws.map wD))), some (.l μ.length), x3, x4, some (.p (.int ((tk (owP n p) 4 : Nat) : Int)))] (mu q1 (s1.set 0 (-(w1A s1 0).1, (w1A s1 0).2)))) := by
      refine ds_if (k := true) (dt_of (t4 _ _) (decide_eq_true c1)) (fun _ => dss_cons (ds_to (ds_setI (q := μ.length) (ds := s1.map wD) (k := 0) (d := wD (-(w1A s1 0).1, (w1A s1 0).2)) (de_of (d' := wD (-(w1A s1 0).1, (w1A s1 0).2)) (de_tup (dp_cons (de_un (de_ix (de_ix (de_var 2) de_int (i_lstM (i := ((0 : Nat) : Int)) (ml _ _) a0)) de_int (i_tup (i := 0) g rfl)) u_neg) (dp_cons (de_ix (de_ix (de_var 2) de_int (i_lstM (i := ((0 : Nat) : Int)) (ml _ _) a0)) de_int (i_tup (i := 1) g rfl)) dp_nil)) (sz (by show 2 ≤ _; decide))) rfl) (de_var 2) de_int (ml _ _) ?_) k1) (cn dss_nil)) (fun h => by cases h)
      rw [len1]
      unfold ixN
      simp
      omega
    refine ⟨_, dss_cons d0 (cn (dss_cons d1 (cn (dss_cons d2 (cn (dss_skip (dt_of (t3 _ _) (decide_eq_false c0)) (dss_cons dv (cn (dss_freeze (ml q1 _) (by omega) 2 rfl (dss_ret (de_if (k := false) (dt_of (dt_cmp (de_var 5) de_int o_eqI) (decide_eq_false (by omega))) (fun h => by cases h) (fun _ => de_var 2)))))))))))), ?_⟩
    rw [g2]
    conv => rhs; rw [← eg]
    exact .rtT (Nat.le_refl _)
  by_cases c2 : tk (owP n p) 4 = 2
  · have e : owL n p ws = ws := (if_neg c0).trans ((if_neg c1).trans (if_pos c2))
    rw [e]
    refine ⟨_, dss_cons d0 (cn (dss_cons d1 (cn (dss_cons d2 (cn (dss_skip (dt_of (t3 _ _) (decide_eq_false c0)) (dss_skip (dt_of (t4 _ _) (decide_eq_false c1)) (dss_freeze (ml q1 s1) (by omega) 2 rfl (dss_ret (de_if (k := true) (dt_of (dt_cmp (de_var 5) de_int o_eqI) (decide_eq_true (by omega))) (fun _ => de_callT (T := "list") (da_cons (de_var 1) da_nil) (c_listF g) T.list (by decide +kernel)) (fun h => by cases h))))))))))), ?_⟩
    rw [g1]
    conv => rhs; rw [← eg]
    exact .rtT (Nat.le_refl _)
  · have e : owL n p ws = s1 := (if_neg c0).trans ((if_neg c1).trans (if_neg c2))
    rw [e]
    refine ⟨_, dss_cons d0 (cn (dss_cons d1 (cn (dss_cons d2 (cn (dss_skip (dt_of (t3 _ _) (decide_eq_false c0)) (dss_skip (dt_of (t4 _ _) (decide_eq_false c1)) (dss_freeze (ml q1 s1) (by omega) 2 rfl (dss_ret (de_if (k := false) (dt_of (dt_cmp (de_var 5) de_int o_eqI) (decide_eq_false (by omega))) (fun h => by cases h) (fun _ => de_var 2))))))))))), ?_⟩
    rw [g1]
    conv => rhs; rw [← eg]
    exact .rtT (Nat.le_refl _)
end
end K62
set_option Elab.async false
set_option linter.all false
set_option maxRecDepth 100000
set_option maxHeartbeats 4000000
set_option autoImplicit false
namespace K62
open PySem PySem.Spec PyProof.Rows L2 Dl Cq
abbrev vrN : List Str := ["start", "said", "group", "wires", "letters", "sign", "told"]
theorem scValuesRight : FnScope vrN ["start", "said"] (defScope sValuesRight) := ⟨rfl, rfl, rfl, by decide +kernel, rfl, by decide +kernel, by decide +kernel⟩
def rValuesRight (C CS : Addr) : Rel := fun ss μ r μ' => ∃ (n : Nat) (ws : List Wd), Ind n ws ∧ 1 ≤ n ∧ n ≤ 4 ∧ ss = [.p (sVal C CS ws), .p (.lst (ws.map wD))] ∧ r = .v (.p (.bl true)) ∧ μ' = μ
theorem log1 {x s : Int} (h : x = 0 ∨ pm x) (hs : pm s) : (x * s).natAbs.log2 < 1920 ∧ (s * x).natAbs.log2 < 1920 := by
  rcases h with h | h | h <;> rcases hs with k | k <;> rw [h, k] <;> decide
section
variable {X : Cx} {N : En} {W : WX} {n : Nat} {δ : List (Option S)} {μ μ1 : List M} {e : Expr} {p pos : Pos} {K : PySem.W.Frag} {C CS CB : Addr} {m : Nat} {ws : List Wd}
theorem de_start (g : Go X N W n) (ci : Ci X.prog X.w X.K X.mg X.base 9 CS "Start" [] (rSInit X.K C CS CB)) (hI : Ind m ws) (h1 : 1 ≤ m) (h4 : m ≤ 4) (h : DE X N W δ μ e (.v (.p (.tup (ws.map (wdV C))))) μ1) (hk : 9 + 1 ≤ n := by decide) (hg : Gl X "Start" := by rfl)
    (he : starEach [e] X.env = (false, eval e X.env) :: starEach [] X.env := by rfl) (hpl : (backTo pos (starEach [] X.env)).any (·.1) = false := by rfl) : DE X N W δ μ (.Call (.Name "Start" p) [e] [] pos) (.v (.p (sVal C CS ws))) μ1 := by
  have e1 : vvD C (.tp (ws.map toEl)) = .tup (ws.map (wdV C)) := by show D.tup ((ws.map toEl).map (elD C)) = _; rw [els_D]
  refine de_of (d' := sVal C CS ws) (de_make g ci (da_cons h da_nil he) (μ0 := (μ1 ++ [M.obj CS [] []]).set μ1.length (M.obj CS sF (sObj C ws))) ⟨μ1.length, .tp (ws.map toEl), ⟨by rw [List.length_map, hI.len]; omega, fun e he => ?_⟩, by rw [e1]; rfl, by simp, .inl ⟨ws, rfl, ind_st hI h1, rfl, rfl⟩⟩ (List.getElem?_set_self (by simp)) ?_ hk hg (by decide) he hpl) (sVal_is hI C CS)
  · obtain ⟨x, hx, rfl⟩ := List.mem_map.mp he
    have := hI.ok x hx
    exact ⟨this.ok, this.pm⟩
  · rw [List.set_append_right _ _ (Nat.le_refl _)]
    simp
theorem o_neLW (g : Go X N W n) {l m : List Wd} (h1 : ∀ x ∈ l, okL x.2) (h2 : ∀ x ∈ m, okL x.2) : OpOk X N W (compareOp .NotEq) μ (.p (.lst (l.map wD))) (.p (.lst (m.map wD))) (.v (.p (.bl (!decide (l = m))))) μ :=
  o_neD g (.lst (wds_py l)) (.lst (wds_py m)) (wds_shaped h1) (wds_shaped h2) (by rw [PyData.eqv, wds_eqv])
end
section
variable {P : Program} {w : World} {K : PySem.W.Frag} {mg : Str → Option Value} {base : Heap} {f C CS CW CO : Addr} {fd : FuncData}
theorem ok_valuesright (F : Fun K "_law_are_values_right" "_law_are_values_right" sValuesRight f fd) (T : TM mg) (cg : Cf P w K mg base 3 "_law_group" [] rGroup) (ca : Cf P w K mg base 1 "_law_all_letters" [] rAllLetters) (cs : Cm P w K mg base 4 CS "sign_of" [] (rSignOf K C CS CW CO)) (ci : Ci P w K mg base 2 C "Word" [] (rInit C)) (cw : Cf P w K mg base 1 "_law_word_text" [] rWText) : FnOk P w K mg base (L2.CX P w) 6 f fd ["start", "said"] (spD K (rValuesRight C CS)) := by
  refine fn_D (k := 5) F scValuesRight (fun ss μ r μ' h => by obtain ⟨_, _, _, _, _, rfl, _⟩ := h; rfl) ?_
  intro cdv A0 outer s0 H E N W ss μ r μ' g hA hR
  obtain ⟨n, ws, hI, h1, h4, rfl, rfl, rfl⟩ := hR
  have lw : (ws.map wD).length = n := by rw [List.length_map]; exact hI.len
  have d0 : DS (cxOf (L2.CX P w) P w K mg base vrN "_law_are_values_right" (defScope sValuesRight) f cdv A0 outer s0 H E) N W (starts vrN [.p (sVal C CS ws), .p (.lst (ws.map wD))]) μ' ((defBody sValuesRight).getD 0 (.Pass ⟨0, 0, 0, 0⟩)) (.nx [some (.p (sVal C CS ws)), some (.p (.lst (ws.map wD))), some (.p (dD (kvF ws))), some (.p (.int ((n : Nat) : Int))), none, none, none] μ') :=
    ds_par 2 3 g (da_cons (s := .p (dD (kvF ws))) (de_call g cg (da_cons (de_var 1) da_nil) ⟨n, ws, hI, h1, h4, rfl, rfl, rfl⟩) (da_cons (s := .p (.int ((n : Nat) : Int))) (de_of (d' := .int ((n : Nat) : Int)) (de_callB (id := "len") (da_cons (de_var 1) da_nil) (c_lenL g) T.len (by decide +kernel)) (by rw [lw])) da_nil))
  obtain ⟨δ', hlo, ⟨x4, x5, x6, rfl⟩, _⟩ := loop_fo (X := (cxOf (L2.CX P w) P w K mg base vrN "_law_are_values_right" (defScope sValuesRight) f cdv A0 outer s0 H E)) (N := N) (W := W) (f := asName 4) (body := bodyOf sValuesRight 1) (T := Unit) (mu := fun _ => μ') (nx := fun (_ : List Nat) u => u) (gd := sD)
    (fun _ _ => True) (fun _ δ => ∃ x4 x5 x6, δ = [some (.p (sVal C CS ws)), some (.p (.lst (ws.map wD))), some (.p (dD (kvF ws))), some (.p (.int ((n : Nat) : Int))), x4, x5, x6]) (allL n) [some (.p (sVal C CS ws)), some (.p (.lst (ws.map wD))), some (.p (dD (kvF ws))), some (.p (.int ((n : Nat) : Int))), none, none, none] ()
    (fun L hL k q δ hδ hT => by
      obtain ⟨x4, x5, x6, rfl⟩ := hδ
      obtain ⟨l1, l2⟩ := allL_is n L hL
      have oL : okL L := ⟨by omega, by omega, l2⟩
      obtain ⟨δ1, hlo1, ⟨y5, y6, rfl⟩, _⟩ := loop_fo (X := (cxOf (L2.CX P w) P w K mg base vrN "_law_are_values_right" (defScope sValuesRight) f cdv A0 outer s0 H E)) (N := N) (W := W) (f := asName 5) (body := bodyOf2 sValuesRight 1 0) (T := Unit) (mu := fun _ => μ') (nx := fun (_ : Int) u => u) (gd := D.int)
        (fun _ _ => True) (fun _ δ => ∃ y5 y6, δ = [some (.p (sVal C CS ws)), some (.p (.lst (ws.map wD))), some (.p (dD (kvF ws))), some (.p (.int ((n : Nat) : Int))), some (.p (sD L)), y5, y6]) [1, -1] [some (.p (sVal C CS ws)), some (.p (.lst (ws.map wD))), some (.p (dD (kvF ws))), some (.p (.int ((n : Nat) : Int))), some (.p (sD L)), x5, x6] ()
        (fun s hs k q δ hδ hT => by
          obtain ⟨y5, y6, rfl⟩ := hδ
          have ps : pm s := by
            simp only [List.mem_cons, List.not_mem_nil, or_false] at hs
            exact hs
          obtain ⟨lg1, lg2⟩ := log1 (sign_pm hI h1 h4 L) ps
          refine ⟨trivial, _, _, rfl, dss_cons (ds_set 6 (de_meth (r := .v (.p (.int (signAt ws L * s)))) g cs (de_var 0) (da_cons (s := .p (elD C (.wd L s))) (de_word g ci oL ps (de_of (d' := .str (sgn L s)) (de_call g cw (da_cons (s := .p (tupW L s)) (de_tup (dp_cons (de_var 5) (dp_cons (de_var 4) dp_nil)) (sz (by show 2 ≤ _; decide))) da_nil) ⟨L, s, oL.four, rfl, rfl, rfl⟩) (congrArg D.str (sgn_sgL _ _).symm))) da_nil) ⟨n, ws, .wd L s, hI, h1, h4, ⟨oL, ps⟩, rfl, rfl, .inl ⟨L, s, rfl, l1, rfl⟩⟩) g.nd) (cn
            (dss_skip (dt_of (dt_cmp (de_callB (id := "repr") (da_cons (de_var 6) da_nil) (c_reprI lg1) T.repr (by decide +kernel)) (de_callB (id := "repr") (da_cons (de_bin (de_var 5) (de_of (d' := .int (signAt ws L)) (de_dget2D (k := .inr (Dl.st L)) g (de_var 2) (de_var 4) de_int) (val_sign ws L)) (o_mul (.inl ?_))) da_nil) (c_reprI lg2) T.repr (by decide +kernel)) o_neS) (by rw [Int.mul_comm, decide_eq_true rfl]; rfl)) dss_nil)), _, _, rfl⟩
          rcases ps with h | h <;> rw [h] <;> decide)
        ⟨_, _, rfl⟩ trivial
      exact ⟨trivial, _, _, rfl, dss_cons (ds_for g (di_tup g (de_tup (ds := ([1, -1] : List Int).map D.int) (dp_cons de_int (dp_cons (de_un de_int u_neg) dp_nil)) (sz (by show 2 ≤ _; decide)))) (dg_name 5 g.nd) hlo1) (cn dss_nil), _, _, _, rfl⟩)
    ⟨_, _, _, rfl⟩ trivial
  exact ⟨_, dss_cons d0 (cn (dss_cons (ds_for g (di_lst g (de_call g ca (da_cons (de_var 3) da_nil) ⟨n, h4, rfl, rfl, rfl⟩)) (dg_name 4 g.nd) hlo) (cn (dss_ret de_bl)))), .rt⟩
end
end K62
set_option Elab.async false
set_option linter.all false
set_option maxRecDepth 100000
set_option maxHeartbeats 4000000
set_option autoImplicit false
namespace K62
open PySem PySem.Spec PyProof.Rows L2 Dl Cq
abbrev rtN : List Str := ["pot", "wires", "said", "made", "lap", "its", "other", "caught", "far", "start", "value"]
theorem scRight : FnScope rtN ["pot"] (defScope sRight) := ⟨rfl, rfl, rfl, by decide +kernel, rfl, by decide +kernel, by decide +kernel⟩
def rN (p : Pot) : Nat := 1 + tk p 4
def rW (p : Pot) : List Wd := swL (rN p) (tkP p 4)
def rP2 (p : Pot) : Pot := swP (rN p) (tkP p 4)
def rP3 (p : Pot) : Pot := (List.range 3).foldl (fun q _ => owQ (rN p) q) (rP2 p)
def rP4 (p : Pot) : Pot := tkP (rP3 p) 29
def rightP (p : Pot) : Pot := tkP (rP4 p) 29
theorem rN_is (p : Pot) : 1 ≤ rN p ∧ rN p ≤ 4 := by
  have := tk_lt (p := p) (u := 4) (by decide)
  unfold rN
  omega
theorem rW_ind (p : Pot) : Ind (rN p) (rW p) := ind_swL (rN_is p).1 (rN_is p).2
theorem rP2_ok {m : Nat} {p : Pot} (h : p.ok m) : (rP2 p).ok (m + 42) := (swP_ok (rN_is p).1 (rN_is p).2 (tkP_ok h)).mono (by omega)
theorem rP3_ok {m : Nat} {p : Pot} (h : p.ok m) : (rP3 p).ok (m + 51) := by
  have := owQ_ok (n := rN p) (owQ_ok (n := rN p) (owQ_ok (n := rN p) (rP2_ok h)))
  exact this.mono (by omega)
theorem rP4_ok {m : Nat} {p : Pot} (h : p.ok m) : (rP4 p).ok (m + 52) := tkP_ok (rP3_ok h)
theorem rightP_ok {m : Nat} {p : Pot} (h : p.ok m) : (rightP p).ok (m + 210) := (tkP_ok (rP4_ok h)).mono (by omega)
theorem rep_X {n : Nat} (h1 : 1 ≤ n) (h4 : n ≤ 4) : okL (List.replicate n 88) := ⟨by rw [List.length_replicate]; exact h1, by rw [List.length_replicate]; exact h4, fun c hc => by rw [(List.mem_replicate.mp hc).2]; decide⟩
structure VR (P : Program) (w : World) (K : PySem.W.Frag) (mg : Str → Option Value) (base : Heap) (C CS CB CW CO CK : Addr) : Prop where
  T : TM mg
  Ts : TKs K mg CS
  T2 : TC K mg C
  ciS : Ci P w K mg base 9 CS "Start" [] (rSInit K C CS CB)
  ceq : Cm P w K mg base 1 C "__eq__" [] (rEq C)
  seq : Cm P w K mg base 3 CS "__eq__" [] (rSEq K C CS)
  ne : NeOk K CS
  nf : PySem.W.notFirst K CS (.ref CS) = true
  like : Cm P w K mg base 1 CS "like" [] (rLike K C CS)
  sof : Cm P w K mg base 4 CS "sign_of" [] (rSignOf K C CS CW CO)
  take : Cf P w K mg base 1 "_law_take" [] rTk
  startw : Cf P w K mg base 7 "_law_start_words" [] rStartWords
  madew : Cf P w K mg base 4 "_law_made_words" [] (rMadeWords C)
  valr : Cf P w K mg base 6 "_law_are_values_right" [] (rValuesRight C CS)
  other : Cf P w K mg base 3 "_law_other_words" [] rOther
  group : Cf P w K mg base 3 "_law_group" [] rGroup
  odd : Cf P w K mg base 3 "_law_odd" [] rOdd
  far : Cf P w K mg base 4 "_law_far_word" [] (rFarWord C)
  heard : Cl P w K mg base false 13 12 "_law_heard" (rHear K CK)
  xW : XC K CW
  gW : mg "BadWord" = some (.ref CW)
  eW : PySem.W.exmOne K (.ref CW) (.ref CK) = some true
  xO : XC K CO
  gO : mg "OtherSize" = some (.ref CO)
  eO : PySem.W.exmOne K (.ref CO) (.ref CK) = some true
  ks : KJ K C
  kx : KXt K C CS
abbrev lX (C' : Rx) : Lr := fun μ r μ' => r = C' ∧ μ' = μ
def rRight (C PT : Addr) : Rel := fun ss μ r μ' => ∃ (j : Nat) (p : Pot), p.ok 2000 ∧ ss = [.l j] ∧ μ[j]? = some p.m ∧ μ[0]? = some (.tab PT qJ) ∧ r = .v (.p (.bl true)) ∧ μ' = μ.set j (rightP p).m
/-- values that are no words, and are beside themselves -/
inductive NV (C : Addr) : D → Prop
  | odd {d} : kdB d = true → neB d = true → NV C d
  | wds (ws : List Wd) : NV C (.tup (ws.map (wdV C)))
theorem NV.kd {C : Addr} {d : D} (h : NV C d) : kdB d = true := by
  cases h with
  | odd h _ => exact h
  | wds _ => rfl
theorem NV.ne {X : Cx} {N : En} {W : WX} {n : Nat} {μ : List M} {C : Addr} {d : D} (g : Go X N W n) (ce : Cm X.prog X.w X.K X.mg X.base 1 C "__eq__" [] (rEq C)) (h : NV C d) (hn : 5 ≤ n := by decide) : OpOk X N W (compareOp .NotEq) μ (.p d) (.p d) (.v (.p (.bl false))) μ := by
  cases h with
  | odd _ h => exact o_neSelf g h hn
  | wds ws =>
    have := o_wdsNe (μ := μ) g ce (ws := ws) (ws' := ws) (by omega)
    rw [decide_eq_true rfl] at this
    exact this
theorem zs_ne (n : Nat) (h : 1 ≤ n ∧ n ≤ 4) : neB (.str (Dl.st (List.replicate n 90))) = true := by
  have h : n = 1 ∨ n = 2 ∨ n = 3 ∨ n = 4 := by omega
  rcases h with h | h | h | h <;> rw [h] <;> decide +kernel
section
variable {P : Program} {w : World} {K : PySem.W.Frag} {mg : Str → Option Value} {base : Heap} {f C CS CB CW CO CK : Addr}
theorem ok_right {cA PT : Addr} {oc kV doc pmv ct_ : Value} {od an : Option Addr} {osl : Array (Option Value)} (lk : K.lookup f = some ⟨oc, od, .func (PySem.W.fnOf "_law_right" "_law_right" (defArgs sRight) (defBody sRight) (defScope sRight) .none kV doc pmv an (.ref cA) ct_), osl⟩) (hcd : PySem.W.codeIn K (.ref cA) "_law_right" = true)
    (TB : LamX.TabB base mg cA PT) (R : VR P w K mg base C CS CB CW CO CK) : FnOk P w K mg base (L2.CX P w) 16 f (PySem.W.fnOf "_law_right" "_law_right" (defArgs sRight) (defBody sRight) (defScope sRight) .none kV doc pmv an (.ref cA) ct_) ["pot"] (spD K (rRight C PT)) := by
  refine fn_Dc (k := 15) lk hcd scRight (fun ss μ r μ' h => by obtain ⟨_, _, _, rfl, _⟩ := h; rfl) ?_
  intro A0 outer s0 H E N W ss μ r μ' g hA hR
  obtain ⟨j, p, hp, rfl, hj, hT, rfl, rfl⟩ := hR
  have T := R.T
  have j0 : j ≠ 0 := by
    rintro rfl
    rw [hj] at hT
    cases hT
  have tb : ∀ m : M, (μ.set j m)[0]? = some (.tab PT (lamQ (cxOf (L2.CX P w) P w K mg base rtN "_law_right" (defScope sRight) f (.ref cA) A0 outer s0 H E))) := fun m => by rw [List.getElem?_set_ne j0]; exact hT
  have hat : ∀ m : M, (μ.set j m)[j]? = some m := fun m => set_at hj
  have hn := rN_is p
  have hI := rW_ind p
  have iW := ind_okW hI
  have lW : (rW p).length = rN p := hI.len
  have p1 : (tkP p 4).ok 2001 := tkP_ok hp
  have p2 := rP2_ok hp
  have p3 := rP3_ok hp
  have p4 := rP4_ok hp
  have d0 : DS (cxOf (L2.CX P w) P w K mg base rtN "_law_right" (defScope sRight) f (.ref cA) A0 outer s0 H E) N W (starts rtN [.l j]) μ ((defBody sRight).getD 0 (.Pass ⟨0, 0, 0, 0⟩)) (.nx [some (.l j), some (.p (.int ((rN p : Nat) : Int))), none, none, none, none, none, none, none, none, none] (μ.set j (tkP p 4).m)) :=
    ds_set 1 (de_of (d' := .int ((rN p : Nat) : Int)) (de_bin de_int (de_call g R.take (da_cons (de_var 0) (da_cons de_int da_nil)) ⟨j, p, 4, hp.mono (by omega), by decide, by decide, rfl, hj, rfl, rfl⟩) o_add) (congrArg D.int (by unfold rN; omega))) g.nd
  have d1 : DS (cxOf (L2.CX P w) P w K mg base rtN "_law_right" (defScope sRight) f (.ref cA) A0 outer s0 H E) N W [some (.l j), some (.p (.int ((rN p : Nat) : Int))), none, none, none, none, none, none, none, none, none] (μ.set j (tkP p 4).m) ((defBody sRight).getD 1 (.Pass ⟨0, 0, 0, 0⟩)) (.nx [some (.l j), some (.p (.int ((rN p : Nat) : Int))), some (.p (.lst ((rW p).map wD))), none, none, none, none, none, none, none, none] (μ.set j (rP2 p).m)) :=
    ds_set 2 (de_call (r := .v (.p (.lst ((rW p).map wD)))) (μ2 := (μ.set j (rP2 p).m)) g R.startw (da_cons (de_var 0) (da_cons (de_var 1) da_nil)) ⟨j, tkP p 4, rN p, p1.mono (by omega), hn.1, hn.2, rfl, hat _, rfl, by rw [List.set_set]; rfl⟩) g.nd
  have d2 : DS (cxOf (L2.CX P w) P w K mg base rtN "_law_right" (defScope sRight) f (.ref cA) A0 outer s0 H E) N W [some (.l j), some (.p (.int ((rN p : Nat) : Int))), some (.p (.lst ((rW p).map wD))), none, none, none, none, none, none, none, none] (μ.set j (rP2 p).m) ((defBody sRight).getD 2 (.Pass ⟨0, 0, 0, 0⟩)) (.nx [some (.l j), some (.p (.int ((rN p : Nat) : Int))), some (.p (.lst ((rW p).map wD))), some (.p (.tup ((rW p).map (wdV C)))), none, none, none, none, none, none, none] (μ.set j (rP2 p).m)) :=
    ds_set 3 (de_call g R.madew (da_cons (de_var 2) da_nil) ⟨rN p, rW p, iW, by omega, rfl, rfl, rfl⟩) g.nd
  have d3 : DS (cxOf (L2.CX P w) P w K mg base rtN "_law_right" (defScope sRight) f (.ref cA) A0 outer s0 H E) N W [some (.l j), some (.p (.int ((rN p : Nat) : Int))), some (.p (.lst ((rW p).map wD))), some (.p (.tup ((rW p).map (wdV C)))), none, none, none, none, none, none, none] (μ.set j (rP2 p).m) ((defBody sRight).getD 3 (.Pass ⟨0, 0, 0, 0⟩)) (.nx [some (.l j), some (.p (.int ((rN p : Nat) : Int))), some (.p (.lst ((rW p).map wD))), some (.p (.tup ((rW p).map (wdV C)))), none, none, none, none, none, some (.p (sVal C CS (rW p))), none] (μ.set j (rP2 p).m)) :=
    ds_set 9 (de_start g R.ciS hI hn.1 hn.2 (de_var 3)) g.nd
  have log4 : (((rN p : Nat) : Int)).natAbs.log2 < 1920 := by
    have : (((rN p : Nat) : Int)).natAbs = rN p := rfl
    rw [this]
    have h : rN p = 1 ∨ rN p = 2 ∨ rN p = 3 ∨ rN p = 4 := by omega
    rcases h with h | h | h | h <;> rw [h] <;> decide
  have t4 : DT (cxOf (L2.CX P w) P w K mg base rtN "_law_right" (defScope sRight) f (.ref cA) A0 outer s0 H E) N W [some (.l j), some (.p (.int ((rN p : Nat) : Int))), some (.p (.lst ((rW p).map wD))), some (.p (.tup ((rW p).map (wdV C)))), none, none, none, none, none, some (.p (sVal C CS (rW p))), none] (μ.set j (rP2 p).m) (ifC ((defBody sRight).getD 4 (.Pass ⟨0, 0, 0, 0⟩))) false (μ.set j (rP2 p).m) := by
    refine dt_of (dt_w (dw_or (k := false) (k' := false) (dt_of (dt_cmp (de_fld (de_var 9) g R.Ts.ci.cl R.Ts.nW) (de_var 3) (o_wdsNe g R.ceq)) (by rw [decide_eq_true rfl]; rfl)) (fun _ => dw_or (k := false) (k' := false) (dt_of (dt_cmp (de_callB (id := "repr") (da_cons (de_of (d' := .int ((rN p : Nat) : Int)) (de_fld (de_var 9) g R.Ts.ci.cl R.Ts.nN) (by rw [lW])) da_nil) (c_reprI log4) T.repr (by decide +kernel)) (de_callB (id := "repr") (da_cons (de_var 1) da_nil) (c_reprI log4) T.repr (by decide +kernel)) o_neS) (by rw [decide_eq_true rfl]; rfl)) (fun _ => dw_or1 (dt_not (dt_val (de_call (r := .v (.p (.bl true))) g R.valr (da_cons (de_var 9) (da_cons (de_var 2) da_nil)) ⟨rN p, rW p, hI, hn.1, hn.2, rfl, rfl, rfl⟩))))))) rfl
  obtain ⟨δ5, hlo5, ⟨x4, x5, x6, rfl⟩, _⟩ := loop_fo (X := (cxOf (L2.CX P w) P w K mg base rtN "_law_right" (defScope sRight) f (.ref cA) A0 outer s0 H E)) (N := N) (W := W) (f := asName 4) (body := bodyOf sRight 5) (T := Pot) (mu := fun q => μ.set j q.m) (nx := fun (_ : Nat) q => owQ (rN p) q) (gd := inD)
    (fun k q => k ≤ 3 ∧ q.ok (2100 - 3 * k)) (fun q δ => ∃ x4 x5 x6, δ = [some (.l j), some (.p (.int ((rN p : Nat) : Int))), some (.p (.lst ((rW p).map wD))), some (.p (.tup ((rW p).map (wdV C)))), x4, x5, x6, none, none, some (.p (sVal C CS (rW p))), none]) (List.range 3) [some (.l j), some (.p (.int ((rN p : Nat) : Int))), some (.p (.lst ((rW p).map wD))), some (.p (.tup ((rW p).map (wdV C)))), none, none, none, none, none, some (.p (sVal C CS (rW p))), none] (rP2 p)
    (fun a ha k q δ hδ hQ => by
      obtain ⟨x4, x5, x6, rfl⟩ := hδ
      have hV : Ind (rN p) (owL (rN p) q (rW p)) := ind_owL hI hn.1 hn.2
      have iV := ind_okW hV
      have lV : (owL (rN p) q (rW p)).length = rN p := hV.len
      refine ⟨⟨by omega, (owQ_ok hQ.2).mono (by omega)⟩, _, _, rfl, dss_cons (ds_set 5 (de_call (r := .v (.p (.lst ((owL (rN p) q (rW p)).map wD)))) (μ2 := (μ.set j (owQ (rN p) q).m)) g R.other (da_cons (de_var 0) (da_cons (de_var 2) da_nil)) ⟨j, q, rN p, rW p, hQ.2.mono (by omega), hI, hn.1, hn.2, rfl, hat _, rfl, by rw [List.set_set]⟩) g.nd) (cn
        (dss_cons (ds_set 6 (de_start (ws := owL (rN p) q (rW p)) g R.ciS hV hn.1 hn.2 (de_call g R.madew (da_cons (de_var 5) da_nil) ⟨rN p, owL (rN p) q (rW p), iV, by omega, rfl, rfl, rfl⟩)) g.nd) (cn
        (dss_skip (dt_of (dt_cmp (de_callB (id := "repr") (da_cons (de_meth (r := .v (.p (.bl (likeB (rW p) (owL (rN p) q (rW p)))))) g R.like (de_var 9) (da_cons (de_var 6) da_nil) ⟨rW p, rfl, .inl ⟨owL (rN p) q (rW p), rfl, rfl⟩⟩) da_nil) c_reprB T.repr (by decide +kernel)) (de_callB (id := "repr") (da_cons (s := .p (.bl (likeB (rW p) (owL (rN p) q (rW p))))) (de_cmp (de_call g R.group (da_cons (de_var 2) da_nil) ⟨rN p, rW p, hI, hn.1, hn.2, rfl, rfl, rfl⟩) (de_call g R.group (da_cons (de_var 5) da_nil) ⟨rN p, owL (rN p) q (rW p), hV, hn.1, hn.2, rfl, rfl, rfl⟩) (o_eqDD g (kv_flat _) (kv_flat _))) da_nil) c_reprB T.repr (by decide +kernel)) o_neS) (by rw [decide_eq_true rfl]; rfl))
        (dss_skip (dt_of (dt_w (dw_or (k := false) (k' := false) (dt_of (dt_cmp (de_eqOwn g R.seq (.ins _ _ _) R.nf (de_var 9) (de_var 6) ⟨rW p, rfl, .inl ⟨owL (rN p) q (rW p), rfl, rfl⟩⟩) (de_cmp (de_var 2) (de_var 5) (o_eqLW g (fun x hx => (iW x hx).ok) (fun x hx => (iV x hx).ok))) o_neB) (by rw [decide_eq_true rfl]; rfl)) (fun _ => dw_or1 (dt_of (dt_cmp (de_neOwn g R.seq R.ne (.ins _ _ _) R.nf (de_var 9) (de_var 6) ⟨rW p, rfl, .inl ⟨owL (rN p) q (rW p), rfl, rfl⟩⟩) (de_cmp (de_var 2) (de_var 5) (o_neLW g (fun x hx => (iW x hx).ok) (fun x hx => (iV x hx).ok))) o_neB) (by rw [decide_eq_true rfl]; rfl))))) rfl) dss_nil))))), _, _, _, rfl⟩)
    ⟨_, _, _, rfl⟩ ⟨by decide, p2.mono (by decide)⟩
  have d5 : DS (cxOf (L2.CX P w) P w K mg base rtN "_law_right" (defScope sRight) f (.ref cA) A0 outer s0 H E) N W [some (.l j), some (.p (.int ((rN p : Nat) : Int))), some (.p (.lst ((rW p).map wD))), some (.p (.tup ((rW p).map (wdV C)))), none, none, none, none, none, some (.p (sVal C CS (rW p))), none] (μ.set j (rP2 p).m) ((defBody sRight).getD 5 (.Pass ⟨0, 0, 0, 0⟩)) (.nx [some (.l j), some (.p (.int ((rN p : Nat) : Int))), some (.p (.lst ((rW p).map wD))), some (.p (.tup ((rW p).map (wdV C)))), x4, x5, x6, none, none, some (.p (sVal C CS (rW p))), none] (μ.set j (rP3 p).m)) :=
    ds_for g (di_of (di_range1 (da_cons de_int da_nil) T.range (by decide)) (rng_in 3)) (dg_name 4 g.nd) hlo5
  have rep : ∀ (μ : List M), OpOk (cxOf (L2.CX P w) P w K mg base rtN "_law_right" (defScope sRight) f (.ref cA) A0 outer s0 H E) N W (binaryOp .Mult) μ (.p (.str ⟨#[90]⟩)) (.p (.int ((rN p : Nat) : Int))) (.v (.p (.str (Dl.st (List.replicate (rN p) 90))))) μ := fun μ => by
    by_cases h : rN p = 1
    · rw [h]
      exact o_mulS (k := true)
    · exact o_mulSk ⟨by omega, by omega⟩
  have hd0 : atI ((rW p).map (wdV C)) ((0 : Nat) : Int) = some (wdV C (w1A (rW p) 0)) := at_getD (by omega)
  let vs6 : List D := [.non, .tup ((rW p).map (wdV C)), wdV C (w1A (rW p) 0), .str (Dl.st (List.replicate (rN p) 90)), oddF (rP3 p)]
  obtain ⟨δ6, hlo6, ⟨y10, rfl⟩, _⟩ := loop_fo (X := (cxOf (L2.CX P w) P w K mg base rtN "_law_right" (defScope sRight) f (.ref cA) A0 outer s0 H E)) (N := N) (W := W) (f := asName 10) (body := bodyOf sRight 6) (T := Unit) (mu := fun _ => (μ.set j (rP4 p).m)) (nx := fun (_ : D) u => u) (gd := fun d => d)
    (fun _ _ => True) (fun _ δ => ∃ y10, δ = [some (.l j), some (.p (.int ((rN p : Nat) : Int))), some (.p (.lst ((rW p).map wD))), some (.p (.tup ((rW p).map (wdV C)))), x4, x5, x6, none, none, some (.p (sVal C CS (rW p))), y10]) vs6 [some (.l j), some (.p (.int ((rN p : Nat) : Int))), some (.p (.lst ((rW p).map wD))), some (.p (.tup ((rW p).map (wdV C)))), x4, x5, x6, none, none, some (.p (sVal C CS (rW p))), none] ()
    (fun d hd k q δ hδ hQ => by
      obtain ⟨y10, rfl⟩ := hδ
      have key : ∃ t, TyI K d t ∧ TyD K d t ∧ nfK K CS t := by
        simp only [vs6, List.mem_cons, List.not_mem_nil, or_false] at hd
        rcases hd with rfl | rfl | rfl | rfl | rfl
        · exact R.kx.kd rfl
        · exact R.kx.kd rfl
        · exact ⟨_, .ins _ _ _ R.T2.ci, .ins _ _ _, R.kx.wd⟩
        · exact R.kx.kd rfl
        · exact R.kx.kd (odd_kd _ (oddF_in _))
      obtain ⟨t, k1, k2, k3, k4⟩ := key
      exact ⟨trivial, _, _, rfl, dss_cons (ds_if (k := false) (dt_of (dt_w (dw_or (k := false) (k' := false) (dt_of (dt_cmp (de_meth (r := .v (.p (.bl false))) g R.like (de_var 9) (da_cons (de_var 10) da_nil) ⟨rW p, rfl, .inr ⟨d, t, k1, k3, rfl, rfl⟩⟩) de_bl o_notBl) (by decide)) (fun _ => dw_or (k := false) (k' := false) (dt_eqOwn g R.seq k2 k4 (de_var 9) (de_var 10) ⟨rW p, rfl, .inr ⟨d, t, k1, k3, rfl, rfl⟩⟩) (fun _ => dw_or1 (dt_of (dt_not (dt_neOwn (q := false) g R.seq R.ne k2 k4 (de_var 9) (de_var 10) ⟨rW p, rfl, .inr ⟨d, t, k1, k3, rfl, rfl⟩⟩)) rfl))))) rfl) (fun h => by cases h) (fun _ => dss_nil)) (cn dss_nil), _, rfl⟩)
    ⟨_, rfl⟩ trivial
  have d6 : DS (cxOf (L2.CX P w) P w K mg base rtN "_law_right" (defScope sRight) f (.ref cA) A0 outer s0 H E) N W [some (.l j), some (.p (.int ((rN p : Nat) : Int))), some (.p (.lst ((rW p).map wD))), some (.p (.tup ((rW p).map (wdV C)))), x4, x5, x6, none, none, some (.p (sVal C CS (rW p))), none] (μ.set j (rP3 p).m) ((defBody sRight).getD 6 (.Pass ⟨0, 0, 0, 0⟩)) (.nx [some (.l j), some (.p (.int ((rN p : Nat) : Int))), some (.p (.lst ((rW p).map wD))), some (.p (.tup ((rW p).map (wdV C)))), x4, x5, x6, none, none, some (.p (sVal C CS (rW p))), y10] (μ.set j (rP4 p).m)) := by
    rw [List.map_id'] at hlo6
    exact ds_for g (di_tup g (de_tup (ds := vs6) (dp_cons de_non (dp_cons (de_var 3) (dp_cons (de_ix (de_var 3) de_int (i_tup (i := ((0 : Nat) : Int)) g hd0)) (dp_cons (de_bin (de_of (d' := .str ⟨#[90]⟩) de_str rfl) (de_var 1) (rep _)) (dp_cons (de_call (r := .v (.p (oddF (rP3 p)))) (μ2 := (μ.set j (rP4 p).m)) g R.odd (da_cons (de_var 0) da_nil) ⟨j, rP3 p, p3.mono (by omega), hat _, rfl, rfl, by rw [List.set_set]; rfl⟩) dp_nil))))) (sz (by show 5 ≤ _; decide)))) (dg_name 10 g.nd) hlo6
  let vs7 : List D := [.non, .str (Dl.st (List.replicate (rN p) 90)), .tup ((rW p).map (wdV C)), .int 0, oddF (rP4 p)]
  obtain ⟨δ7, hlo7, ⟨z7, z10, rfl⟩, _⟩ := loop_fo (X := (cxOf (L2.CX P w) P w K mg base rtN "_law_right" (defScope sRight) f (.ref cA) A0 outer s0 H E)) (N := N) (W := W) (f := asName 10) (body := bodyOf sRight 7) (T := Unit) (mu := fun _ => (μ.set j (rightP p).m)) (nx := fun (_ : D) u => u) (gd := fun d => d)
    (fun _ _ => True) (fun _ δ => ∃ z7 z10, δ = [some (.l j), some (.p (.int ((rN p : Nat) : Int))), some (.p (.lst ((rW p).map wD))), some (.p (.tup ((rW p).map (wdV C)))), x4, x5, x6, z7, none, some (.p (sVal C CS (rW p))), z10]) vs7 [some (.l j), some (.p (.int ((rN p : Nat) : Int))), some (.p (.lst ((rW p).map wD))), some (.p (.tup ((rW p).map (wdV C)))), x4, x5, x6, none, none, some (.p (sVal C CS (rW p))), y10] ()
    (fun d hd k q δ hδ hQ => by
      obtain ⟨z7, z10, rfl⟩ := hδ
      have nv : NV C d := by
        simp only [vs7, List.mem_cons, List.not_mem_nil, or_false] at hd
        rcases hd with rfl | rfl | rfl | rfl | rfl
        · exact .odd rfl rfl
        · exact .odd rfl (zs_ne _ hn)
        · exact .wds _
        · exact .odd rfl (by decide +kernel)
        · exact .odd (odd_kd _ (oddF_in _)) (odd_ne _ (oddF_in _))
      have oe : okEl K C (.ot d) := R.ks.kd nv.kd
      refine ⟨trivial, _, _, rfl, dss_cons (ds_set 7 (de_ix (de_handL (j := 11) (jt := 0) (L := lX (.x CW d)) g (fun h => by cases h) (tb _) TB rfl R.heard (fun E A outer s H f c' N' hK g' μ3 r3 μ4 hL => by
          obtain ⟨rfl, rfl⟩ := hL
          exact de_meth g' R.sof (de_var 9) (da_cons (s := .p (elD C (.ot d))) (de_var 10) da_nil) ⟨rN p, rW p, .ot d, hI, hn.1, hn.2, oe, rfl, rfl, .inr (.inr ⟨d, rfl, rfl⟩)⟩) da_nil ⟨rfl, _, _, ⟨rfl, rfl⟩, .x R.eW, rfl⟩) de_int (i_tup (i := 0) g rfl)) g.nd) (cn
        (dss_skip (dt_of (dt_w (dw_or (k := false) (k' := false) (dt_not (dt_val (de_callB (id := "isinstance") (da_cons (de_var 7) (da_cons (de_glob (v := .ref CW) R.gW rfl (fun _ _ => .adr _)) da_nil)) (c_isiX g R.xW kit_same) T.isinstance (by decide +kernel)))) (fun _ => dw_or1 (dt_cmp (de_excVal g R.xW (de_var 7)) (de_var 10) (nv.ne g R.ceq))))) rfl) dss_nil)), _, _, rfl⟩)
    ⟨_, _, rfl⟩ trivial
  have d7 : DS (cxOf (L2.CX P w) P w K mg base rtN "_law_right" (defScope sRight) f (.ref cA) A0 outer s0 H E) N W [some (.l j), some (.p (.int ((rN p : Nat) : Int))), some (.p (.lst ((rW p).map wD))), some (.p (.tup ((rW p).map (wdV C)))), x4, x5, x6, none, none, some (.p (sVal C CS (rW p))), y10] (μ.set j (rP4 p).m) ((defBody sRight).getD 7 (.Pass ⟨0, 0, 0, 0⟩)) (.nx [some (.l j), some (.p (.int ((rN p : Nat) : Int))), some (.p (.lst ((rW p).map wD))), some (.p (.tup ((rW p).map (wdV C)))), x4, x5, x6, z7, none, some (.p (sVal C CS (rW p))), z10] (μ.set j (rightP p).m)) := by
    rw [List.map_id'] at hlo7
    exact ds_for g (di_tup g (de_tup (ds := vs7) (dp_cons de_non (dp_cons (de_bin (de_of (d' := .str ⟨#[90]⟩) de_str rfl) (de_var 1) (rep _)) (dp_cons (de_var 3) (dp_cons de_int (dp_cons (de_call (r := .v (.p (oddF (rP4 p)))) (μ2 := (μ.set j (rightP p).m)) g R.odd (da_cons (de_var 0) da_nil) ⟨j, rP4 p, p4.mono (by omega), hat _, rfl, rfl, by rw [List.set_set]; rfl⟩) dp_nil))))) (sz (by show 5 ≤ _; decide)))) (dg_name 10 g.nd) hlo7
  have hf : 1 ≤ farN (rN p) ∧ farN (rN p) ≤ 4 ∧ farN (rN p) ≠ rN p := by unfold farN; split <;> omega
  have oF : okEl K C (.wd (List.replicate (farN (rN p)) 88) 1) := ⟨rep_X hf.1 hf.2.1, .inl rfl⟩
  refine ⟨_, dss_cons d0 (cn (dss_cons d1 (cn (dss_cons d2 (cn (dss_cons d3 (cn (dss_skip t4 (dss_cons d5 (cn (dss_cons d6 (cn (dss_cons d7 (cn
    (dss_cons (ds_set 8 (de_call g R.far (da_cons (de_var 1) da_nil) ⟨rN p, hn.1, hn.2, rfl, rfl, rfl⟩) g.nd) (cn
    (dss_cons (ds_set 7 (de_ix (de_handL (j := 11) (jt := 0) (L := lX (.x CO (elD C (.wd (List.replicate (farN (rN p)) 88) 1)))) g (fun h => by cases h) (tb _) TB rfl R.heard (fun E A outer s H f c' N' hK g' μ3 r3 μ4 hL => by
          obtain ⟨rfl, rfl⟩ := hL
          exact de_meth g' R.sof (de_var 9) (da_cons (s := .p (elD C (.wd (List.replicate (farN (rN p)) 88) 1))) (de_var 8) da_nil) ⟨rN p, rW p, .wd (List.replicate (farN (rN p)) 88) 1, hI, hn.1, hn.2, oF, rfl, rfl, .inr (.inl ⟨_, _, rfl, by rw [List.length_replicate]; exact hf.2.2, rfl⟩)⟩) da_nil ⟨rfl, _, _, ⟨rfl, rfl⟩, .x R.eO, rfl⟩) de_int (i_tup (i := 0) g rfl)) g.nd) (cn
    (dss_ret (de_of (d' := .bl true) (de_and (k := true) (k' := true) (de_callB (id := "isinstance") (da_cons (de_var 7) (da_cons (de_glob (v := .ref CO) R.gO rfl (fun _ _ => .adr _)) da_nil)) (c_isiX g R.xO kit_same) T.isinstance (by decide +kernel)) (fun _ => de_one (de_of (d' := .bl true) (de_eqOwn g R.ceq (.ins _ _ _) R.T2.nf (de_excVal g R.xO (de_var 7)) (de_var 8) ⟨_, _, _, _, rfl, rfl, rfl⟩) (by simp)))) rfl)))))))))))))))))))), .rt⟩
end
end K62
set_option Elab.async false
set_option linter.all false
set_option maxRecDepth 100000
set_option maxHeartbeats 4000000
set_option autoImplicit false
namespace K62
open PySem PySem.Spec PyProof.Rows L2 Dl Cq
abbrev lwN : List Str := ["script", "place", "pot", "lap"]
theorem scLaw : FnScope lwN ["script"] (defScope sLaw) := ⟨rfl, rfl, rfl, by decide +kernel, rfl, by decide +kernel, by decide +kernel⟩
section
variable {X : Cx} {N : En} {W : WX} {f : As} {body : List Stmt}
theorem loop_lq {T α : Type} {mu : T → List M} {nx : α → T → T} {gd : α → D} (Q : α → Prop) (Δ : T → List (Option S) → Prop)
    (h : ∀ t a δ, Q a → Δ t δ → ∃ δt δ1, f (gd a) δ = some δt ∧ DSs X N W δt (mu t) body (.nx δ1 (mu (nx a t))) ∧ Δ (nx a t) δ1) :
    ∀ (l : List α) (δ : List (Option S)) (t : T), (∀ a ∈ l, Q a) → Δ t δ → ∃ δ', Loop X N W f body (l.map gd) δ (mu t) (.nx δ' (mu (l.foldl (fun t a => nx a t) t))) ∧ Δ (l.foldl (fun t a => nx a t) t) δ'
  | [], δ, t, _, h0 => ⟨δ, .nil, h0⟩
  | a :: l, δ, t, hq, h0 => by
    obtain ⟨δt, δ1, h2, h3, h4⟩ := h t a δ (hq a (by simp)) h0
    obtain ⟨δ', h5, h6⟩ := loop_lq Q Δ h l δ1 (nx a t) (fun b hb => hq b (by simp [hb])) h4
    exact ⟨δ', .next h2 h3 h5, h6⟩
end
theorem fold_app {α : Type} (g : α → M) : ∀ (l : List α) (t : List M), (l.foldl (fun t a => t ++ [g a]) t).take t.length = t ∧ t.length ≤ (l.foldl (fun t a => t ++ [g a]) t).length
  | [], t => ⟨List.take_length, Nat.le_refl _⟩
  | a :: l, t => by
    obtain ⟨h1, h2⟩ := fold_app g l (t ++ [g a])
    rw [List.foldl_cons]
    refine ⟨?_, by rw [List.length_append] at h2; exact Nat.le_trans (Nat.le_add_right _ _) h2⟩
    have := congrArg (List.take t.length) h1
    rw [List.take_take, List.length_append, Nat.min_eq_left (Nat.le_add_right _ _), List.take_append_of_le_length (Nat.le_refl _), List.take_length] at this
    exact this
theorem cells_le (ns : List Int) : cellsN ns ≤ 6 := by unfold cellsN; omega
def lapsP (p : Pot) : Pot := scanT (fun _ p => rightP p) (List.range 3) p
def rLaw (PT : Addr) : Rel := fun ss μ r μ' => ∃ (ns : List Int), ss = [.p (.sc ns)] ∧ μ[0]? = some (.tab PT qJ) ∧ r = .v (.p (.bl true)) ∧ μ' = μ
section
variable {P : Program} {w : World} {K : PySem.W.Frag} {mg : Str → Option Value} {base : Heap} {f C PT : Addr} {fd : FuncData}
theorem ok_law (F : Fun K "law" "law" sLaw f fd) (T : TM mg) (cc : Cf P w K mg base 1 "_law_cells" [] rCells) (cp : Cf P w K mg base 1 "_law_pot" [] rPot) (cr : Cf P w K mg base 16 "_law_right" [] (rRight C PT)) : FnOk P w K mg base (L2.CX P w) 17 f fd ["script"] (spD K (rLaw PT)) := by
  refine fn_D (k := 16) F scLaw (fun ss μ r μ' h => by obtain ⟨ns, rfl, _⟩ := h; rfl) ?_
  intro cdv A0 outer s0 H E N W ss μ r μ' g hA hR
  obtain ⟨ns, rfl, hT, rfl, rfl⟩ := hR
  have hc := cells_le ns
  have hone : ∀ (t : List M) (a : Nat) δ, a ≤ 6 → (t[0]? = some (.tab PT qJ) ∧ ∃ x1 x2 x3, δ = [some (.p (.sc ns)), x1, x2, x3]) → ∃ δt δ1, (asName 1) (inD a) δ = some δt ∧ DSs (cxOf (L2.CX P w) P w K mg base lwN "law" (defScope sLaw) f cdv A0 outer s0 H E) N W δt t (bodyOf sLaw 0) (.nx δ1 (t ++ [(lapsP (potF ns a)).m])) ∧ ((t ++ [(lapsP (potF ns a)).m])[0]? = some (.tab PT qJ) ∧ ∃ x1 x2 x3, δ1 = [some (.p (.sc ns)), x1, x2, x3]) := by
    rintro t a _ ha ⟨h0, x1, x2, x3, rfl⟩
    have app0 : ∀ m : M, (t ++ [m])[0]? = some (.tab PT qJ) := fun m => by
      have := (List.getElem?_eq_some_iff.mp h0).1
      rw [List.getElem?_append_left this]
      exact h0
    have at1 : ∀ m : M, (t ++ [m])[t.length]? = some m := fun m => by rw [List.getElem?_append_right (Nat.le_refl _), Nat.sub_self]; rfl
    have st1 : ∀ m m' : M, (t ++ [m]).set t.length m' = t ++ [m'] := fun m m' => by rw [List.set_append_right _ _ (Nat.le_refl _), Nat.sub_self]; rfl
    refine ⟨_, _, rfl, dss_cons (ds_set 2 (de_call g cp (da_cons (de_var 0) (da_cons (de_var 1) da_nil)) ⟨ns, a, by omega, rfl, rfl, rfl⟩) g.nd) (cn
      (dss_skip (dt_not (dt_val (de_callB (id := "all") (da_cons (s := .p (.lst ([true, true, true].map D.bl))) (de_lc g [("lap", 3)] (di_range1 (da_cons de_int da_nil) T.range (by decide)) (fun s H C cl fp => dg_name 3 g.nd) ?a1 (ok := blkOk_by (by rfl)) (hds := sz' (by show 3 ≤ _; decide))) da_nil) (c_all g) T.all (by decide +kernel)))) dss_nil)), app0 _, _, _, _, rfl⟩
    case a1 =>
      exact of_scan (T := Pot) (mu := fun p => t ++ [p.m]) (y := fun (_ : Nat) _ => D.bl true) (nx := fun _ p => rightP p) (fun m p => m ≤ 3 ∧ p.ok (630 - 210 * m)) (List.range 3) (potF ns a) ⟨by decide, (potF_ok ns a).mono (by decide)⟩ fun m p b _ hi => ⟨⟨by omega, (rightP_ok hi.2).mono (by omega)⟩, _, rfl, fun s H C cl fp N' hK g' => de_call g' cr (da_cons (de_var 2) da_nil) ⟨t.length, p, hi.2.mono (by omega), rfl, at1 _, app0 _, rfl, (st1 _ _).symm⟩⟩
  obtain ⟨δ', hlo, ⟨h0, x1, x2, x3, rfl⟩⟩ := loop_lq (X := cxOf (L2.CX P w) P w K mg base lwN "law" (defScope sLaw) f cdv A0 outer s0 H E) (N := N) (W := W) (f := asName 1) (body := bodyOf sLaw 0) (T := List M) (mu := fun t => t) (nx := fun (a : Nat) t => t ++ [(lapsP (potF ns a)).m]) (gd := inD)
    (fun a => a ≤ 6) (fun t δ => t[0]? = some (.tab PT qJ) ∧ ∃ x1 x2 x3, δ = [some (.p (.sc ns)), x1, x2, x3]) hone (List.range (cellsN ns)) [some (.p (.sc ns)), none, none, none] μ' (fun a ha => by have := List.mem_range.mp ha; omega) ⟨hT, _, _, _, rfl⟩
  refine ⟨_, dss_cons (ds_for g (di_of (di_lst g (de_call g cc (da_cons (de_var 0) (da_cons de_int da_nil)) ⟨ns, rfl, rfl, rfl⟩)) (rng_in _)) (dg_name 1 g.nd) hlo) (cn (dss_ret de_bl)), ?_⟩
  conv => rhs; rw [← (fold_app (fun a => (lapsP (potF ns a)).m) (List.range (cellsN ns)) μ').1]
  exact .rtT (Nat.le_refl _)
end
/-- the law's own promise, with the one table -/
theorem spD_lawT {K : PySem.W.Frag} {R : Rel} {H : Hp} {a PT : Addr} {q : Str} {ns : List Int} (hP : H PT = some (.tbl #[])) (nP : K.lookup PT = none) (hS : SqL K H a (ns.map V.int)) (hR : R [.p (.sc ns)] [.tab PT q] (.v (.p (.bl true))) [.tab PT q]) : spD K R [.ref a] H (fun v _ => v = .bl true) (fun _ _ _ => False) := by
  have hne : SqL K (fun b => if b = a then H b else none) a (ns.map V.int) := by
    rcases hS with (h | ⟨o, h⟩) | h
    · exact .inl (.inl ((if_pos rfl).trans h))
    · exact .inl (.inr ⟨o, (if_pos rfl).trans h⟩)
    · exact .inr h
  have haP : PT ≠ a := fun z => by
    subst z
    rcases hS with (h | ⟨o, h⟩) | ⟨o, its, n, h, _⟩
    · rw [hP] at h; cases h
    · rw [hP] at h; cases h
    · rw [nP] at h; cases h
  refine ⟨fun b => if b = a then H b else none, [PT], [.p (.sc ns)], [.tab PT q], .v (.p (.bl true)), [.tab PT q], hR,
    { sub := fun b o e => ?_, base := Same.refl _, new := fun b o e => .inl ⟨o, e⟩, keep := fun _ _ e _ => e, pre := ⟨[], rfl, fun _ h => by cases h⟩, nd := by simp, len := rfl, mus := fun j b m h1 h2 => ?_, fr := fun j b m h1 h2 h3 => ?_ },
    .cons (.sc hne) .nil, fun v F' A' H' _ rv => ?_⟩
  · by_cases hb : b = a
    · exact (if_pos hb).symm.trans e
    · cases (if_neg hb).symm.trans e
  · match j, h1, h2 with
    | 0, h1, h2 =>
      cases h1
      cases h2
      exact ⟨rfl, #[], hP, trivial, fun p v h => by simp [codeAmong] at h⟩
    | j + 1, h1, _ => simp at h1
  · match j, h1 with
    | 0, h1 =>
      cases h1
      exact if_neg haP
    | j + 1, h1 => simp at h1
  · have rv' : Rep K F' v (.bl true) := rv
    cases rv'
    rfl
end K62
set_option Elab.async false
set_option linter.all false
set_option maxRecDepth 100000
set_option maxHeartbeats 8000000
set_option autoImplicit false
namespace K62
open PySem PySem.Spec PyProof.Rows L2 Dl Cq
theorem scErr : FnScope ["self", "value"] ["self", "value"] (defScope sErr) := ⟨rfl, rfl, rfl, by decide +kernel, rfl, by decide +kernel, by decide +kernel⟩
theorem all_mk {l : PySem.W.OpenLaw} {w : World} {K : PySem.W.Frag} {h : Heap} {mg : Str → Option Value} {fa C CT CB CW CO CK qa ta fd0 fd1 fd2 fd3 fd4 fd5 fd6 fd7 fd8 fd9 fd10 fd11 fd12 fd13 fd14 fd15 fd16 fd17 fd18 fd19 fd20 fd21 fd22 fd23 fd24 fd25 fd26 fd27 fd28 fd29 fd30 fd31 fd32 fd33 fd34 ft0 fm0 fm1 fm2 fm3 fm4 fm5 fq0 fq1 fq2 fI cA PT : Addr} (X : K.In h) (G : h.Ns mainGlobals mg) (hfa : mg "law" = some (.ref fa))
    {odd0 and0 odd1 and1 odd2 and2 odd3 and3 odd4 and4 odd5 and5 odd6 and6 odd7 and7 odd8 and8 odd9 and9 odd10 and10 odd11 and11 odd12 and12 odd13 and13 odd14 and14 odd15 and15 odd16 and16 odd17 and17 odd18 and18 odd19 and19 odd20 and20 odd21 and21 odd22 and22 odd23 and23 odd24 and24 odd25 and25 odd26 and26 odd27 and27 odd28 and28 odd29 and29 odd30 and30 odd31 and31 odd32 and32 odd33 and33 odd34 and34 odt0 ant0 odm0 anm0 odm1 anm1 odm2 anm2 odm3 anm3 odm4 anm4 odm5 anm5 odq0 anq0 odq1 anq1 odq2 anq2 odI anI odc : Option Addr} {sld0 sld1 sld2 sld3 sld4 sld5 sld6 sld7 sld8 sld9 sld10 sld11 sld12 sld13 sld14 sld15 sld16 sld17 sld18 sld19 sld20 sld21 sld22 sld23 sld24 sld25 sld26 sld27 sld28 sld29 sld30 sld31 sld32 sld33 sld34 slt0 slm0 slm1 slm2 slm3 slm4 slm5 slq0 slq1 slq2 slI slc : Array (Option Value)} {ocd0 kVd0 dcd0 pmd0 cdd0 ctd0 ocd1 kVd1 dcd1 pmd1 cdd1 ctd1 ocd2 kVd2 dcd2 pmd2 cdd2 ctd2 ocd3 kVd3 dcd3 pmd3 cdd3 ctd3 ocd4 kVd4 dcd4 pmd4 cdd4 ctd4 ocd5 kVd5 dcd5 pmd5 cdd5 ctd5 ocd6 kVd6 dcd6 pmd6 cdd6 ctd6 ocd7 kVd7 dcd7 pmd7 cdd7 ctd7 ocd8 kVd8 dcd8 pmd8 cdd8 ctd8 ocd9 kVd9 dcd9 pmd9 cdd9 ctd9 ocd10 kVd10 dcd10 pmd10 cdd10 ctd10 ocd11 kVd11 dcd11 pmd11 cdd11 ctd11 ocd12 kVd12 dcd12 pmd12 cdd12 ctd12 ocd13 kVd13 dcd13 pmd13 cdd13 ctd13 ocd14 kVd14 dcd14 pmd14 cdd14 ctd14 ocd15 kVd15 dcd15 pmd15 cdd15 ctd15 ocd16 kVd16 dcd16 pmd16 cdd16 ctd16 ocd17 kVd17 dcd17 pmd17 cdd17 ctd17 ocd18 kVd18 dcd18 pmd18 cdd18 ctd18 ocd19 kVd19 dcd19 pmd19 cdd19 ctd19 ocd20 kVd20 dcd20 pmd20 cdd20 ctd20 ocd21 kVd21 dcd21 pmd21 cdd21 ctd21 ocd22 kVd22 dcd22 pmd22 cdd22 ctd22 ocd23 kVd23 dcd23 pmd23 cdd23 ctd23 ocd24 kVd24 dcd24 pmd24 cdd24 ctd24 ocd25 kVd25 dcd25 pmd25 cdd25 ctd25 ocd26 kVd26 dcd26 pmd26 cdd26 ctd26 ocd27 kVd27 dcd27 pmd27 cdd27 ctd27 ocd28 kVd28 dcd28 pmd28 cdd28 ctd28 ocd29 kVd29 dcd29 pmd29 cdd29 ctd29 ocd30 kVd30 dcd30 pmd30 cdd30 ctd30 ocd31 kVd31 dcd31 pmd31 cdd31 ctd31 ocd32 kVd32 dcd32 pmd32 cdd32 ctd32 ocd33 kVd33 dcd33 pmd33 ctd33 ocd34 kVd34 dcd34 pmd34 cdd34 ctd34 oct0 kVt0 dct0 pmt0 cdt0 ctt0 ocm0 kVm0 dcm0 pmm0 cdm0 ctm0 ocm1 kVm1 dcm1 pmm1 cdm1 ctm1 ocm2 kVm2 dcm2 pmm2 cdm2 ctm2 ocm3 kVm3 dcm3 pmm3 cdm3 ctm3 ocm4 kVm4 dcm4 pmm4 cdm4 ctm4 ocm5 kVm5 dcm5 pmm5 cdm5 ctm5 ocq0 kVq0 dcq0 pmq0 cdq0 ctq0 ocq1 kVq1 dcq1 pmq1 cdq1 ctq1 ocq2 kVq2 dcq2 pmq2 cdq2 ctq2 ocI kVI dcI pmI cdI ctI occ : Value} {tL tM uXY vXY uXZ vXZ uYX vYX uYZ vYZ uZX vZX uZY vZY : Tok} {vsc : Array Value} {esq est : Array DictEntry} {nq nt : Nat} {nmCB qCB : Str} {NCB : Addr} {bsCB subCB : List Value} {snCB : List Str} {abCB : Bool} {colCB : Option Bool} {ddCB : Option Addr} {x0CB x1CB x2CB x3CB x5CB : Option Value} {nmCW qCW : Str} {NCW : Addr} {bsCW subCW : List Value} {snCW : List Str} {abCW : Bool} {colCW : Option Bool} {ddCW : Option Addr} {x0CW x1CW x2CW x3CW x5CW : Option Value} {nmCO qCO : Str} {NCO : Addr} {bsCO subCO : List Value} {snCO : List Str} {abCO : Bool} {colCO : Option Bool} {ddCO : Option Addr} {x0CO x1CO x2CO x3CO x5CO : Option Value}
    (tabs : ∀ (c P : Addr), PySem.W.tabIn K "_law_right" = some (c, P) → PySem.W.CodeHd h c P ∧ h.get? P = some (PySem.W.tabObj #[]))
    (ad0 : PySem.W.nsIn K mainGlobals "need_word" = some (some (.ref fd0)))
    (ld0 : K.lookup fd0 = some ⟨ocd0, odd0, .func (PySem.W.fnOf "need_word" "need_word" (defArgs sNeed) (defBody sNeed) (defScope sNeed) .none kVd0 dcd0 pmd0 and0 cdd0 ctd0), sld0⟩)
    (cd0 : PySem.W.codeIn K cdd0 "need_word" = true)
    (kd0 : PySem.W.keepIn K (.ref fd0) = true)
    (ad1 : PySem.W.nsIn K mainGlobals "is_word_of" = some (some (.ref fd1)))
    (ld1 : K.lookup fd1 = some ⟨ocd1, odd1, .func (PySem.W.fnOf "is_word_of" "is_word_of" (defArgs sIsWordOf) (defBody sIsWordOf) (defScope sIsWordOf) .none kVd1 dcd1 pmd1 and1 cdd1 ctd1), sld1⟩)
    (cd1 : PySem.W.codeIn K cdd1 "is_word_of" = true)
    (kd1 : PySem.W.keepIn K (.ref fd1) = true)
    (ad2 : PySem.W.nsIn K mainGlobals "are_letters" = some (some (.ref fd2)))
    (ld2 : K.lookup fd2 = some ⟨ocd2, odd2, .func (PySem.W.fnOf "are_letters" "are_letters" (defArgs sAre) (defBody sAre) (defScope sAre) .none kVd2 dcd2 pmd2 and2 cdd2 ctd2), sld2⟩)
    (cd2 : PySem.W.codeIn K cdd2 "are_letters" = true)
    (kd2 : PySem.W.keepIn K (.ref fd2) = true)
    (ad3 : PySem.W.nsIn K mainGlobals "signed_text" = some (some (.ref fd3)))
    (ld3 : K.lookup fd3 = some ⟨ocd3, odd3, .func (PySem.W.fnOf "signed_text" "signed_text" (defArgs sSigned) (defBody sSigned) (defScope sSigned) .none kVd3 dcd3 pmd3 and3 cdd3 ctd3), sld3⟩)
    (cd3 : PySem.W.codeIn K cdd3 "signed_text" = true)
    (kd3 : PySem.W.keepIn K (.ref fd3) = true)
    (ad4 : PySem.W.nsIn K mainGlobals "quarters" = some (some (.ref fd4)))
    (ld4 : K.lookup fd4 = some ⟨ocd4, odd4, .func (PySem.W.fnOf "quarters" "quarters" (defArgs sQuarters) (defBody sQuarters) (defScope sQuarters) .none kVd4 dcd4 pmd4 and4 cdd4 ctd4), sld4⟩)
    (cd4 : PySem.W.codeIn K cdd4 "quarters" = true)
    (kd4 : PySem.W.keepIn K (.ref fd4) = true)
    (ad5 : PySem.W.nsIn K mainGlobals "made_letters" = some (some (.ref fd5)))
    (ld5 : K.lookup fd5 = some ⟨ocd5, odd5, .func (PySem.W.fnOf "made_letters" "made_letters" (defArgs sMade) (defBody sMade) (defScope sMade) .none kVd5 dcd5 pmd5 and5 cdd5 ctd5), sld5⟩)
    (cd5 : PySem.W.codeIn K cdd5 "made_letters" = true)
    (kd5 : PySem.W.keepIn K (.ref fd5) = true)
    (ad6 : PySem.W.nsIn K mainGlobals "_made_letter" = some (some (.ref fd6)))
    (ld6 : K.lookup fd6 = some ⟨ocd6, odd6, .func (PySem.W.fnOf "_made_letter" "_made_letter" (defArgs sLetter) (defBody sLetter) (defScope sLetter) .none kVd6 dcd6 pmd6 and6 cdd6 ctd6), sld6⟩)
    (cd6 : PySem.W.codeIn K cdd6 "_made_letter" = true)
    (kd6 : PySem.W.keepIn K (.ref fd6) = true)
    (ad7 : PySem.W.nsIn K mainGlobals "_are_words" = some (some (.ref fd7)))
    (ld7 : K.lookup fd7 = some ⟨ocd7, odd7, .func (PySem.W.fnOf "_are_words" "_are_words" (defArgs sAreWords) (defBody sAreWords) (defScope sAreWords) .none kVd7 dcd7 pmd7 and7 cdd7 ctd7), sld7⟩)
    (cd7 : PySem.W.codeIn K cdd7 "_are_words" = true)
    (kd7 : PySem.W.keepIn K (.ref fd7) = true)
    (ad8 : PySem.W.nsIn K mainGlobals "_products" = some (some (.ref fd8)))
    (ld8 : K.lookup fd8 = some ⟨ocd8, odd8, .func (PySem.W.fnOf "_products" "_products" (defArgs sProducts) (defBody sProducts) (defScope sProducts) .none kVd8 dcd8 pmd8 and8 cdd8 ctd8), sld8⟩)
    (cd8 : PySem.W.codeIn K cdd8 "_products" = true)
    (kd8 : PySem.W.keepIn K (.ref fd8) = true)
    (ad9 : PySem.W.nsIn K mainGlobals "_law_pot" = some (some (.ref fd9)))
    (ld9 : K.lookup fd9 = some ⟨ocd9, odd9, .func (PySem.W.fnOf "_law_pot" "_law_pot" (defArgs sPot) (defBody sPot) (defScope sPot) .none kVd9 dcd9 pmd9 and9 cdd9 ctd9), sld9⟩)
    (cd9 : PySem.W.codeIn K cdd9 "_law_pot" = true)
    (kd9 : PySem.W.keepIn K (.ref fd9) = true)
    (ad10 : PySem.W.nsIn K mainGlobals "_law_take" = some (some (.ref fd10)))
    (ld10 : K.lookup fd10 = some ⟨ocd10, odd10, .func (PySem.W.fnOf "_law_take" "_law_take" (defArgs sTake) (defBody sTake) (defScope sTake) .none kVd10 dcd10 pmd10 and10 cdd10 ctd10), sld10⟩)
    (cd10 : PySem.W.codeIn K cdd10 "_law_take" = true)
    (kd10 : PySem.W.keepIn K (.ref fd10) = true)
    (ad11 : PySem.W.nsIn K mainGlobals "_law_of" = some (some (.ref fd11)))
    (ld11 : K.lookup fd11 = some ⟨ocd11, odd11, .func (PySem.W.fnOf "_law_of" "_law_of" (defArgs sOf) (defBody sOf) (defScope sOf) .none kVd11 dcd11 pmd11 and11 cdd11 ctd11), sld11⟩)
    (cd11 : PySem.W.codeIn K cdd11 "_law_of" = true)
    (kd11 : PySem.W.keepIn K (.ref fd11) = true)
    (ad12 : PySem.W.nsIn K mainGlobals "_law_some" = some (some (.ref fd12)))
    (ld12 : K.lookup fd12 = some ⟨ocd12, odd12, .func (PySem.W.fnOf "_law_some" "_law_some" (defArgs sSome) (defBody sSome) (defScope sSome) .none kVd12 dcd12 pmd12 and12 cdd12 ctd12), sld12⟩)
    (cd12 : PySem.W.codeIn K cdd12 "_law_some" = true)
    (kd12 : PySem.W.keepIn K (.ref fd12) = true)
    (ad13 : PySem.W.nsIn K mainGlobals "_law_cells" = some (some (.ref fd13)))
    (ld13 : K.lookup fd13 = some ⟨ocd13, odd13, .func (PySem.W.fnOf "_law_cells" "_law_cells" (defArgs sCells) (defBody sCells) (defScope sCells) .none kVd13 dcd13 pmd13 and13 cdd13 ctd13), sld13⟩)
    (cd13 : PySem.W.codeIn K cdd13 "_law_cells" = true)
    (kd13 : PySem.W.keepIn K (.ref fd13) = true)
    (ad14 : PySem.W.nsIn K mainGlobals "_law_heard" = some (some (.ref fd14)))
    (ld14 : K.lookup fd14 = some ⟨ocd14, odd14, .func (PySem.W.fnOf "_law_heard" "_law_heard" (defArgs sHeard) (defBody sHeard) (defScope sHeard) .none kVd14 dcd14 pmd14 and14 cdd14 ctd14), sld14⟩)
    (cd14 : PySem.W.codeIn K cdd14 "_law_heard" = true)
    (kd14 : PySem.W.keepIn K (.ref fd14) = true)
    (ad15 : PySem.W.nsIn K mainGlobals "_law_odd" = some (some (.ref fd15)))
    (ld15 : K.lookup fd15 = some ⟨ocd15, odd15, .func (PySem.W.fnOf "_law_odd" "_law_odd" (defArgs sOdd) (defBody sOdd) (defScope sOdd) .none kVd15 dcd15 pmd15 and15 cdd15 ctd15), sld15⟩)
    (cd15 : PySem.W.codeIn K cdd15 "_law_odd" = true)
    (kd15 : PySem.W.keepIn K (.ref fd15) = true)
    (ad16 : PySem.W.nsIn K mainGlobals "_law_word_text" = some (some (.ref fd16)))
    (ld16 : K.lookup fd16 = some ⟨ocd16, odd16, .func (PySem.W.fnOf "_law_word_text" "_law_word_text" (defArgs sWText) (defBody sWText) (defScope sWText) .none kVd16 dcd16 pmd16 and16 cdd16 ctd16), sld16⟩)
    (cd16 : PySem.W.codeIn K cdd16 "_law_word_text" = true)
    (kd16 : PySem.W.keepIn K (.ref fd16) = true)
    (ad17 : PySem.W.nsIn K mainGlobals "_law_quarters" = some (some (.ref fd17)))
    (ld17 : K.lookup fd17 = some ⟨ocd17, odd17, .func (PySem.W.fnOf "_law_quarters" "_law_quarters" (defArgs sLQuarters) (defBody sLQuarters) (defScope sLQuarters) .none kVd17 dcd17 pmd17 and17 cdd17 ctd17), sld17⟩)
    (cd17 : PySem.W.codeIn K cdd17 "_law_quarters" = true)
    (kd17 : PySem.W.keepIn K (.ref fd17) = true)
    (ad18 : PySem.W.nsIn K mainGlobals "_law_do_pass" = some (some (.ref fd18)))
    (ld18 : K.lookup fd18 = some ⟨ocd18, odd18, .func (PySem.W.fnOf "_law_do_pass" "_law_do_pass" (defArgs sDoPass) (defBody sDoPass) (defScope sDoPass) .none kVd18 dcd18 pmd18 and18 cdd18 ctd18), sld18⟩)
    (cd18 : PySem.W.codeIn K cdd18 "_law_do_pass" = true)
    (kd18 : PySem.W.keepIn K (.ref fd18) = true)
    (ad19 : PySem.W.nsIn K mainGlobals "_law_made" = some (some (.ref fd19)))
    (ld19 : K.lookup fd19 = some ⟨ocd19, odd19, .func (PySem.W.fnOf "_law_made" "_law_made" (defArgs sLMade) (defBody sLMade) (defScope sLMade) .none kVd19 dcd19 pmd19 and19 cdd19 ctd19), sld19⟩)
    (cd19 : PySem.W.codeIn K cdd19 "_law_made" = true)
    (kd19 : PySem.W.keepIn K (.ref fd19) = true)
    (ad20 : PySem.W.nsIn K mainGlobals "_law_product" = some (some (.ref fd20)))
    (ld20 : K.lookup fd20 = some ⟨ocd20, odd20, .func (PySem.W.fnOf "_law_product" "_law_product" (defArgs sProduct) (defBody sProduct) (defScope sProduct) .none kVd20 dcd20 pmd20 and20 cdd20 ctd20), sld20⟩)
    (cd20 : PySem.W.codeIn K cdd20 "_law_product" = true)
    (kd20 : PySem.W.keepIn K (.ref fd20) = true)
    (ad21 : PySem.W.nsIn K mainGlobals "_law_lone" = some (some (.ref fd21)))
    (ld21 : K.lookup fd21 = some ⟨ocd21, odd21, .func (PySem.W.fnOf "_law_lone" "_law_lone" (defArgs sLLone) (defBody sLLone) (defScope sLLone) .none kVd21 dcd21 pmd21 and21 cdd21 ctd21), sld21⟩)
    (cd21 : PySem.W.codeIn K cdd21 "_law_lone" = true)
    (kd21 : PySem.W.keepIn K (.ref fd21) = true)
    (ad22 : PySem.W.nsIn K mainGlobals "_law_drawn_word" = some (some (.ref fd22)))
    (ld22 : K.lookup fd22 = some ⟨ocd22, odd22, .func (PySem.W.fnOf "_law_drawn_word" "_law_drawn_word" (defArgs sDWord) (defBody sDWord) (defScope sDWord) .none kVd22 dcd22 pmd22 and22 cdd22 ctd22), sld22⟩)
    (cd22 : PySem.W.codeIn K cdd22 "_law_drawn_word" = true)
    (kd22 : PySem.W.keepIn K (.ref fd22) = true)
    (ad23 : PySem.W.nsIn K mainGlobals "_law_gate" = some (some (.ref fd23)))
    (ld23 : K.lookup fd23 = some ⟨ocd23, odd23, .func (PySem.W.fnOf "_law_gate" "_law_gate" (defArgs sGate) (defBody sGate) (defScope sGate) .none kVd23 dcd23 pmd23 and23 cdd23 ctd23), sld23⟩)
    (cd23 : PySem.W.codeIn K cdd23 "_law_gate" = true)
    (kd23 : PySem.W.keepIn K (.ref fd23) = true)
    (ad24 : PySem.W.nsIn K mainGlobals "_law_quarters_of" = some (some (.ref fd24)))
    (ld24 : K.lookup fd24 = some ⟨ocd24, odd24, .func (PySem.W.fnOf "_law_quarters_of" "_law_quarters_of" (defArgs sQuartersOf) (defBody sQuartersOf) (defScope sQuartersOf) .none kVd24 dcd24 pmd24 and24 cdd24 ctd24), sld24⟩)
    (cd24 : PySem.W.codeIn K cdd24 "_law_quarters_of" = true)
    (kd24 : PySem.W.keepIn K (.ref fd24) = true)
    (ad25 : PySem.W.nsIn K mainGlobals "_law_led_fixed" = some (some (.ref fd25)))
    (ld25 : K.lookup fd25 = some ⟨ocd25, odd25, .func (PySem.W.fnOf "_law_led_fixed" "_law_led_fixed" (defArgs sLedFixed) (defBody sLedFixed) (defScope sLedFixed) .none kVd25 dcd25 pmd25 and25 cdd25 ctd25), sld25⟩)
    (cd25 : PySem.W.codeIn K cdd25 "_law_led_fixed" = true)
    (kd25 : PySem.W.keepIn K (.ref fd25) = true)
    (ad26 : PySem.W.nsIn K mainGlobals "_law_start_words" = some (some (.ref fd26)))
    (ld26 : K.lookup fd26 = some ⟨ocd26, odd26, .func (PySem.W.fnOf "_law_start_words" "_law_start_words" (defArgs sStartWords) (defBody sStartWords) (defScope sStartWords) .none kVd26 dcd26 pmd26 and26 cdd26 ctd26), sld26⟩)
    (cd26 : PySem.W.codeIn K cdd26 "_law_start_words" = true)
    (kd26 : PySem.W.keepIn K (.ref fd26) = true)
    (ad27 : PySem.W.nsIn K mainGlobals "_law_all_letters" = some (some (.ref fd27)))
    (ld27 : K.lookup fd27 = some ⟨ocd27, odd27, .func (PySem.W.fnOf "_law_all_letters" "_law_all_letters" (defArgs sAllLetters) (defBody sAllLetters) (defScope sAllLetters) .none kVd27 dcd27 pmd27 and27 cdd27 ctd27), sld27⟩)
    (cd27 : PySem.W.codeIn K cdd27 "_law_all_letters" = true)
    (kd27 : PySem.W.keepIn K (.ref fd27) = true)
    (ad28 : PySem.W.nsIn K mainGlobals "_law_group" = some (some (.ref fd28)))
    (ld28 : K.lookup fd28 = some ⟨ocd28, odd28, .func (PySem.W.fnOf "_law_group" "_law_group" (defArgs sGroup) (defBody sGroup) (defScope sGroup) .none kVd28 dcd28 pmd28 and28 cdd28 ctd28), sld28⟩)
    (cd28 : PySem.W.codeIn K cdd28 "_law_group" = true)
    (kd28 : PySem.W.keepIn K (.ref fd28) = true)
    (ad29 : PySem.W.nsIn K mainGlobals "_law_other_words" = some (some (.ref fd29)))
    (ld29 : K.lookup fd29 = some ⟨ocd29, odd29, .func (PySem.W.fnOf "_law_other_words" "_law_other_words" (defArgs sOtherWords) (defBody sOtherWords) (defScope sOtherWords) .none kVd29 dcd29 pmd29 and29 cdd29 ctd29), sld29⟩)
    (cd29 : PySem.W.codeIn K cdd29 "_law_other_words" = true)
    (kd29 : PySem.W.keepIn K (.ref fd29) = true)
    (ad30 : PySem.W.nsIn K mainGlobals "_law_are_values_right" = some (some (.ref fd30)))
    (ld30 : K.lookup fd30 = some ⟨ocd30, odd30, .func (PySem.W.fnOf "_law_are_values_right" "_law_are_values_right" (defArgs sValuesRight) (defBody sValuesRight) (defScope sValuesRight) .none kVd30 dcd30 pmd30 and30 cdd30 ctd30), sld30⟩)
    (cd30 : PySem.W.codeIn K cdd30 "_law_are_values_right" = true)
    (kd30 : PySem.W.keepIn K (.ref fd30) = true)
    (ad31 : PySem.W.nsIn K mainGlobals "_law_made_words" = some (some (.ref fd31)))
    (ld31 : K.lookup fd31 = some ⟨ocd31, odd31, .func (PySem.W.fnOf "_law_made_words" "_law_made_words" (defArgs sMadeWords) (defBody sMadeWords) (defScope sMadeWords) .none kVd31 dcd31 pmd31 and31 cdd31 ctd31), sld31⟩)
    (cd31 : PySem.W.codeIn K cdd31 "_law_made_words" = true)
    (kd31 : PySem.W.keepIn K (.ref fd31) = true)
    (ad32 : PySem.W.nsIn K mainGlobals "_law_far_word" = some (some (.ref fd32)))
    (ld32 : K.lookup fd32 = some ⟨ocd32, odd32, .func (PySem.W.fnOf "_law_far_word" "_law_far_word" (defArgs sFarWord) (defBody sFarWord) (defScope sFarWord) .none kVd32 dcd32 pmd32 and32 cdd32 ctd32), sld32⟩)
    (cd32 : PySem.W.codeIn K cdd32 "_law_far_word" = true)
    (kd32 : PySem.W.keepIn K (.ref fd32) = true)
    (ad33 : PySem.W.nsIn K mainGlobals "_law_right" = some (some (.ref fd33)))
    (ld33 : K.lookup fd33 = some ⟨ocd33, odd33, .func (PySem.W.fnOf "_law_right" "_law_right" (defArgs sRight) (defBody sRight) (defScope sRight) .none kVd33 dcd33 pmd33 and33 (.ref cA) ctd33), sld33⟩)
    (cd33 : PySem.W.codeIn K (.ref cA) "_law_right" = true)
    (kd33 : PySem.W.keepIn K (.ref fd33) = true)
    (ad34 : PySem.W.nsIn K mainGlobals "law" = some (some (.ref fd34)))
    (ld34 : K.lookup fd34 = some ⟨ocd34, odd34, .func (PySem.W.fnOf "law" "law" (defArgs sLaw) (defBody sLaw) (defScope sLaw) .none kVd34 dcd34 pmd34 and34 cdd34 ctd34), sld34⟩)
    (cd34 : PySem.W.codeIn K cdd34 "law" = true)
    (kd34 : PySem.W.keepIn K (.ref fd34) = true)
    (hn : PySem.W.specialIn K (.builtin "object.__class__") "__get__" = some (some (.builtin "getset_descriptor.__get__")))
    (ht : PySem.W.takesIn K (.builtin "object.__class__") = some true)
    (aC : PySem.W.nsIn K mainGlobals "Word" = some (some (.ref C)))
    (pgC : PySem.W.plainGet K C Str.empty = true)
    (hdC : PySem.W.hasDictIn K C = true)
    (poC : PySem.W.plainOver K C = true)
    (saC : PySem.W.findIn K (.ref C) "__setattr__" = some (some (.builtin "object.__setattr__")))
    (mkC : PySem.W.makesIn K C = true)
    (kC : PySem.W.keepIn K (.ref C) = true)
    (haC : PySem.W.findIn K (.ref C) "__class__" = some (some (.builtin "object.__class__")))
    (hmC : PySem.W.mroIn K C (.type "object") = some true)
    (nC0 : PySem.W.findIn K (.ref C) "letters" = some none)
    (nC1 : PySem.W.findIn K (.ref C) "sign" = some none)
    (aCT : PySem.W.nsIn K mainGlobals "Start" = some (some (.ref CT)))
    (pgCT : PySem.W.plainGet K CT Str.empty = true)
    (hdCT : PySem.W.hasDictIn K CT = true)
    (poCT : PySem.W.plainOver K CT = true)
    (saCT : PySem.W.findIn K (.ref CT) "__setattr__" = some (some (.builtin "object.__setattr__")))
    (mkCT : PySem.W.makesIn K CT = true)
    (kCT : PySem.W.keepIn K (.ref CT) = true)
    (haCT : PySem.W.findIn K (.ref CT) "__class__" = some (some (.builtin "object.__class__")))
    (hmCT : PySem.W.mroIn K CT (.type "object") = some true)
    (nCT0 : PySem.W.findIn K (.ref CT) "words" = some none)
    (nCT1 : PySem.W.findIn K (.ref CT) "wires" = some none)
    (nCT2 : PySem.W.findIn K (.ref CT) "signs" = some none)
    (sf : PySem.W.selfFirst K C = true)
    (nf : PySem.W.notFirst K C (.ref C) = true)
    (ne : PySem.W.findIn K (.ref C) "__ne__" = some (some (.builtin "object.__ne__")))
    (at0 : PySem.W.findIn K (.ref CT) "__init__" = some (some (.ref ft0)))
    (it0 : PySem.W.isFn K (.ref ft0) = true)
    (lt0 : K.lookup ft0 = some ⟨oct0, odt0, .func (PySem.W.fnOf "__init__" "Start.__init__" (defArgs sSInit) (defBody sSInit) (defScope sSInit) .none kVt0 dct0 pmt0 ant0 cdt0 ctt0), slt0⟩)
    (ct0 : PySem.W.codeIn K cdt0 "Start.__init__" = true)
    (kt0 : PySem.W.keepIn K (.ref ft0) = true)
    (am0 : PySem.W.findIn K (.ref C) "__init__" = some (some (.ref fm0)))
    (im0 : PySem.W.isFn K (.ref fm0) = true)
    (lm0 : K.lookup fm0 = some ⟨ocm0, odm0, .func (PySem.W.fnOf "__init__" "Word.__init__" (defArgs sInit) (defBody sInit) (defScope sInit) .none kVm0 dcm0 pmm0 anm0 cdm0 ctm0), slm0⟩)
    (cm0 : PySem.W.codeIn K cdm0 "Word.__init__" = true)
    (km0 : PySem.W.keepIn K (.ref fm0) = true)
    (am1 : PySem.W.findIn K (.ref C) "__len__" = some (some (.ref fm1)))
    (im1 : PySem.W.isFn K (.ref fm1) = true)
    (lm1 : K.lookup fm1 = some ⟨ocm1, odm1, .func (PySem.W.fnOf "__len__" "Word.__len__" (defArgs sLen) (defBody sLen) (defScope sLen) .none kVm1 dcm1 pmm1 anm1 cdm1 ctm1), slm1⟩)
    (cm1 : PySem.W.codeIn K cdm1 "Word.__len__" = true)
    (km1 : PySem.W.keepIn K (.ref fm1) = true)
    (am2 : PySem.W.findIn K (.ref C) "__eq__" = some (some (.ref fm2)))
    (im2 : PySem.W.isFn K (.ref fm2) = true)
    (lm2 : K.lookup fm2 = some ⟨ocm2, odm2, .func (PySem.W.fnOf "__eq__" "Word.__eq__" (defArgs sEq) (defBody sEq) (defScope sEq) .none kVm2 dcm2 pmm2 anm2 cdm2 ctm2), slm2⟩)
    (cm2 : PySem.W.codeIn K cdm2 "Word.__eq__" = true)
    (km2 : PySem.W.keepIn K (.ref fm2) = true)
    (am3 : PySem.W.findIn K (.ref C) "__mul__" = some (some (.ref fm3)))
    (im3 : PySem.W.isFn K (.ref fm3) = true)
    (lm3 : K.lookup fm3 = some ⟨ocm3, odm3, .func (PySem.W.fnOf "__mul__" "Word.__mul__" (defArgs sMul) (defBody sMul) (defScope sMul) .none kVm3 dcm3 pmm3 anm3 cdm3 ctm3), slm3⟩)
    (cm3 : PySem.W.codeIn K cdm3 "Word.__mul__" = true)
    (km3 : PySem.W.keepIn K (.ref fm3) = true)
    (am4 : PySem.W.findIn K (.ref C) "passes" = some (some (.ref fm4)))
    (im4 : PySem.W.isFn K (.ref fm4) = true)
    (lm4 : K.lookup fm4 = some ⟨ocm4, odm4, .func (PySem.W.fnOf "passes" "Word.passes" (defArgs sPasses) (defBody sPasses) (defScope sPasses) .none kVm4 dcm4 pmm4 anm4 cdm4 ctm4), slm4⟩)
    (cm4 : PySem.W.codeIn K cdm4 "Word.passes" = true)
    (km4 : PySem.W.keepIn K (.ref fm4) = true)
    (am5 : PySem.W.findIn K (.ref C) "_beside" = some (some (.ref fm5)))
    (im5 : PySem.W.isFn K (.ref fm5) = true)
    (lm5 : K.lookup fm5 = some ⟨ocm5, odm5, .func (PySem.W.fnOf "_beside" "Word._beside" (defArgs sBeside) (defBody sBeside) (defScope sBeside) .none kVm5 dcm5 pmm5 anm5 cdm5 ctm5), slm5⟩)
    (cm5 : PySem.W.codeIn K cdm5 "Word._beside" = true)
    (km5 : PySem.W.keepIn K (.ref fm5) = true)
    (aq0 : PySem.W.findIn K (.ref CT) "__eq__" = some (some (.ref fq0)))
    (iq0 : PySem.W.isFn K (.ref fq0) = true)
    (lq0 : K.lookup fq0 = some ⟨ocq0, odq0, .func (PySem.W.fnOf "__eq__" "Start.__eq__" (defArgs sSEq) (defBody sSEq) (defScope sSEq) .none kVq0 dcq0 pmq0 anq0 cdq0 ctq0), slq0⟩)
    (cq0 : PySem.W.codeIn K cdq0 "Start.__eq__" = true)
    (kq0 : PySem.W.keepIn K (.ref fq0) = true)
    (aq1 : PySem.W.findIn K (.ref CT) "sign_of" = some (some (.ref fq1)))
    (iq1 : PySem.W.isFn K (.ref fq1) = true)
    (lq1 : K.lookup fq1 = some ⟨ocq1, odq1, .func (PySem.W.fnOf "sign_of" "Start.sign_of" (defArgs sSignOf) (defBody sSignOf) (defScope sSignOf) .none kVq1 dcq1 pmq1 anq1 cdq1 ctq1), slq1⟩)
    (cq1 : PySem.W.codeIn K cdq1 "Start.sign_of" = true)
    (kq1 : PySem.W.keepIn K (.ref fq1) = true)
    (aq2 : PySem.W.findIn K (.ref CT) "like" = some (some (.ref fq2)))
    (iq2 : PySem.W.isFn K (.ref fq2) = true)
    (lq2 : K.lookup fq2 = some ⟨ocq2, odq2, .func (PySem.W.fnOf "like" "Start.like" (defArgs sLike) (defBody sLike) (defScope sLike) .none kVq2 dcq2 pmq2 anq2 cdq2 ctq2), slq2⟩)
    (cq2 : PySem.W.codeIn K cdq2 "Start.like" = true)
    (kq2 : PySem.W.keepIn K (.ref fq2) = true)
    (z_len : PySem.W.nsIn K mainGlobals "len" = some none)
    (z_int : PySem.W.nsIn K mainGlobals "int" = some none)
    (z_abs : PySem.W.nsIn K mainGlobals "abs" = some none)
    (z_max : PySem.W.nsIn K mainGlobals "max" = some none)
    (z_min : PySem.W.nsIn K mainGlobals "min" = some none)
    (z_range : PySem.W.nsIn K mainGlobals "range" = some none)
    (z_list : PySem.W.nsIn K mainGlobals "list" = some none)
    (z_all : PySem.W.nsIn K mainGlobals "all" = some none)
    (z_any : PySem.W.nsIn K mainGlobals "any" = some none)
    (z_isinstance : PySem.W.nsIn K mainGlobals "isinstance" = some none)
    (z_str : PySem.W.nsIn K mainGlobals "str" = some none)
    (z_tuple : PySem.W.nsIn K mainGlobals "tuple" = some none)
    (z_enumerate : PySem.W.nsIn K mainGlobals "enumerate" = some none)
    (z_zip : PySem.W.nsIn K mainGlobals "zip" = some none)
    (z_set : PySem.W.nsIn K mainGlobals "set" = some none)
    (z_repr : PySem.W.nsIn K mainGlobals "repr" = some none)
    (z_sum : PySem.W.nsIn K mainGlobals "sum" = some none)
    (z_bool : PySem.W.nsIn K mainGlobals "bool" = some none)
    (kw_non : PySem.W.kitOne K (.type "NoneType") (.ref C) = some false)
    (kw_bl : PySem.W.kitOne K (.type "bool") (.ref C) = some false)
    (kw_int : PySem.W.kitOne K (.type "int") (.ref C) = some false)
    (kw_str : PySem.W.kitOne K (.type "str") (.ref C) = some false)
    (kw_tup : PySem.W.kitOne K (.type "tuple") (.ref C) = some false)
    (kw_lst : PySem.W.kitOne K (.type "list") (.ref C) = some false)
    (kw_dic : PySem.W.kitOne K (.type "dict") (.ref C) = some false)
    (kt_non : PySem.W.kitOne K (.type "NoneType") (.type "tuple") = some false)
    (kt_bl : PySem.W.kitOne K (.type "bool") (.type "tuple") = some false)
    (kt_int : PySem.W.kitOne K (.type "int") (.type "tuple") = some false)
    (kt_str : PySem.W.kitOne K (.type "str") (.type "tuple") = some false)
    (kt_lst : PySem.W.kitOne K (.type "list") (.type "tuple") = some false)
    (kt_dic : PySem.W.kitOne K (.type "dict") (.type "tuple") = some false)
    (kt_wd : PySem.W.kitOne K (.ref C) (.type "tuple") = some false)
    (kz_non : PySem.W.kitOne K (.type "NoneType") (.ref CT) = some false)
    (nz_non : PySem.W.notFirst K CT (.type "NoneType") = true)
    (kz_bl : PySem.W.kitOne K (.type "bool") (.ref CT) = some false)
    (nz_bl : PySem.W.notFirst K CT (.type "bool") = true)
    (kz_int : PySem.W.kitOne K (.type "int") (.ref CT) = some false)
    (nz_int : PySem.W.notFirst K CT (.type "int") = true)
    (kz_str : PySem.W.kitOne K (.type "str") (.ref CT) = some false)
    (nz_str : PySem.W.notFirst K CT (.type "str") = true)
    (kz_tup : PySem.W.kitOne K (.type "tuple") (.ref CT) = some false)
    (nz_tup : PySem.W.notFirst K CT (.type "tuple") = true)
    (kz_lst : PySem.W.kitOne K (.type "list") (.ref CT) = some false)
    (nz_lst : PySem.W.notFirst K CT (.type "list") = true)
    (kz_dic : PySem.W.kitOne K (.type "dict") (.ref CT) = some false)
    (nz_dic : PySem.W.notFirst K CT (.type "dict") = true)
    (kz_wd : PySem.W.kitOne K (.ref C) (.ref CT) = some false)
    (nz_wd : PySem.W.notFirst K CT (.ref C) = true)
    (nfT : PySem.W.notFirst K CT (.ref CT) = true)
    (neT : PySem.W.findIn K (.ref CT) "__ne__" = some (some (.builtin "object.__ne__")))
    (gL : PySem.W.nsIn K mainGlobals "LETTERS" = some (some (.str "IXYZ" tL)))
    (gM : PySem.W.nsIn K mainGlobals "MOST_WIRES" = some (some (.int 4 tM)))
    (gQ : PySem.W.nsIn K mainGlobals "QUARTER" = some (some (.ref qa)))
    (gT : PySem.W.nsIn K mainGlobals "THIRD" = some (some (.ref ta)))
    (lq : K.lookup qa = some ⟨.type "dict", none, .dict esq nq, #[]⟩)
    (yq : PySem.W.KeysLit w.params esq.toList)
    (wq : (qa == sysModules) = false)
    (lt : K.lookup ta = some ⟨.type "dict", none, .dict est nt, #[]⟩)
    (yt : PySem.W.KeysLit w.params est.toList)
    (wt : (ta == sysModules) = false)
    (q_II : PySem.W.nsIn K qa "II" = some none)
    (q_IX : PySem.W.nsIn K qa "IX" = some none)
    (q_IY : PySem.W.nsIn K qa "IY" = some none)
    (q_IZ : PySem.W.nsIn K qa "IZ" = some none)
    (q_XI : PySem.W.nsIn K qa "XI" = some none)
    (q_XX : PySem.W.nsIn K qa "XX" = some none)
    (q_XY : PySem.W.nsIn K qa "XY" = some (some (.int (1) uXY)))
    (t_XY : PySem.W.nsIn K ta "XY" = some (some (.str "Z" vXY)))
    (q_XZ : PySem.W.nsIn K qa "XZ" = some (some (.int (-1) uXZ)))
    (t_XZ : PySem.W.nsIn K ta "XZ" = some (some (.str "Y" vXZ)))
    (q_YI : PySem.W.nsIn K qa "YI" = some none)
    (q_YX : PySem.W.nsIn K qa "YX" = some (some (.int (-1) uYX)))
    (t_YX : PySem.W.nsIn K ta "YX" = some (some (.str "Z" vYX)))
    (q_YY : PySem.W.nsIn K qa "YY" = some none)
    (q_YZ : PySem.W.nsIn K qa "YZ" = some (some (.int (1) uYZ)))
    (t_YZ : PySem.W.nsIn K ta "YZ" = some (some (.str "X" vYZ)))
    (q_ZI : PySem.W.nsIn K qa "ZI" = some none)
    (q_ZX : PySem.W.nsIn K qa "ZX" = some (some (.int (1) uZX)))
    (t_ZX : PySem.W.nsIn K ta "ZX" = some (some (.str "Y" vZX)))
    (q_ZY : PySem.W.nsIn K qa "ZY" = some (some (.int (-1) uZY)))
    (t_ZY : PySem.W.nsIn K ta "ZY" = some (some (.str "X" vZY)))
    (q_ZZ : PySem.W.nsIn K qa "ZZ" = some none)
    (gCB : PySem.W.nsIn K mainGlobals "BadStart" = some (some (.ref CB)))
    (LCB : K.lookup CB = some (excClassObj nmCB qCB CB NCB bsCB [.ref CK, .type "ValueError", .type "Exception", .type "BaseException", .type "object"] true snCB subCB abCB colCB ddCB x0CB x1CB x2CB x3CB x5CB "ValueError.__new__"))
    (saCB : PySem.W.findIn K (.ref CB) "__setattr__" = some (some (.builtin "object.__setattr__")))
    (sub_CB : PySem.W.subIn K (.ref CB) (.type "BaseException") = some true)
    (tyCB : PySem.W.typeIn K (.ref CB) = some (.type "type"))
    (kpCB : PySem.W.keepIn K (.ref CB) = true)
    (nvCB : PySem.W.findIn K (.ref CB) "value" = some none)
    (inCB : PySem.W.findIn K (.ref CB) "__init__" = some (some (.ref fI)))
    (gaCB : PySem.W.findIn K (.ref CB) "__getattribute__" = some (some (.builtin "BaseException.__getattribute__")))
    (gtCB : PySem.W.findIn K (.ref CB) "__getattr__" = some none)
    (hdCB : PySem.W.hasDictIn K CB = true)
    (haCB : PySem.W.findIn K (.ref CB) "__class__" = some (some (.builtin "object.__class__")))
    (hmCB : PySem.W.mroIn K CB (.type "object") = some true)
    (s_CB : PySem.W.subIn K (.ref CB) (.ref CK) = some true)
    (gCW : PySem.W.nsIn K mainGlobals "BadWord" = some (some (.ref CW)))
    (LCW : K.lookup CW = some (excClassObj nmCW qCW CW NCW bsCW [.ref CK, .type "ValueError", .type "Exception", .type "BaseException", .type "object"] true snCW subCW abCW colCW ddCW x0CW x1CW x2CW x3CW x5CW "ValueError.__new__"))
    (saCW : PySem.W.findIn K (.ref CW) "__setattr__" = some (some (.builtin "object.__setattr__")))
    (sub_CW : PySem.W.subIn K (.ref CW) (.type "BaseException") = some true)
    (tyCW : PySem.W.typeIn K (.ref CW) = some (.type "type"))
    (kpCW : PySem.W.keepIn K (.ref CW) = true)
    (nvCW : PySem.W.findIn K (.ref CW) "value" = some none)
    (inCW : PySem.W.findIn K (.ref CW) "__init__" = some (some (.ref fI)))
    (gaCW : PySem.W.findIn K (.ref CW) "__getattribute__" = some (some (.builtin "BaseException.__getattribute__")))
    (gtCW : PySem.W.findIn K (.ref CW) "__getattr__" = some none)
    (hdCW : PySem.W.hasDictIn K CW = true)
    (haCW : PySem.W.findIn K (.ref CW) "__class__" = some (some (.builtin "object.__class__")))
    (hmCW : PySem.W.mroIn K CW (.type "object") = some true)
    (s_CW : PySem.W.subIn K (.ref CW) (.ref CK) = some true)
    (gCO : PySem.W.nsIn K mainGlobals "OtherSize" = some (some (.ref CO)))
    (LCO : K.lookup CO = some (excClassObj nmCO qCO CO NCO bsCO [.ref CK, .type "ValueError", .type "Exception", .type "BaseException", .type "object"] true snCO subCO abCO colCO ddCO x0CO x1CO x2CO x3CO x5CO "ValueError.__new__"))
    (saCO : PySem.W.findIn K (.ref CO) "__setattr__" = some (some (.builtin "object.__setattr__")))
    (sub_CO : PySem.W.subIn K (.ref CO) (.type "BaseException") = some true)
    (tyCO : PySem.W.typeIn K (.ref CO) = some (.type "type"))
    (kpCO : PySem.W.keepIn K (.ref CO) = true)
    (nvCO : PySem.W.findIn K (.ref CO) "value" = some none)
    (inCO : PySem.W.findIn K (.ref CO) "__init__" = some (some (.ref fI)))
    (gaCO : PySem.W.findIn K (.ref CO) "__getattribute__" = some (some (.builtin "BaseException.__getattribute__")))
    (gtCO : PySem.W.findIn K (.ref CO) "__getattr__" = some none)
    (hdCO : PySem.W.hasDictIn K CO = true)
    (haCO : PySem.W.findIn K (.ref CO) "__class__" = some (some (.builtin "object.__class__")))
    (hmCO : PySem.W.mroIn K CO (.type "object") = some true)
    (s_CO : PySem.W.subIn K (.ref CO) (.ref CK) = some true)
    (tI : PySem.W.typeIn K (.ref fI) = some (.type "function"))
    (lI : K.lookup fI = some ⟨ocI, odI, .func (PySem.W.fnOf "__init__" "KnobError.__init__" (defArgs sErr) (defBody sErr) (defScope sErr) .none kVI dcI pmI anI cdI ctI), slI⟩)
    (cI : PySem.W.codeIn K cdI "KnobError.__init__" = true)
    (kI : PySem.W.keepIn K (.ref fI) = true)
    (gK : PySem.W.nsIn K mainGlobals "KnobError" = some (some (.ref CK)))
    (sK : PySem.W.subIn K (.ref CK) (.type "BaseException") = some true)
    (hdK : PySem.W.hasDictIn K CK = true)
    (tyK : PySem.W.typeIn K (.ref CK) = some (.type "type"))
    (lcA : K.lookup cA = some ⟨occ, odc, .fields vsc, slc⟩)
    (vc : vsc[11]? = some (.ref PT))
    (noP : K.lookup PT = none) :
    Nonempty (EndG l w K 17 "script" mg fa h 63) := by
  have e := hfa.symm.trans (PySem.W.mg_of X G ad34)
  cases e
  have T : TM mg := ⟨PySem.W.mg_none_of X G z_len, PySem.W.mg_none_of X G z_int, PySem.W.mg_none_of X G z_abs, PySem.W.mg_none_of X G z_max, PySem.W.mg_none_of X G z_min, PySem.W.mg_none_of X G z_range, PySem.W.mg_none_of X G z_list, PySem.W.mg_none_of X G z_all, PySem.W.mg_none_of X G z_any, PySem.W.mg_none_of X G z_isinstance, PySem.W.mg_none_of X G z_str, PySem.W.mg_none_of X G z_tuple, PySem.W.mg_none_of X G z_enumerate, PySem.W.mg_none_of X G z_zip, PySem.W.mg_none_of X G z_set, PySem.W.mg_none_of X G z_repr, PySem.W.mg_none_of X G z_sum, PySem.W.mg_none_of X G z_bool⟩
  have T2 : TC K mg C := ⟨⟨⟨pgC, hdC, poC, saC⟩, haC, hn, ht, hmC⟩, nC0, nC1, PySem.W.mg_of X G aC, sf, nf, ⟨ne, hmC⟩⟩
  have Tt : TKs K mg CT := ⟨⟨⟨pgCT, hdCT, poCT, saCT⟩, haCT, hn, ht, hmCT⟩, nCT0, nCT1, nCT2, PySem.W.mg_of X G aCT⟩
  have Kj : KJ K C := ⟨kw_non, kw_bl, kw_int, kw_str, kw_tup, kw_lst, kw_dic, kt_non, kt_bl, kt_int, kt_str, kt_lst, kt_dic, kt_wd⟩
  have Kx : KXt K C CT := ⟨⟨kz_non, nz_non⟩, ⟨kz_bl, nz_bl⟩, ⟨kz_int, nz_int⟩, ⟨kz_str, nz_str⟩, ⟨kz_tup, nz_tup⟩, ⟨kz_lst, nz_lst⟩, ⟨kz_dic, nz_dic⟩, ⟨kz_wd, nz_wd⟩⟩
  have ktp : ∀ t, t = Value.type "tuple" → PySem.W.kitOne K t (.type "tuple") = some true := fun t e => by
    subst e
    exact kit_same
  have Z : TW w K mg qa ta := {
    len := PySem.W.mg_none_of X G z_len
    all := PySem.W.mg_none_of X G z_all
    sum := PySem.W.mg_none_of X G z_sum
    zip := PySem.W.mg_none_of X G z_zip
    isi := PySem.W.mg_none_of X G z_isinstance
    str := PySem.W.mg_none_of X G z_str
    lets := ⟨_, PySem.W.mg_of X G gL, _, rfl⟩
    most := ⟨_, PySem.W.mg_of X G gM, _, rfl⟩
    mq := PySem.W.mg_of X G gQ
    mt := PySem.W.mg_of X G gT
    kq := ⟨_, _, lq, yq, wq⟩
    kt := ⟨_, _, lt, yt, wt⟩
    dq := fun a b ha hb => by
      simp only [IXYZ, List.mem_cons, List.not_mem_nil, or_false] at ha hb
      rcases ha with rfl | rfl | rfl | rfl <;> rcases hb with rfl | rfl | rfl | rfl
      · exact ⟨_, q_II, rfl⟩
      · exact ⟨_, q_IX, rfl⟩
      · exact ⟨_, q_IY, rfl⟩
      · exact ⟨_, q_IZ, rfl⟩
      · exact ⟨_, q_XI, rfl⟩
      · exact ⟨_, q_XX, rfl⟩
      · exact ⟨_, q_XY, .int (1), ⟨_, rfl⟩, fun _ _ => .int (1)⟩
      · exact ⟨_, q_XZ, .int (-1), ⟨_, rfl⟩, fun _ _ => .int (-1)⟩
      · exact ⟨_, q_YI, rfl⟩
      · exact ⟨_, q_YX, .int (-1), ⟨_, rfl⟩, fun _ _ => .int (-1)⟩
      · exact ⟨_, q_YY, rfl⟩
      · exact ⟨_, q_YZ, .int (1), ⟨_, rfl⟩, fun _ _ => .int (1)⟩
      · exact ⟨_, q_ZI, rfl⟩
      · exact ⟨_, q_ZX, .int (1), ⟨_, rfl⟩, fun _ _ => .int (1)⟩
      · exact ⟨_, q_ZY, .int (-1), ⟨_, rfl⟩, fun _ _ => .int (-1)⟩
      · exact ⟨_, q_ZZ, rfl⟩
    dt := fun a b ha hb h1 h2 h3 => by
      simp only [IXYZ, List.mem_cons, List.not_mem_nil, or_false] at ha hb
      rcases ha with rfl | rfl | rfl | rfl <;> rcases hb with rfl | rfl | rfl | rfl
      · first | exact absurd rfl h1 | exact absurd rfl h2 | exact absurd rfl h3
      · first | exact absurd rfl h1 | exact absurd rfl h2 | exact absurd rfl h3
      · first | exact absurd rfl h1 | exact absurd rfl h2 | exact absurd rfl h3
      · first | exact absurd rfl h1 | exact absurd rfl h2 | exact absurd rfl h3
      · first | exact absurd rfl h1 | exact absurd rfl h2 | exact absurd rfl h3
      · first | exact absurd rfl h1 | exact absurd rfl h2 | exact absurd rfl h3
      · exact ⟨_, t_XY, _, rfl⟩
      · exact ⟨_, t_XZ, _, rfl⟩
      · first | exact absurd rfl h1 | exact absurd rfl h2 | exact absurd rfl h3
      · exact ⟨_, t_YX, _, rfl⟩
      · first | exact absurd rfl h1 | exact absurd rfl h2 | exact absurd rfl h3
      · exact ⟨_, t_YZ, _, rfl⟩
      · first | exact absurd rfl h1 | exact absurd rfl h2 | exact absurd rfl h3
      · exact ⟨_, t_ZX, _, rfl⟩
      · exact ⟨_, t_ZY, _, rfl⟩
      · first | exact absurd rfl h1 | exact absurd rfl h2 | exact absurd rfl h3 }
  have Fd0 := fun_mk (st := sNeed) ld0 cd0 kd0
  have bd0 := Fd0.binds (ps := ["value", "wires"]) fun _ _ _ _ _ _ us hl => match us, hl with | [_, _], _ => rfl
  have Fd1 := fun_mk (st := sIsWordOf) ld1 cd1 kd1
  have bd1 := Fd1.binds (ps := ["value", "wires"]) fun _ _ _ _ _ _ us hl => match us, hl with | [_, _], _ => rfl
  have Fd2 := fun_mk (st := sAre) ld2 cd2 kd2
  have bd2 := Fd2.binds (ps := ["text"]) fun _ _ _ _ _ _ us hl => match us, hl with | [_], _ => rfl
  have Fd3 := fun_mk (st := sSigned) ld3 cd3 kd3
  have bd3 := Fd3.binds (ps := ["letters", "sign"]) fun _ _ _ _ _ _ us hl => match us, hl with | [_, _], _ => rfl
  have Fd4 := fun_mk (st := sQuarters) ld4 cd4 kd4
  have bd4 := Fd4.binds (ps := ["one", "other"]) fun _ _ _ _ _ _ us hl => match us, hl with | [_, _], _ => rfl
  have Fd5 := fun_mk (st := sMade) ld5 cd5 kd5
  have bd5 := Fd5.binds (ps := ["one", "other"]) fun _ _ _ _ _ _ us hl => match us, hl with | [_, _], _ => rfl
  have Fd6 := fun_mk (st := sLetter) ld6 cd6 kd6
  have bd6 := Fd6.binds (ps := ["one", "other"]) fun _ _ _ _ _ _ us hl => match us, hl with | [_, _], _ => rfl
  have Fd7 := fun_mk (st := sAreWords) ld7 cd7 kd7
  have bd7 := Fd7.binds (ps := ["value"]) fun _ _ _ _ _ _ us hl => match us, hl with | [_], _ => rfl
  have Fd8 := fun_mk (st := sProducts) ld8 cd8 kd8
  have bd8 := Fd8.binds (ps := ["words"]) fun _ _ _ _ _ _ us hl => match us, hl with | [_], _ => rfl
  have Fd9 := fun_mk (st := sPot) ld9 cd9 kd9
  have bd9 := Fd9.binds (ps := ["script", "place"]) fun _ _ _ _ _ _ us hl => match us, hl with | [_, _], _ => rfl
  have Fd10 := fun_mk (st := sTake) ld10 cd10 kd10
  have bd10 := Fd10.binds (ps := ["pot", "upto"]) fun _ _ _ _ _ _ us hl => match us, hl with | [_, _], _ => rfl
  have Fd11 := fun_mk (st := sOf) ld11 cd11 kd11
  have bd11 := Fd11.binds (ps := ["pot", "some"]) fun _ _ _ _ _ _ us hl => match us, hl with | [_, _], _ => rfl
  have Fd12 := fun_mk (st := sSome) ld12 cd12 kd12
  have bd12 := Fd12.binds (ps := ["pot", "pool", "many"]) fun _ _ _ _ _ _ us hl => match us, hl with | [_, _, _], _ => rfl
  have Fd13 := fun_mk (st := sCells) ld13 cd13 kd13
  have bd13 := Fd13.binds (ps := ["script", "most"]) fun _ _ _ _ _ _ us hl => match us, hl with | [_, _], _ => rfl
  have Fd14 := fun_mk (st := sHeard) ld14 cd14 kd14
  have bd14 := Fd14.binds (ps := ["call"]) fun _ _ _ _ _ _ us hl => match us, hl with | [_], _ => rfl
  have Fd15 := fun_mk (st := sOdd) ld15 cd15 kd15
  have bd15 := Fd15.binds (ps := ["pot"]) fun _ _ _ _ _ _ us hl => match us, hl with | [_], _ => rfl
  have Fd16 := fun_mk (st := sWText) ld16 cd16 kd16
  have bd16 := Fd16.binds (ps := ["word"]) fun _ _ _ _ _ _ us hl => match us, hl with | [_], _ => rfl
  have Fd17 := fun_mk (st := sLQuarters) ld17 cd17 kd17
  have bd17 := Fd17.binds (ps := ["one", "other"]) fun _ _ _ _ _ _ us hl => match us, hl with | [_, _], _ => rfl
  have Fd18 := fun_mk (st := sDoPass) ld18 cd18 kd18
  have bd18 := Fd18.binds (ps := ["one", "other"]) fun _ _ _ _ _ _ us hl => match us, hl with | [_, _], _ => rfl
  have Fd19 := fun_mk (st := sLMade) ld19 cd19 kd19
  have bd19 := Fd19.binds (ps := ["one", "other"]) fun _ _ _ _ _ _ us hl => match us, hl with | [_, _], _ => rfl
  have Fd20 := fun_mk (st := sProduct) ld20 cd20 kd20
  have bd20 := Fd20.binds (ps := ["one", "other", "more"]) fun _ _ _ _ _ _ us hl => match us, hl with | [_, _, _], _ => rfl
  have Fd21 := fun_mk (st := sLLone) ld21 cd21 kd21
  have bd21 := Fd21.binds (ps := ["wires", "places"]) fun _ _ _ _ _ _ us hl => match us, hl with | [_, _], _ => rfl
  have Fd22 := fun_mk (st := sDWord) ld22 cd22 kd22
  have bd22 := Fd22.binds (ps := ["pot", "wires"]) fun _ _ _ _ _ _ us hl => match us, hl with | [_, _], _ => rfl
  have Fd23 := fun_mk (st := sGate) ld23 cd23 kd23
  have bd23 := Fd23.binds (ps := ["pot", "wires"]) fun _ _ _ _ _ _ us hl => match us, hl with | [_, _], _ => rfl
  have Fd24 := fun_mk (st := sQuartersOf) ld24 cd24 kd24
  have bd24 := Fd24.binds (ps := ["wires", "line"]) fun _ _ _ _ _ _ us hl => match us, hl with | [_, _], _ => rfl
  have Fd25 := fun_mk (st := sLedFixed) ld25 cd25 kd25
  have bd25 := Fd25.binds (ps := ["wires", "line", "word"]) fun _ _ _ _ _ _ us hl => match us, hl with | [_, _, _], _ => rfl
  have Fd26 := fun_mk (st := sStartWords) ld26 cd26 kd26
  have bd26 := Fd26.binds (ps := ["pot", "wires"]) fun _ _ _ _ _ _ us hl => match us, hl with | [_, _], _ => rfl
  have Fd27 := fun_mk (st := sAllLetters) ld27 cd27 kd27
  have bd27 := Fd27.binds (ps := ["wires"]) fun _ _ _ _ _ _ us hl => match us, hl with | [_], _ => rfl
  have Fd28 := fun_mk (st := sGroup) ld28 cd28 kd28
  have bd28 := Fd28.binds (ps := ["said"]) fun _ _ _ _ _ _ us hl => match us, hl with | [_], _ => rfl
  have Fd29 := fun_mk (st := sOtherWords) ld29 cd29 kd29
  have bd29 := Fd29.binds (ps := ["pot", "said"]) fun _ _ _ _ _ _ us hl => match us, hl with | [_, _], _ => rfl
  have Fd30 := fun_mk (st := sValuesRight) ld30 cd30 kd30
  have bd30 := Fd30.binds (ps := ["start", "said"]) fun _ _ _ _ _ _ us hl => match us, hl with | [_, _], _ => rfl
  have Fd31 := fun_mk (st := sMadeWords) ld31 cd31 kd31
  have bd31 := Fd31.binds (ps := ["said"]) fun _ _ _ _ _ _ us hl => match us, hl with | [_], _ => rfl
  have Fd32 := fun_mk (st := sFarWord) ld32 cd32 kd32
  have bd32 := Fd32.binds (ps := ["wires"]) fun _ _ _ _ _ _ us hl => match us, hl with | [_], _ => rfl
  have Fd33 := fun_mk (st := sRight) ld33 cd33 kd33
  have bd33 := Fd33.binds (ps := ["pot"]) fun _ _ _ _ _ _ us hl => match us, hl with | [_], _ => rfl
  have Fd34 := fun_mk (st := sLaw) ld34 cd34 kd34
  have Fm0 := fun_mk (st := sInit) lm0 cm0 km0
  have bm0 := Fm0.binds (ps := ["self", "text"]) fun _ _ _ _ _ _ us hl => match us, hl with | [_, _], _ => rfl
  have Fm1 := fun_mk (st := sLen) lm1 cm1 km1
  have bm1 := Fm1.binds (ps := ["self"]) fun _ _ _ _ _ _ us hl => match us, hl with | [_], _ => rfl
  have Fm2 := fun_mk (st := sEq) lm2 cm2 km2
  have bm2 := Fm2.binds (ps := ["self", "other"]) fun _ _ _ _ _ _ us hl => match us, hl with | [_, _], _ => rfl
  have Fm3 := fun_mk (st := sMul) lm3 cm3 km3
  have bm3 := Fm3.binds (ps := ["self", "other"]) fun _ _ _ _ _ _ us hl => match us, hl with | [_, _], _ => rfl
  have Fm4 := fun_mk (st := sPasses) lm4 cm4 km4
  have bm4 := Fm4.binds (ps := ["self", "other"]) fun _ _ _ _ _ _ us hl => match us, hl with | [_, _], _ => rfl
  have Fm5 := fun_mk (st := sBeside) lm5 cm5 km5
  have bm5 := Fm5.binds (ps := ["self", "other", "turned"]) fun _ _ _ _ _ _ us hl => match us, hl with | [_, _, _], _ => rfl
  have Fq0 := fun_mk (st := sSEq) lq0 cq0 kq0
  have bq0 := Fq0.binds (ps := ["self", "other"]) fun _ _ _ _ _ _ us hl => match us, hl with | [_, _], _ => rfl
  have Fq1 := fun_mk (st := sSignOf) lq1 cq1 kq1
  have bq1 := Fq1.binds (ps := ["self", "word"]) fun _ _ _ _ _ _ us hl => match us, hl with | [_, _], _ => rfl
  have Fq2 := fun_mk (st := sLike) lq2 cq2 kq2
  have bq2 := Fq2.binds (ps := ["self", "other"]) fun _ _ _ _ _ _ us hl => match us, hl with | [_, _], _ => rfl
  have Ft0 := fun_mk (st := sSInit) lt0 ct0 kt0
  have bt0 := Ft0.binds (ps := ["self", "words"]) fun _ _ _ _ _ _ us hl => match us, hl with | [_, _], _ => rfl
  have FI := fun_mk (st := sErr) lI cI kI
  have bI := FI.binds (ps := ["self", "value"]) fun _ _ _ _ _ _ us hl => match us, hl with | [_, _], _ => rfl
  have tabI : PySem.W.tabIn K "_law_right" = some (cA, PT) := by
    unfold PySem.W.tabIn
    rw [ad33]
    simp only
    rw [ld33]
    show (match K.lookup cA with
      | some ⟨_, _, .fields vs, _⟩ => (match (vs[11]? : Option Value) with
        | some (.ref P) => some (cA, P)
        | _ => none)
      | _ => none) = _
    rw [lcA]
    simp only
    rw [vc]
  have exCB := PySem.W.exm_ref sK hdK tyK s_CB
  have exCW := PySem.W.exm_ref sK hdK tyK s_CW
  have exCO := PySem.W.exm_ref sK hdK tyK s_CO
  obtain ⟨codeT, tabT⟩ := tabs cA PT tabI
  refine ⟨{ fd := PySem.W.fnOf "law" "law" (defArgs sLaw) (defBody sLaw) (defScope sLaw) .none kVd34 dcd34 pmd34 and34 cdd34 ctd34, cs := [(cA, PT)], R := rLaw PT, tab := fun p hp => ?_, bind := fun s v => .of_eq rfl, holds := fun H a ns hl hb hH hS => spD_lawT (hH (cA, PT) (by simp)) noP hS ⟨ns, rfl, rfl, rfl, rfl⟩, ok := fun base _ _ hTB => ?_ }⟩
  · rw [List.mem_singleton] at hp
    subst hp
    exact ⟨tabT, noP, codeT⟩
  have TB : LamX.TabB base mg cA PT := hTB (cA, PT) (by simp)
  have kErr := fn_err (P := l.prog) (w := w) (mg := mg) (base := base) FI scErr rfl rfl rfl
  have eCB : Ce l.prog w K mg base 1 CB "BadStart" := ⟨PySem.W.mg_of X G gCB, ⟨⟨_, _, _, _, _, _, _, _, _, _, _, _, _, _, _, LCB, by rfl⟩, saCB, sub_CB, tyCB, kpCB⟩, nvCB, ⟨fI, _, _, kErr, inCB, tI, bI⟩⟩
  have eCW : Ce l.prog w K mg base 1 CW "BadWord" := ⟨PySem.W.mg_of X G gCW, ⟨⟨_, _, _, _, _, _, _, _, _, _, _, _, _, _, _, LCW, by rfl⟩, saCW, sub_CW, tyCW, kpCW⟩, nvCW, ⟨fI, _, _, kErr, inCW, tI, bI⟩⟩
  have eCO : Ce l.prog w K mg base 1 CO "OtherSize" := ⟨PySem.W.mg_of X G gCO, ⟨⟨_, _, _, _, _, _, _, _, _, _, _, _, _, _, _, LCO, by rfl⟩, saCO, sub_CO, tyCO, kpCO⟩, nvCO, ⟨fI, _, _, kErr, inCO, tI, bI⟩⟩
  have kAre : Cf l.prog w K mg base _ "are_letters" [] _ := ⟨⟨_, _, _, [], [], ok_are Fd2 Z, PySem.W.mg_of X G ad2, kd2, bd2, .nil, fun _ => .nil⟩⟩
  have kSigned : Cf l.prog w K mg base _ "signed_text" [] _ := ⟨⟨_, _, _, [], [], ok_signed Fd3, PySem.W.mg_of X G ad3, kd3, bd3, .nil, fun _ => .nil⟩⟩
  have kQuart : Cf l.prog w K mg base _ "quarters" [] _ := ⟨⟨_, _, _, [], [], ok_quarters Fd4 Z, PySem.W.mg_of X G ad4, kd4, bd4, .nil, fun _ => .nil⟩⟩
  have kLet : Cf l.prog w K mg base _ "_made_letter" [] _ := ⟨⟨_, _, _, [], [], ok_letter Fd6 Z, PySem.W.mg_of X G ad6, kd6, bd6, .nil, fun _ => .nil⟩⟩
  have kMadeL : Cf l.prog w K mg base _ "made_letters" [] _ := ⟨⟨_, _, _, [], [], ok_made Fd5 Z kLet, PySem.W.mg_of X G ad5, kd5, bd5, .nil, fun _ => .nil⟩⟩
  have kNeed : Cf l.prog w K mg base _ "need_word" [] _ := ⟨⟨_, _, _, [], [], ok_need Fd0 Z T2, PySem.W.mg_of X G ad0, kd0, bd0, .nil, fun _ => .nil⟩⟩
  have kNeedX : Cf l.prog w K mg base _ "need_word" [] _ := ⟨⟨_, _, _, [], [], ok_needX Fd0 Z T2 eCW eCO, PySem.W.mg_of X G ad0, kd0, bd0, .nil, fun _ => .nil⟩⟩
  have kW : Ci l.prog w K mg base 2 C "Word" [] (rInit C) := ⟨PySem.W.mg_of X G aC, ⟨_, _, _, [], [], ok_init Fm0 Z T2 kAre, ⟨mkC, am0, im0, kC⟩, bm0, .nil, fun _ => .nil⟩⟩
  have mLen : Cm l.prog w K mg base _ C "__len__" [] _ := ⟨T2.ci.cl, ⟨_, _, _, [], [], ok_len Fm1 Z T2, ⟨am1, im1, km1⟩, bm1, .nil, fun _ => .nil⟩⟩
  have mEq : Cm l.prog w K mg base _ C "__eq__" [] _ := ⟨T2.ci.cl, ⟨_, _, _, [], [], ok_eq Fm2 Z T2, ⟨am2, im2, km2⟩, bm2, .nil, fun _ => .nil⟩⟩
  have mPasses : Cm l.prog w K mg base _ C "passes" [] _ := ⟨T2.ci.cl, ⟨_, _, _, [], [], ok_passes Fm4 Z T2 kNeed kQuart, ⟨am4, im4, km4⟩, bm4, .nil, fun _ => .nil⟩⟩
  have mBeside : Cm l.prog w K mg base _ C "_beside" [] _ := ⟨T2.ci.cl, ⟨_, _, _, [], [], ok_beside Fm5 T2 kSigned kMadeL kW, ⟨am5, im5, km5⟩, bm5, .nil, fun _ => .nil⟩⟩
  have mMul : Cm l.prog w K mg base _ C "__mul__" [] _ := ⟨T2.ci.cl, ⟨_, _, _, [], [], ok_mul Fm3 Z T2 kQuart mBeside, ⟨am3, im3, km3⟩, bm3, .nil, fun _ => .nil⟩⟩
  have kIsWordOf : Cf l.prog w K mg base _ "is_word_of" [] _ := ⟨⟨_, _, _, [], [], ok_iswordof Fd1 T T2 mLen, PySem.W.mg_of X G ad1, kd1, bd1, .nil, fun _ => .nil⟩⟩
  have kAreW : Cf l.prog w K mg base _ "_are_words" [] _ := ⟨⟨_, _, _, [], [], ok_arewords Fd7 T kIsWordOf mPasses ktp, PySem.W.mg_of X G ad7, kd7, bd7, .nil, fun _ => .nil⟩⟩
  have kProds : Cf l.prog w K mg base _ "_products" [] _ := ⟨⟨_, _, _, [], [], ok_products Fd8 T T2 kW mMul, PySem.W.mg_of X G ad8, kd8, bd8, .nil, fun _ => .nil⟩⟩
  have kT : Ci l.prog w K mg base 9 CT "Start" [] (rSInit K C CT CB) := ⟨PySem.W.mg_of X G aCT, ⟨_, _, _, [], [], ok_sinit Ft0 T T2 Tt kAreW kProds eCB, ⟨mkCT, at0, it0, kCT⟩, bt0, .nil, fun _ => .nil⟩⟩
  have mSEq : Cm l.prog w K mg base _ CT "__eq__" [] _ := ⟨Tt.ci.cl, ⟨_, _, _, [], [], ok_seq Fq0 T Tt mEq, ⟨aq0, iq0, kq0⟩, bq0, .nil, fun _ => .nil⟩⟩
  have mSof : Cm l.prog w K mg base _ CT "sign_of" [] _ := ⟨Tt.ci.cl, ⟨_, _, _, [], [], ok_signof Fq1 T2 Tt kNeedX, ⟨aq1, iq1, kq1⟩, bq1, .nil, fun _ => .nil⟩⟩
  have mLike : Cm l.prog w K mg base _ CT "like" [] _ := ⟨Tt.ci.cl, ⟨_, _, _, [], [], ok_like (C := C) Fq2 T Tt, ⟨aq2, iq2, kq2⟩, bq2, .nil, fun _ => .nil⟩⟩
  have kPot : Cf l.prog w K mg base _ "_law_pot" [] _ := ⟨⟨_, _, _, [], [], ok_pot Fd9 T, PySem.W.mg_of X G ad9, kd9, bd9, .nil, fun _ => .nil⟩⟩
  have kTake : Cf l.prog w K mg base _ "_law_take" [] _ := ⟨⟨_, _, _, [], [], ok_tk Fd10 T, PySem.W.mg_of X G ad10, kd10, bd10, .nil, fun _ => .nil⟩⟩
  have kOf : Cf l.prog w K mg base _ "_law_of" [] _ := ⟨⟨_, _, _, [], [], ok_of Fd11 T kTake, PySem.W.mg_of X G ad11, kd11, bd11, .nil, fun _ => .nil⟩⟩
  have kSome : Cf l.prog w K mg base _ "_law_some" [] _ := ⟨⟨_, _, _, [], [], ok_some Fd12 T kTake, PySem.W.mg_of X G ad12, kd12, bd12, .nil, fun _ => .nil⟩⟩
  have kCells : Cf l.prog w K mg base _ "_law_cells" [] _ := ⟨⟨_, _, _, [], [], ok_cells Fd13 T, PySem.W.mg_of X G ad13, kd13, bd13, .nil, fun _ => .nil⟩⟩
  have kWText : Cf l.prog w K mg base _ "_law_word_text" [] _ := ⟨⟨_, _, _, [], [], ok_wtext Fd16 T, PySem.W.mg_of X G ad16, kd16, bd16, .nil, fun _ => .nil⟩⟩
  have kDWord : Cf l.prog w K mg base _ "_law_drawn_word" [] _ := ⟨⟨_, _, _, [], [], ok_dword Fd22 T kTake kOf, PySem.W.mg_of X G ad22, kd22, bd22, .nil, fun _ => .nil⟩⟩
  have kGate : Cf l.prog w K mg base _ "_law_gate" [] _ := ⟨⟨_, _, _, [], [], ok_gate Fd23 T kTake kDWord kSome, PySem.W.mg_of X G ad23, kd23, bd23, .nil, fun _ => .nil⟩⟩
  have kLQ : Cf l.prog w K mg base _ "_law_quarters" [] _ := ⟨⟨_, _, _, [], [], ok_lquarters Fd17 T, PySem.W.mg_of X G ad17, kd17, bd17, .nil, fun _ => .nil⟩⟩
  have kDoPass : Cf l.prog w K mg base _ "_law_do_pass" [] _ := ⟨⟨_, _, _, [], [], ok_dopass Fd18 kLQ, PySem.W.mg_of X G ad18, kd18, bd18, .nil, fun _ => .nil⟩⟩
  have kLMade : Cf l.prog w K mg base _ "_law_made" [] _ := ⟨⟨_, _, _, [], [], ok_lmade Fd19 T, PySem.W.mg_of X G ad19, kd19, bd19, .nil, fun _ => .nil⟩⟩
  have kProduct : Cf l.prog w K mg base _ "_law_product" [] _ := ⟨⟨_, _, _, [], [], ok_product Fd20 kLQ kLMade, PySem.W.mg_of X G ad20, kd20, bd20, .nil, fun _ => .nil⟩⟩
  have kLLone : Cf l.prog w K mg base _ "_law_lone" [] _ := ⟨⟨_, _, _, [], [], ok_llone Fd21 T, PySem.W.mg_of X G ad21, kd21, bd21, .nil, fun _ => .nil⟩⟩
  have kQ0 : Cf l.prog w K mg base _ "_law_quarters_of" [] _ := ⟨⟨_, _, _, [], [], ok_q0 Fd24 T kLLone, PySem.W.mg_of X G ad24, kd24, bd24, .nil, fun _ => .nil⟩⟩
  have kQ1 : Cf l.prog w K mg base _ "_law_quarters_of" [] _ := ⟨⟨_, _, _, [], [], ok_q1 Fd24 T kQ0, PySem.W.mg_of X G ad24, kd24, bd24, .nil, fun _ => .nil⟩⟩
  have kQof : Cf l.prog w K mg base _ "_law_quarters_of" [] _ := ⟨⟨_, _, _, [], [], ok_qof (ok_q0 Fd24 T kLLone) (ok_q1 Fd24 T kQ0) (ok_q2 Fd24 T kQ1), PySem.W.mg_of X G ad24, kd24, bd24, .nil, fun _ => .nil⟩⟩
  have kLedF : Cf l.prog w K mg base _ "_law_led_fixed" [] _ := ⟨⟨_, _, _, [], [], ok_ledfixed Fd25 kQof kDoPass kProduct, PySem.W.mg_of X G ad25, kd25, bd25, .nil, fun _ => .nil⟩⟩
  have kSW : Cf l.prog w K mg base _ "_law_start_words" [] _ := ⟨⟨_, _, _, [], [], ok_startwords Fd26 T kTake kOf kLLone kGate kLedF kProduct, PySem.W.mg_of X G ad26, kd26, bd26, .nil, fun _ => .nil⟩⟩
  have kAll : Cf l.prog w K mg base _ "_law_all_letters" [] _ := ⟨⟨_, _, _, [], [], ok_allletters Fd27 T, PySem.W.mg_of X G ad27, kd27, bd27, .nil, fun _ => .nil⟩⟩
  have kGroup : Cf l.prog w K mg base _ "_law_group" [] _ := ⟨⟨_, _, _, [], [], ok_group Fd28 T kProduct, PySem.W.mg_of X G ad28, kd28, bd28, .nil, fun _ => .nil⟩⟩
  have kOther : Cf l.prog w K mg base _ "_law_other_words" [] _ := ⟨⟨_, _, _, [], [], ok_other Fd29 T kTake kSome kProduct, PySem.W.mg_of X G ad29, kd29, bd29, .nil, fun _ => .nil⟩⟩
  have kVal : Cf l.prog w K mg base _ "_law_are_values_right" [] _ := ⟨⟨_, _, _, [], [], ok_valuesright Fd30 T kGroup kAll mSof kW kWText, PySem.W.mg_of X G ad30, kd30, bd30, .nil, fun _ => .nil⟩⟩
  have kMadeW : Cf l.prog w K mg base _ "_law_made_words" [] _ := ⟨⟨_, _, _, [], [], ok_madewords Fd31 T kWText kW, PySem.W.mg_of X G ad31, kd31, bd31, .nil, fun _ => .nil⟩⟩
  have kFar : Cf l.prog w K mg base _ "_law_far_word" [] _ := ⟨⟨_, _, _, [], [], ok_farword Fd32 kW, PySem.W.mg_of X G ad32, kd32, bd32, .nil, fun _ => .nil⟩⟩
  have kOdd : Cf l.prog w K mg base _ "_law_odd" [] _ := ⟨⟨_, _, _, [], [], ok_odd Fd15 kOf, PySem.W.mg_of X G ad15, kd15, bd15, .nil, fun _ => .nil⟩⟩
  have xCB : XC K CB := ⟨gaCB, gtCB, sub_CB, hdCB, haCB, hn, ht, hmCB, nvCB⟩
  have xCW : XC K CW := ⟨gaCW, gtCW, sub_CW, hdCW, haCW, hn, ht, hmCW, nvCW⟩
  have xCO : XC K CO := ⟨gaCO, gtCO, sub_CO, hdCO, haCO, hn, ht, hmCO, nvCO⟩
  have kHeard : Cl l.prog w K mg base false _ _ "_law_heard" (rHear K CK) := ⟨⟨_, _, _, ok_heard (j := 12) Fd14 (PySem.W.mg_of X G gK), PySem.W.mg_of X G ad14, kd14, bd14⟩⟩
  have R : VR l.prog w K mg base C CT CB CW CO CK := ⟨T, Tt, T2, kT, mEq, mSEq, ⟨neT, hmCT⟩, nfT, mLike, mSof, kTake, kSW, kMadeW, kVal, kOther, kGroup, kOdd, kFar, kHeard, xCW, PySem.W.mg_of X G gCW, exCW, xCO, PySem.W.mg_of X G gCO, exCO, Kj, Kx⟩
  have kRight : Cf l.prog w K mg base _ "_law_right" [] _ := ⟨⟨_, _, _, [], [], ok_right ld33 cd33 TB R, PySem.W.mg_of X G ad33, kd33, bd33, .nil, fun _ => .nil⟩⟩
  exact FnG.of (ok_law Fd34 T kCells kPot kRight)
end K62
set_option Elab.async false
set_option linter.all false
open PySem PySem.W PyProof.Rows
set_option maxRecDepth 100000 in
set_option maxHeartbeats 0 in
theorem PySem.Challenge.cw_looseknobs_k62_starts_as_they_are_told_holds : PySem.Challenge.rw_looseknobs_k62_starts_as_they_are_told.Holds := by
  w_on; o_law; k_head; (case hw => w_witness2)
  k_fill
  refine Dl.walk_G (l := PySem.Challenge.rw_looseknobs_k62_starts_as_they_are_told) (n := 63) (k := 17) (x := "script") rfl (by decide) rfl ⟨rfl, by decide, by decide⟩ (fun w h Y => PySem.W.km_in_of Y) ?F
  case F =>
    intro w mg fa h KX G hmg tabs
    refine' K62.all_mk KX G hmg (fun c P e => tabs "_law_right" _ c P ?rec e) ?ad0 ?ld0 ?cd0 ?kd0 ?ad1 ?ld1 ?cd1 ?kd1 ?ad2 ?ld2 ?cd2 ?kd2 ?ad3 ?ld3 ?cd3 ?kd3 ?ad4 ?ld4 ?cd4 ?kd4 ?ad5 ?ld5 ?cd5 ?kd5 ?ad6 ?ld6 ?cd6 ?kd6 ?ad7 ?ld7 ?cd7 ?kd7 ?ad8 ?ld8 ?cd8 ?kd8 ?ad9 ?ld9 ?cd9 ?kd9 ?ad10 ?ld10 ?cd10 ?kd10 ?ad11 ?ld11 ?cd11 ?kd11 ?ad12 ?ld12 ?cd12 ?kd12 ?ad13 ?ld13 ?cd13 ?kd13 ?ad14 ?ld14 ?cd14 ?kd14 ?ad15 ?ld15 ?cd15 ?kd15 ?ad16 ?ld16 ?cd16 ?kd16 ?ad17 ?ld17 ?cd17 ?kd17 ?ad18 ?ld18 ?cd18 ?kd18 ?ad19 ?ld19 ?cd19 ?kd19 ?ad20 ?ld20 ?cd20 ?kd20 ?ad21 ?ld21 ?cd21 ?kd21 ?ad22 ?ld22 ?cd22 ?kd22 ?ad23 ?ld23 ?cd23 ?kd23 ?ad24 ?ld24 ?cd24 ?kd24 ?ad25 ?ld25 ?cd25 ?kd25 ?ad26 ?ld26 ?cd26 ?kd26 ?ad27 ?ld27 ?cd27 ?kd27 ?ad28 ?ld28 ?cd28 ?kd28 ?ad29 ?ld29 ?cd29 ?kd29 ?ad30 ?ld30 ?cd30 ?kd30 ?ad31 ?ld31 ?cd31 ?kd31 ?ad32 ?ld32 ?cd32 ?kd32 ?ad33 ?ld33 ?cd33 ?kd33 ?ad34 ?ld34 ?cd34 ?kd34 ?hn ?ht ?aC ?pgC ?hdC ?poC ?saC ?mkC ?kC ?haC ?hmC ?nC0 ?nC1 ?aCT ?pgCT ?hdCT ?poCT ?saCT ?mkCT ?kCT ?haCT ?hmCT ?nCT0 ?nCT1 ?nCT2 ?sf ?nf ?ne ?at0 ?it0 ?lt0 ?ct0 ?kt0 ?am0 ?im0 ?lm0 ?cm0 ?km0 ?am1 ?im1 ?lm1 ?cm1 ?km1 ?am2 ?im2 ?lm2 ?cm2 ?km2 ?am3 ?im3 ?lm3 ?cm3 ?km3 ?am4 ?im4 ?lm4 ?cm4 ?km4 ?am5 ?im5 ?lm5 ?cm5 ?km5 ?aq0 ?iq0 ?lq0 ?cq0 ?kq0 ?aq1 ?iq1 ?lq1 ?cq1 ?kq1 ?aq2 ?iq2 ?lq2 ?cq2 ?kq2 ?z_len ?z_int ?z_abs ?z_max ?z_min ?z_range ?z_list ?z_all ?z_any ?z_isinstance ?z_str ?z_tuple ?z_enumerate ?z_zip ?z_set ?z_repr ?z_sum ?z_bool ?kw_non ?kw_bl ?kw_int ?kw_str ?kw_tup ?kw_lst ?kw_dic ?kt_non ?kt_bl ?kt_int ?kt_str ?kt_lst ?kt_dic ?kt_wd ?kz_non ?nz_non ?kz_bl ?nz_bl ?kz_int ?nz_int ?kz_str ?nz_str ?kz_tup ?nz_tup ?kz_lst ?nz_lst ?kz_dic ?nz_dic ?kz_wd ?nz_wd ?nfT ?neT ?gL ?gM ?gQ ?gT ?lq ?yq ?wq ?lt ?yt ?wt ?q_II ?q_IX ?q_IY ?q_IZ ?q_XI ?q_XX ?q_XY ?t_XY ?q_XZ ?t_XZ ?q_YI ?q_YX ?t_YX ?q_YY ?q_YZ ?t_YZ ?q_ZI ?q_ZX ?t_ZX ?q_ZY ?t_ZY ?q_ZZ ?gCB ?LCB ?saCB ?sub_CB ?tyCB ?kpCB ?nvCB ?inCB ?gaCB ?gtCB ?hdCB ?haCB ?hmCB ?s_CB ?gCW ?LCW ?saCW ?sub_CW ?tyCW ?kpCW ?nvCW ?inCW ?gaCW ?gtCW ?hdCW ?haCW ?hmCW ?s_CW ?gCO ?LCO ?saCO ?sub_CO ?tyCO ?kpCO ?nvCO ?inCO ?gaCO ?gtCO ?hdCO ?haCO ?hmCO ?s_CO ?tI ?lI ?cI ?kI ?gK ?sK ?hdK ?tyK ?lcA ?vc ?noP
    (case rec => first | rfl | k_is | with_unfolding_all rfl)
    (case ad0 => k_is)
    (case ld0 => k_is)
    (case cd0 => k_is)
    (case kd0 => k_is)
    (case ad1 => k_is)
    (case ld1 => k_is)
    (case cd1 => k_is)
    (case kd1 => k_is)
    (case ad2 => k_is)
    (case ld2 => k_is)
    (case cd2 => k_is)
    (case kd2 => k_is)
    (case ad3 => k_is)
    (case ld3 => k_is)
    (case cd3 => k_is)
    (case kd3 => k_is)
    (case ad4 => k_is)
    (case ld4 => k_is)
    (case cd4 => k_is)
    (case kd4 => k_is)
    (case ad5 => k_is)
    (case ld5 => k_is)
    (case cd5 => k_is)
    (case kd5 => k_is)
    (case ad6 => k_is)
    (case ld6 => k_is)
    (case cd6 => k_is)
    (case kd6 => k_is)
    (case ad7 => k_is)
    (case ld7 => k_is)
    (case cd7 => k_is)
    (case kd7 => k_is)
    (case ad8 => k_is)
    (case ld8 => k_is)
    (case cd8 => k_is)
    (case kd8 => k_is)
    (case ad9 => k_is)
    (case ld9 => k_is)
    (case cd9 => k_is)
    (case kd9 => k_is)
    (case ad10 => k_is)
    (case ld10 => k_is)
    (case cd10 => k_is)
    (case kd10 => k_is)
    (case ad11 => k_is)
    (case ld11 => k_is)
    (case cd11 => k_is)
    (case kd11 => k_is)
    (case ad12 => k_is)
    (case ld12 => k_is)
    (case cd12 => k_is)
    (case kd12 => k_is)
    (case ad13 => k_is)
    (case ld13 => k_is)
    (case cd13 => k_is)
    (case kd13 => k_is)
    (case ad14 => k_is)
    (case ld14 => k_is)
    (case cd14 => k_is)
    (case kd14 => k_is)
    (case ad15 => k_is)
    (case ld15 => k_is)
    (case cd15 => k_is)
    (case kd15 => k_is)
    (case ad16 => k_is)
    (case ld16 => k_is)
    (case cd16 => k_is)
    (case kd16 => k_is)
    (case ad17 => k_is)
    (case ld17 => k_is)
    (case cd17 => k_is)
    (case kd17 => k_is)
    (case ad18 => k_is)
    (case ld18 => k_is)
    (case cd18 => k_is)
    (case kd18 => k_is)
    (case ad19 => k_is)
    (case ld19 => k_is)
    (case cd19 => k_is)
    (case kd19 => k_is)
    (case ad20 => k_is)
    (case ld20 => k_is)
    (case cd20 => k_is)
    (case kd20 => k_is)
    (case ad21 => k_is)
    (case ld21 => k_is)
    (case cd21 => k_is)
    (case kd21 => k_is)
    (case ad22 => k_is)
    (case ld22 => k_is)
    (case cd22 => k_is)
    (case kd22 => k_is)
    (case ad23 => k_is)
    (case ld23 => k_is)
    (case cd23 => k_is)
    (case kd23 => k_is)
    (case ad24 => k_is)
    (case ld24 => k_is)
    (case cd24 => k_is)
    (case kd24 => k_is)
    (case ad25 => k_is)
    (case ld25 => k_is)
    (case cd25 => k_is)
    (case kd25 => k_is)
    (case ad26 => k_is)
    (case ld26 => k_is)
    (case cd26 => k_is)
    (case kd26 => k_is)
    (case ad27 => k_is)
    (case ld27 => k_is)
    (case cd27 => k_is)
    (case kd27 => k_is)
    (case ad28 => k_is)
    (case ld28 => k_is)
    (case cd28 => k_is)
    (case kd28 => k_is)
    (case ad29 => k_is)
    (case ld29 => k_is)
    (case cd29 => k_is)
    (case kd29 => k_is)
    (case ad30 => k_is)
    (case ld30 => k_is)
    (case cd30 => k_is)
    (case kd30 => k_is)
    (case ad31 => k_is)
    (case ld31 => k_is)
    (case cd31 => k_is)
    (case kd31 => k_is)
    (case ad32 => k_is)
    (case ld32 => k_is)
    (case cd32 => k_is)
    (case kd32 => k_is)
    (case ad33 => k_is)
    (case ld33 => k_is)
    (case cd33 => k_is)
    (case kd33 => k_is)
    (case ad34 => k_is)
    (case ld34 => k_is)
    (case cd34 => k_is)
    (case kd34 => k_is)
    (case hn => k_is)
    (case ht => k_is)
    (case aC => k_is)
    (case pgC => k_is)
    (case hdC => k_is)
    (case poC => k_is)
    (case saC => k_is)
    (case mkC => k_is)
    (case kC => k_is)
    (case haC => k_is)
    (case hmC => k_is)
    (case nC0 => k_is)
    (case nC1 => k_is)
    (case aCT => k_is)
    (case pgCT => k_is)
    (case hdCT => k_is)
    (case poCT => k_is)
    (case saCT => k_is)
    (case mkCT => k_is)
    (case kCT => k_is)
    (case haCT => k_is)
    (case hmCT => k_is)
    (case nCT0 => k_is)
    (case nCT1 => k_is)
    (case nCT2 => k_is)
    (case sf => k_is)
    (case nf => k_is)
    (case ne => k_is)
    (case at0 => k_is)
    (case it0 => k_is)
    (case lt0 => k_is)
    (case ct0 => k_is)
    (case kt0 => k_is)
    (case am0 => k_is)
    (case im0 => k_is)
    (case lm0 => k_is)
    (case cm0 => k_is)
    (case km0 => k_is)
    (case am1 => k_is)
    (case im1 => k_is)
    (case lm1 => k_is)
    (case cm1 => k_is)
    (case km1 => k_is)
    (case am2 => k_is)
    (case im2 => k_is)
    (case lm2 => k_is)
    (case cm2 => k_is)
    (case km2 => k_is)
    (case am3 => k_is)
    (case im3 => k_is)
    (case lm3 => k_is)
    (case cm3 => k_is)
    (case km3 => k_is)
    (case am4 => k_is)
    (case im4 => k_is)
    (case lm4 => k_is)
    (case cm4 => k_is)
    (case km4 => k_is)
    (case am5 => k_is)
    (case im5 => k_is)
    (case lm5 => k_is)
    (case cm5 => k_is)
    (case km5 => k_is)
    (case aq0 => k_is)
    (case iq0 => k_is)
    (case lq0 => k_is)
    (case cq0 => k_is)
    (case kq0 => k_is)
    (case aq1 => k_is)
    (case iq1 => k_is)
    (case lq1 => k_is)
    (case cq1 => k_is)
    (case kq1 => k_is)
    (case aq2 => k_is)
    (case iq2 => k_is)
    (case lq2 => k_is)
    (case cq2 => k_is)
    (case kq2 => k_is)
    (case z_len => k_is)
    (case z_int => k_is)
    (case z_abs => k_is)
    (case z_max => k_is)
    (case z_min => k_is)
    (case z_range => k_is)
    (case z_list => k_is)
    (case z_all => k_is)
    (case z_any => k_is)
    (case z_isinstance => k_is)
    (case z_str => k_is)
    (case z_tuple => k_is)
    (case z_enumerate => k_is)
    (case z_zip => k_is)
    (case z_set => k_is)
    (case z_repr => k_is)
    (case z_sum => k_is)
    (case z_bool => k_is)
    (case kw_non => first | k_is | rfl | with_unfolding_all rfl)
    (case kw_bl => first | k_is | rfl | with_unfolding_all rfl)
    (case kw_int => first | k_is | rfl | with_unfolding_all rfl)
    (case kw_str => first | k_is | rfl | with_unfolding_all rfl)
    (case kw_tup => first | k_is | rfl | with_unfolding_all rfl)
    (case kw_lst => first | k_is | rfl | with_unfolding_all rfl)
    (case kw_dic => first | k_is | rfl | with_unfolding_all rfl)
    (case kt_non => first | k_is | rfl | with_unfolding_all rfl)
    (case kt_bl => first | k_is | rfl | with_unfolding_all rfl)
    (case kt_int => first | k_is | rfl | with_unfolding_all rfl)
    (case kt_str => first | k_is | rfl | with_unfolding_all rfl)
    (case kt_lst => first | k_is | rfl | with_unfolding_all rfl)
    (case kt_dic => first | k_is | rfl | with_unfolding_all rfl)
    (case kt_wd => first | k_is | rfl | with_unfolding_all rfl)
    (case kz_non => first | k_is | rfl | with_unfolding_all rfl)
    (case nz_non => k_is)
    (case kz_bl => first | k_is | rfl | with_unfolding_all rfl)
    (case nz_bl => k_is)
    (case kz_int => first | k_is | rfl | with_unfolding_all rfl)
    (case nz_int => k_is)
    (case kz_str => first | k_is | rfl | with_unfolding_all rfl)
    (case nz_str => k_is)
    (case kz_tup => first | k_is | rfl | with_unfolding_all rfl)
    (case nz_tup => k_is)
    (case kz_lst => first | k_is | rfl | with_unfolding_all rfl)
    (case nz_lst => k_is)
    (case kz_dic => first | k_is | rfl | with_unfolding_all rfl)
    (case nz_dic => k_is)
    (case kz_wd => first | k_is | rfl | with_unfolding_all rfl)
    (case nz_wd => k_is)
    (case nfT => k_is)
    (case neT => k_is)
    (case gL => k_is)
    (case gM => k_is)
    (case gQ => k_is)
    (case gT => k_is)
    (case lq => k_is)
    (case yq => k_keys)
    (case wq => first | rfl | decide | k_is)
    (case lt => k_is)
    (case yt => k_keys)
    (case wt => first | rfl | decide | k_is)
    (case q_II => k_is)
    (case q_IX => k_is)
    (case q_IY => k_is)
    (case q_IZ => k_is)
    (case q_XI => k_is)
    (case q_XX => k_is)
    (case q_XY => k_is)
    (case t_XY => k_is)
    (case q_XZ => k_is)
    (case t_XZ => k_is)
    (case q_YI => k_is)
    (case q_YX => k_is)
    (case t_YX => k_is)
    (case q_YY => k_is)
    (case q_YZ => k_is)
    (case t_YZ => k_is)
    (case q_ZI => k_is)
    (case q_ZX => k_is)
    (case t_ZX => k_is)
    (case q_ZY => k_is)
    (case t_ZY => k_is)
    (case q_ZZ => k_is)
    (case gCB => k_is)
    (case LCB => k_is)
    (case saCB => k_is)
    (case sub_CB => k_is)
    (case tyCB => k_is)
    (case kpCB => k_is)
    (case nvCB => k_is)
    (case inCB => k_is)
    (case gaCB => k_is)
    (case gtCB => k_is)
    (case hdCB => k_is)
    (case haCB => k_is)
    (case hmCB => k_is)
    (case s_CB => first | k_is | rfl)
    (case gCW => k_is)
    (case LCW => k_is)
    (case saCW => k_is)
    (case sub_CW => k_is)
    (case tyCW => k_is)
    (case kpCW => k_is)
    (case nvCW => k_is)
    (case inCW => k_is)
    (case gaCW => k_is)
    (case gtCW => k_is)
    (case hdCW => k_is)
    (case haCW => k_is)
    (case hmCW => k_is)
    (case s_CW => first | k_is | rfl)
    (case gCO => k_is)
    (case LCO => k_is)
    (case saCO => k_is)
    (case sub_CO => k_is)
    (case tyCO => k_is)
    (case kpCO => k_is)
    (case nvCO => k_is)
    (case inCO => k_is)
    (case gaCO => k_is)
    (case gtCO => k_is)
    (case hdCO => k_is)
    (case haCO => k_is)
    (case hmCO => k_is)
    (case s_CO => first | k_is | rfl)
    (case tI => k_is)
    (case lI => k_is)
    (case cI => k_is)
    (case kI => k_is)
    (case gK => k_is)
    (case sK => k_is)
    (case hdK => k_is)
    (case tyK => k_is)
    (case lcA => k_is)
    (case vc => first | rfl | with_unfolding_all rfl)
    (case noP => first | rfl | with_unfolding_all rfl | k_is)
