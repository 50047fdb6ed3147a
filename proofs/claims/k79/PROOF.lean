import PyProof.Rows.All
import Wide.All
import OpenK.AllK
import Wide.FinOn
import HandS.ForMost
import HandS.ForExc
import HandS.Walk
import HandS.IsInst
import HandS.Property
import HandS.StrMore
import HandS.Wide
import HandS.Conv
import HandS.ExcInit
import HandS.Flow
import HandS.Lambda
import HandS.CallSlots
import HandS.ExcOwn
import HandS.Comp
import HandS.Iter
import KE.KOpsOwn
import KE.KFmtOwn
import HandS.Zip0
import PyProof.StrLoop
import HandS.More
import HandS.Text
import OpenK.KOps
import HandS.ExcValue
import HandS.TupAny
import KE.KExcIs
import HandS.Codes
import HandS.NoneIn
import HandS.Star
import KE.KUnpackStar
import KE.DatumOrd
import KE.GoesMore
import KE.GoesEnum
import HandS.EndBits
import HandS.Gcd
import HandS.FStr
import HandS.SetFor
import HandS.Strs
import OpenK.KWalk
import HandS.EndTab
import KE.KDictZip
import HandS.GenList
import HandS.List
import PyProof.ReprLen
import HandS.OwnEq
import PyProof.ListStr
import PyProof.SliceStr2
import KE.KDictCopyH
import KE.KTupTabMore
import PyProof.DictRoadsH
import HandS.ExcIs
import HandS.Defaults
import PySem.Challenge.RW_looseknobs_k79_tables_by_hand
set_option Elab.async false
set_option linter.all false
set_option maxRecDepth 100000
set_option maxHeartbeats 4000000
set_option autoImplicit false
namespace Dl
open PySem PySem.Spec PyProof.Rows L2
/-! ## data -/
inductive D where
  | non | bl (b : Bool) | int (i : Int) | str (x : Str) | ty (n : String) | adr (a : Addr)
  | tup (ds : List D) | lst (ds : List D) | dic (ks : List Key) (ds : List D)
  | ins (C : Addr) (ns : List Str) (ds : List D) | exc (C : Addr) (d : D) | sc (ns : List Int)
/-- an exception that was caught, at a -/
def ExO (C dx a : Addr) : HO := .ext fun h => ∃ oe vs, h.get? a = some oe ∧ Zc (.ref C) (some dx) oe ∧ oe.data = .fields vs
mutual
inductive Rep (K : PySem.W.Frag) (F : Hp) : V → D → Prop
  | non : Rep K F .non .non
  | bl (b) : Rep K F (.bl b) (.bl b)
  | int (i) : Rep K F (.int i) (.int i)
  | str (x) : Rep K F (.str x) (.str x)
  | ty (n) : Rep K F (.ty n) (.ty n)
  | adr (a) : Rep K F (.ref a) (.adr a)
  | tup {a vs ds} : SqT K F a vs → Reps K F vs ds → Rep K F (.ref a) (.tup ds)
  | lst {a vs ds} : F a = some (.lst vs) → Reps K F vs ds → Rep K F (.ref a) (.lst ds)
  | dic {a} {kvs : List (Key × V)} {ds} : F a = some (.dK kvs) → Reps K F (kvs.map (·.2)) ds → Rep K F (.ref a) (.dic (kvs.map (·.1)) ds)
  | ins {a C dx} {fs : List (Str × V)} {ds} : F a = some (.ins C dx fs) → Reps K F (fs.map (·.2)) ds → Rep K F (.ref a) (.ins C (fs.map (·.1)) ds)
  | exc {a C dx v d} : F a = some (ExO C dx a) → F dx = some (.xd [("value", v)]) → Rep K F v d → Rep K F (.ref a) (.exc C d)
  | sc {a ns} : SqL K F a (ns.map V.int) → Rep K F (.ref a) (.sc ns)
inductive Reps (K : PySem.W.Frag) (F : Hp) : List V → List D → Prop
  | nil : Reps K F [] []
  | cons {v d vs ds} : Rep K F v d → Reps K F vs ds → Reps K F (v :: vs) (d :: ds)
end
theorem same_sqT {K : PySem.W.Frag} {H H' : Hp} {a : Addr} {xs : List V} (e : Same H H') (h : SqT K H a xs) : SqT K H' a xs := by
  rcases h with (h | ⟨o, h⟩) | h
  · exact .inl (.inl (e _ _ h))
  · exact .inl (.inr ⟨o, e _ _ h⟩)
  · exact .inr h
theorem same_sqL {K : PySem.W.Frag} {H H' : Hp} {a : Addr} {xs : List V} (e : Same H H') (h : SqL K H a xs) : SqL K H' a xs := by
  rcases h with (h | ⟨o, h⟩) | h
  · exact .inl (.inl (e _ _ h))
  · exact .inl (.inr ⟨o, e _ _ h⟩)
  · exact .inr h
mutual
theorem Rep.mono {K : PySem.W.Frag} {F F' : Hp} (e : Same F F') : ∀ {v d}, Rep K F v d → Rep K F' v d
  | _, _, .non => .non
  | _, _, .bl b => .bl b
  | _, _, .int b => .int b
  | _, _, .str b => .str b
  | _, _, .ty b => .ty b
  | _, _, .adr b => .adr b
  | _, _, .tup h r => .tup (same_sqT e h) (Reps.mono e r)
  | _, _, .lst h r => .lst (e _ _ h) (Reps.mono e r)
  | _, _, .dic h r => .dic (e _ _ h) (Reps.mono e r)
  | _, _, .ins h r => .ins (e _ _ h) (Reps.mono e r)
  | _, _, .exc h k r => .exc (e _ _ h) (e _ _ k) (Rep.mono e r)
  | _, _, .sc h => .sc (same_sqL e h)
theorem Reps.mono {K : PySem.W.Frag} {F F' : Hp} (e : Same F F') : ∀ {v d}, Reps K F v d → Reps K F' v d
  | _, _, .nil => .nil
  | _, _, .cons a b => .cons (Rep.mono e a) (Reps.mono e b)
end
theorem Reps.length {K : PySem.W.Frag} {F : Hp} : ∀ {vs ds}, Reps K F vs ds → vs.length = ds.length
  | _, _, .nil => rfl
  | _, _, .cons _ t => congrArg (· + 1) (Reps.length t)
theorem Reps.get {K : PySem.W.Frag} {F : Hp} : ∀ {vs ds} {i : Nat} {d : D}, Reps K F vs ds → ds[i]? = some d → ∃ v, vs[i]? = some v ∧ Rep K F v d
  | _, _, _, _, .nil, e => by simp at e
  | _, _, 0, _, .cons r _, e => by simp at e; subst e; exact ⟨_, rfl, r⟩
  | _, _, i + 1, x, .cons _ t, e => by
    obtain ⟨u, h1, h2⟩ := Reps.get (i := i) (d := x) t (by simpa using e)
    exact ⟨u, by simpa using h1, h2⟩
theorem Reps.get' {K : PySem.W.Frag} {F : Hp} : ∀ {vs ds} {i : Nat} {v : V}, Reps K F vs ds → vs[i]? = some v → ∃ d, ds[i]? = some d ∧ Rep K F v d
  | _, _, _, _, .nil, e => by simp at e
  | _, _, 0, _, .cons r _, e => by simp at e; subst e; exact ⟨_, rfl, r⟩
  | _, _, i + 1, x, .cons _ t, e => by
    obtain ⟨u, h1, h2⟩ := Reps.get' (i := i) (v := x) t (by simpa using e)
    exact ⟨u, by simpa using h1, h2⟩
theorem Reps.append {K : PySem.W.Frag} {F : Hp} : ∀ {vs ds ws es}, Reps K F vs ds → Reps K F ws es → Reps K F (vs ++ ws) (ds ++ es)
  | _, _, _, _, .nil, s => s
  | _, _, _, _, .cons r t, s => .cons r (Reps.append t s)
theorem Reps.take {K : PySem.W.Frag} {F : Hp} : ∀ {vs ds} (n : Nat), Reps K F vs ds → Reps K F (vs.take n) (ds.take n)
  | _, _, 0, _ => .nil
  | _, _, _ + 1, .nil => .nil
  | _, _, n + 1, .cons r t => .cons r (Reps.take n t)
theorem Reps.drop {K : PySem.W.Frag} {F : Hp} : ∀ {vs ds} (n : Nat), Reps K F vs ds → Reps K F (vs.drop n) (ds.drop n)
  | _, _, 0, r => r
  | _, _, _ + 1, .nil => .nil
  | _, _, n + 1, .cons _ t => Reps.drop n t
theorem Reps.set {K : PySem.W.Frag} {F : Hp} {v : V} {d : D} (r : Rep K F v d) : ∀ {vs ds} (i : Nat), Reps K F vs ds → Reps K F (vs.set i v) (ds.set i d)
  | _, _, _, .nil => .nil
  | _, _, 0, .cons _ t => .cons r t
  | _, _, i + 1, .cons q t => .cons q (Reps.set r i t)
/-! ## slots, what changes -/
inductive S where
  | p (d : D) | l (j : Nat)
inductive M where
  | lst (ds : List D) | dic (ks : List Key) (ds : List D) | obj (C : Addr) (ns : List Str) (ds : List D) | gone | tab (P : Addr) (q : Str) | pin (b : Addr) (m : M)
def RepS (K : PySem.W.Frag) (F : Hp) (A : List Addr) (v : V) : S → Prop
  | .p d => Rep K F v d
  | .l j => ∃ a, v = .ref a ∧ A[j]? = some a
theorem getElem?_pre {α : Type} {A A' : List α} (p : A <+: A') {j : Nat} {a : α} (h : A[j]? = some a) : A'[j]? = some a := by
  obtain ⟨B, rfl⟩ := p
  rw [List.getElem?_append_left (List.getElem?_eq_some_iff.mp h).1]
  exact h
theorem RepS.mono {K : PySem.W.Frag} {F F' : Hp} {A A' : List Addr} (e : Same F F') (p : A <+: A') {v : V} : ∀ {s}, RepS K F A v s → RepS K F' A' v s
  | .p _, h => Rep.mono e h
  | .l _, ⟨a, h1, h2⟩ => ⟨a, h1, getElem?_pre p h2⟩
inductive RepSs (K : PySem.W.Frag) (F : Hp) (A : List Addr) : List V → List S → Prop
  | nil : RepSs K F A [] []
  | cons {v s vs ss} : RepS K F A v s → RepSs K F A vs ss → RepSs K F A (v :: vs) (s :: ss)
theorem RepSs.mono {K : PySem.W.Frag} {F F' : Hp} {A A' : List Addr} (e : Same F F') (p : A <+: A') : ∀ {vs ss}, RepSs K F A vs ss → RepSs K F' A' vs ss
  | _, _, .nil => .nil
  | _, _, .cons a b => .cons (a.mono e p) (RepSs.mono e p b)
theorem RepSs.length {K : PySem.W.Frag} {F : Hp} {A : List Addr} : ∀ {vs ss}, RepSs K F A vs ss → vs.length = ss.length
  | _, _, .nil => rfl
  | _, _, .cons _ t => congrArg (· + 1) (RepSs.length t)
theorem RepSs.append {K : PySem.W.Frag} {F : Hp} {A : List Addr} : ∀ {vs ss vs' ss'}, RepSs K F A vs ss → RepSs K F A vs' ss' → RepSs K F A (vs ++ vs') (ss ++ ss')
  | _, _, _, _, .nil, s => s
  | _, _, _, _, .cons r t, s => .cons r (RepSs.append t s)
def MOk (K : PySem.W.Frag) (F : Hp) (A : List Addr) (H : Hp) (a : Addr) : M → Prop
  | .lst ds => ∃ vs, H a = some (.lst vs) ∧ Reps K F vs ds
  | .dic ks ds => ∃ kvs, H a = some (.dK kvs) ∧ kvs.map (·.1) = ks ∧ Reps K F (kvs.map (·.2)) ds
  | .obj C ns ds => ∃ dx fs, H a = some (.ins C dx fs) ∧ fs.map (·.1) = ns ∧ Reps K F (fs.map (·.2)) ds
  | .gone => ∃ o, H a = some o
  | .tab P q => a = P ∧ ∃ ps : Array Value, H a = some (.tbl ps) ∧ TriplesOk ps.toList ∧ ∀ (pos : Pos) (cv : Value), codeAmong pos ps.toList = some cv → ∃ c, cv = .ref c ∧ F c = some (LamX.CodeO c q)
  | .pin b m => a = b ∧ MOk K F A H a m
theorem MOk.there {K : PySem.W.Frag} {F : Hp} {A : List Addr} {H : Hp} {a : Addr} : ∀ {m}, MOk K F A H a m → ∃ o, H a = some o
  | .lst _, ⟨_, h, _⟩ => ⟨_, h⟩
  | .dic _ _, ⟨_, h, _⟩ => ⟨_, h⟩
  | .obj _ _ _, ⟨_, _, h, _⟩ => ⟨_, h⟩
  | .gone, h => h
  | .tab _ _, ⟨_, ps, h, _⟩ => ⟨_, h⟩
  | .pin _ _, ⟨_, h⟩ => MOk.there h
theorem MOk.mono {K : PySem.W.Frag} {F F' : Hp} {A A' : List Addr} {H H' : Hp} {a : Addr} (e : Same F F') (p : A <+: A') (k : H' a = H a) : ∀ {m}, MOk K F A H a m → MOk K F' A' H' a m
  | .lst _, ⟨vs, h, r⟩ => ⟨vs, by rw [k]; exact h, r.mono e⟩
  | .dic _ _, ⟨kvs, h, q, r⟩ => ⟨kvs, by rw [k]; exact h, q, r.mono e⟩
  | .obj _ _ _, ⟨dx, fs, h, q, r⟩ => ⟨dx, fs, by rw [k]; exact h, q, r.mono e⟩
  | .gone, ⟨o, h⟩ => ⟨o, by rw [k]; exact h⟩
  | .tab _ _, ⟨e1, ps, h, t, g⟩ => ⟨e1, ps, by rw [k]; exact h, t, fun pos cv q => by
      obtain ⟨c, q1, q2⟩ := g pos cv q
      exact ⟨c, q1, e _ _ q2⟩⟩
  | .pin _ _, ⟨e1, h⟩ => ⟨e1, MOk.mono e p k h⟩
theorem MOk.cut {K : PySem.W.Frag} {F : Hp} {A A' : List Addr} {H : Hp} {a : Addr} : ∀ {m}, MOk K F A H a m → MOk K F A' H a m
  | .lst _, h => h
  | .dic _ _, h => h
  | .obj _ _ _, h => h
  | .gone, h => h
  | .tab _ _, h => h
  | .pin _ _, ⟨e1, h⟩ => ⟨e1, MOk.cut h⟩
/-- where a def began -/
structure En where
  K : PySem.W.Frag
  H0 : Hp
  F0 : Hp
  A0 : List Addr
def notGone : M → Prop
  | .gone => False
  | _ => True
structure Rc (N : En) (F : Hp) (A : List Addr) (H : Hp) (μ : List M) : Prop where
  sub : Same F H
  base : Same N.F0 F
  new : ∀ a o, F a = some o → (∃ o', N.F0 a = some o') ∨ N.H0 a = none
  keep : ∀ a o, N.H0 a = some o → a ∉ N.A0 → H a = some o
  pre : ∃ B, A = N.A0 ++ B ∧ ∀ b ∈ B, N.H0 b = none
  nd : A.Nodup
  len : A.length = μ.length
  mus : ∀ (j : Nat) (a : Addr) (m : M), A[j]? = some a → μ[j]? = some m → MOk N.K F A H a m
  fr : ∀ (j : Nat) (a : Addr) (m : M), A[j]? = some a → μ[j]? = some m → notGone m → F a = none
structure Rl (N : En) (F : Hp) (A : List Addr) (H : Hp) (σ : L2.St) (δ : List (Option S)) (μ : List M) : Prop where
  rc : Rc N F A H μ
  len : δ.length = σ.length
  sl : ∀ (i : Nat) (s : S), δ[i]? = some (some s) → ∃ v, σ[i]? = some (some v) ∧ RepS N.K F A v s
theorem Rc.at {N : En} {F : Hp} {A : List Addr} {H : Hp} {μ : List M} (r : Rc N F A H μ) {j : Nat} {a : Addr} (h : A[j]? = some a) : ∃ m, μ[j]? = some m ∧ MOk N.K F A H a m := by
  have hj := (List.getElem?_eq_some_iff.mp h).1
  rw [r.len] at hj
  exact ⟨μ[j], List.getElem?_eq_getElem hj, r.mus j a _ h (List.getElem?_eq_getElem hj)⟩
theorem Rc.there {N : En} {F : Hp} {A : List Addr} {H : Hp} {μ : List M} (r : Rc N F A H μ) {a : Addr} (h : a ∈ A) : ∃ o, H a = some o := by
  obtain ⟨j, hj⟩ := List.getElem?_of_mem h
  obtain ⟨m, _, k⟩ := r.at hj
  exact k.there
theorem Rc.fresh {N : En} {F : Hp} {A : List Addr} {H : Hp} {μ : List M} (r : Rc N F A H μ) {p : Addr} (h : H p = none) : N.H0 p = none ∧ F p = none ∧ p ∉ A := by
  have hA : p ∉ A := fun hm => by
    obtain ⟨o, e⟩ := r.there hm
    rw [h] at e; cases e
  refine ⟨?_, r.sub.free h, hA⟩
  cases e : N.H0 p with
  | none => rfl
  | some o =>
    obtain ⟨B, rfl, _⟩ := r.pre
    rw [r.keep p o e fun hm => hA (List.mem_append_left _ hm)] at h
    cases h
theorem ne_mem {A : List Addr} {p a : Addr} {j : Nat} (h : p ∉ A) (h1 : A[j]? = some a) : a ≠ p := fun z => h (by rw [← z]; exact List.mem_of_getElem? h1)
theorem nodup_at {α : Type} {A : List α} (nd : A.Nodup) {i j : Nat} {a : α} (h1 : A[i]? = some a) (h2 : A[j]? = some a) : i = j := by
  obtain ⟨l1, e1⟩ := List.getElem?_eq_some_iff.mp h1
  obtain ⟨l2, e2⟩ := List.getElem?_eq_some_iff.mp h2
  exact (List.getElem_inj nd).mp (e1.trans e2.symm)
theorem ne_at {A : List Addr} (nd : A.Nodup) {i j : Nat} {a b : Addr} (hi : i ≠ j) (h1 : A[i]? = some b) (h2 : A[j]? = some a) : b ≠ a := fun z => hi (nodup_at nd h1 (by rw [z]; exact h2))
theorem same_updN {H : Hp} {p : Addr} {o : HO} (h : H p = none) : Same H (upd H p o) := fun b x e => by
  rw [upd_ne (ne_of_none e h)]
  exact e
/-- a new frozen object -/
theorem Rc.frozen {N : En} {F : Hp} {A : List Addr} {H : Hp} {μ : List M} (r : Rc N F A H μ) {p : Addr} (h : H p = none) (o : HO) : Rc N (upd F p o) A (upd H p o) μ where
  sub := fun b x e => by
    by_cases hb : b = p
    · subst hb; rw [upd_same] at e ⊢; exact e
    · rw [upd_ne hb] at e ⊢; exact r.sub b x e
  base := r.base.trans (same_updN (r.fresh h).2.1)
  new := fun a x e => by
    by_cases hb : a = p
    · subst hb; exact .inr (r.fresh h).1
    · rw [upd_ne hb] at e; exact r.new a x e
  keep := fun a x e hA => by
    rw [upd_ne (ne_of_none e (r.fresh h).1)]
    exact r.keep a x e hA
  pre := r.pre
  nd := r.nd
  len := r.len
  mus := fun j a m h1 h2 => (r.mus j a m h1 h2).mono (same_updN (r.fresh h).2.1) (List.prefix_refl _) (upd_ne (ne_mem (r.fresh h).2.2 h1))
  fr := fun j a m h1 h2 h3 => by
    rw [upd_ne (ne_mem (r.fresh h).2.2 h1)]
    exact r.fr j a m h1 h2 h3
/-- a new object of no further interest -/
theorem Rc.junk {N : En} {F : Hp} {A : List Addr} {H : Hp} {μ : List M} (r : Rc N F A H μ) {p : Addr} (h : H p = none) (o : HO) : Rc N F A (upd H p o) μ where
  sub := r.sub.trans (same_updN h)
  base := r.base
  new := r.new
  keep := fun a x e hA => by
    rw [upd_ne (ne_of_none e (r.fresh h).1)]
    exact r.keep a x e hA
  pre := r.pre
  nd := r.nd
  len := r.len
  mus := fun j a m h1 h2 => (r.mus j a m h1 h2).mono (Same.refl _) (List.prefix_refl _) (upd_ne (ne_mem (r.fresh h).2.2 h1))
  fr := r.fr
/-- a new object that changes -/
theorem Rc.newM {N : En} {F : Hp} {A : List Addr} {H : Hp} {μ : List M} (r : Rc N F A H μ) {p : Addr} (h : H p = none) {o : HO} {m : M} (ok : MOk N.K F (A ++ [p]) (upd H p o) p m) : Rc N F (A ++ [p]) (upd H p o) (μ ++ [m]) where
  sub := r.sub.trans (same_updN h)
  base := r.base
  new := r.new
  keep := fun a x e hA => by
    rw [upd_ne (ne_of_none e (r.fresh h).1)]
    exact r.keep a x e hA
  pre := by
    obtain ⟨B, rfl, hB⟩ := r.pre
    refine ⟨B ++ [p], List.append_assoc .., fun b hb => ?_⟩
    rcases List.mem_append.mp hb with hb | hb
    · exact hB b hb
    · rw [List.mem_singleton] at hb; subst hb; exact (r.fresh h).1
  nd := List.nodup_append.mpr ⟨r.nd, by simp, fun a ha b hb => by
    rw [List.mem_singleton] at hb; subst hb
    intro z; subst z; exact (r.fresh h).2.2 ha⟩
  len := by simp [r.len]
  mus := fun j a m' h1 h2 => by
    by_cases hj : j < A.length
    · rw [List.getElem?_append_left hj] at h1
      rw [List.getElem?_append_left (by rw [← r.len]; exact hj)] at h2
      exact (r.mus j a m' h1 h2).mono (Same.refl _) (List.prefix_append _ _) (upd_ne (ne_mem (r.fresh h).2.2 h1))
    · rw [List.getElem?_append_right (by omega)] at h1
      rw [List.getElem?_append_right (by rw [← r.len]; omega), ← r.len] at h2
      have e : j - A.length = 0 := by
        have := (List.getElem?_eq_some_iff.mp h1).1
        simp at this; omega
      rw [e] at h1 h2
      simp at h1 h2
      subst h1 h2
      exact ok
  fr := fun j a m' h1 h2 h3 => by
    by_cases hj : j < A.length
    · rw [List.getElem?_append_left hj] at h1
      rw [List.getElem?_append_left (by rw [← r.len]; exact hj)] at h2
      exact r.fr j a m' h1 h2 h3
    · rw [List.getElem?_append_right (by omega)] at h1
      have e : j - A.length = 0 := by
        have := (List.getElem?_eq_some_iff.mp h1).1
        simp at this; omega
      rw [e] at h1
      simp at h1
      subst h1
      exact (r.fresh h).2.1
/-- a changing object is changed -/
theorem Rc.write {N : En} {F : Hp} {A : List Addr} {H : Hp} {μ : List M} (r : Rc N F A H μ) {j : Nat} {a : Addr} {m m' : M} (ha : A[j]? = some a) (hm : μ[j]? = some m) (ng : notGone m) {o : HO} (ok : MOk N.K F A (upd H a o) a m') : Rc N F A (upd H a o) (μ.set j m') where
  sub := fun b x e => by
    have hb : b ≠ a := fun z => by rw [z, r.fr j a m ha hm ng] at e; cases e
    rw [upd_ne hb]; exact r.sub b x e
  base := r.base
  new := r.new
  keep := fun b x e hA => by
    by_cases hb : b = a
    · subst hb
      obtain ⟨B, rfl, hB⟩ := r.pre
      rcases List.mem_append.mp (List.mem_of_getElem? ha) with h | h
      · exact absurd h hA
      · rw [hB _ h] at e; cases e
    · rw [upd_ne hb]; exact r.keep b x e hA
  pre := r.pre
  nd := r.nd
  len := by simp [r.len]
  mus := fun i b n h1 h2 => by
    by_cases hi : i = j
    · subst hi
      rw [ha] at h1; cases h1
      rw [List.getElem?_set_self (List.getElem?_eq_some_iff.mp hm).1] at h2
      cases h2
      exact ok
    · rw [List.getElem?_set_ne (Ne.symm hi)] at h2
      exact (r.mus i b n h1 h2).mono (Same.refl _) (List.prefix_refl _) (upd_ne (ne_at r.nd hi h1 ha))
  fr := fun i b n h1 h2 h3 => by
    by_cases hi : i = j
    · subst hi
      rw [ha] at h1; cases h1
      exact r.fr i _ m ha hm ng
    · rw [List.getElem?_set_ne (Ne.symm hi)] at h2
      exact r.fr i b n h1 h2 h3
/-- an own list is frozen -/
theorem Rc.freeze {N : En} {F : Hp} {A : List Addr} {H : Hp} {μ : List M} (r : Rc N F A H μ) {j : Nat} {a : Addr} {m : M} (ha : A[j]? = some a) (hm : μ[j]? = some m) (ng : notGone m) (hj : N.A0.length ≤ j) {o : HO} (ho : H a = some o) :
    Rc N (upd F a o) A H (μ.set j .gone) ∧ Same F (upd F a o) := by
  have hF := r.fr j a m ha hm ng
  have sm : Same F (upd F a o) := same_updN hF
  refine ⟨⟨fun b x e => ?_, r.base.trans sm, fun b x e => ?_, r.keep, r.pre, r.nd, by simp [r.len], fun i b n h1 h2 => ?_, fun i b n h1 h2 h3 => ?_⟩, sm⟩
  · by_cases hb : b = a
    · subst hb; rw [upd_same] at e; cases e; exact ho
    · rw [upd_ne hb] at e; exact r.sub b x e
  · by_cases hb : b = a
    · subst hb
      obtain ⟨B, rfl, hB⟩ := r.pre
      rw [List.getElem?_append_right hj] at ha
      exact .inr (hB _ (List.mem_of_getElem? ha))
    · rw [upd_ne hb] at e; exact r.new b x e
  · by_cases hi : i = j
    · subst hi
      rw [ha] at h1; cases h1
      rw [List.getElem?_set_self (List.getElem?_eq_some_iff.mp hm).1] at h2
      cases h2
      exact ⟨o, ho⟩
    · rw [List.getElem?_set_ne (Ne.symm hi)] at h2
      exact (r.mus i b n h1 h2).mono sm (List.prefix_refl _) rfl
  · by_cases hi : i = j
    · subst hi
      rw [List.getElem?_set_self (List.getElem?_eq_some_iff.mp hm).1] at h2
      cases h2
      exact h3.elim
    · rw [List.getElem?_set_ne (Ne.symm hi)] at h2
      rw [upd_ne (ne_at r.nd hi h1 ha)]
      exact r.fr i b n h1 h2 h3
/-- the last ones are let go -/
theorem Rc.trim {N : En} {F : Hp} {A : List Addr} {H : Hp} {μ : List M} (r : Rc N F A H μ) {n : Nat} (hn : N.A0.length ≤ n) : Rc N F (A.take n) H (μ.take n) := by
  have pp : A.take n <+: A := List.take_prefix _ _
  refine ⟨r.sub, r.base, r.new, r.keep, ?_, r.nd.sublist (List.take_sublist _ _), by simp [r.len], fun j a m h1 h2 => ?_, fun j a m h1 h2 h3 => ?_⟩
  · obtain ⟨B, rfl, hB⟩ := r.pre
    refine ⟨B.take (n - N.A0.length), ?_, fun b hb => hB b (List.mem_of_mem_take hb)⟩
    rw [List.take_append, List.take_of_length_le hn]
  · have k := r.mus j a m (getElem?_pre pp h1) (getElem?_pre (List.take_prefix _ _) h2)
    exact k.cut
  · exact r.fr j a m (getElem?_pre pp h1) (getElem?_pre (List.take_prefix _ _) h2) h3
theorem Rl.to {N : En} {F F' : Hp} {A A' : List Addr} {H H' : Hp} {σ : L2.St} {δ : List (Option S)} {μ μ' : List M} (r : Rl N F A H σ δ μ) (e : Same F F') (p : A <+: A') (r' : Rc N F' A' H' μ') : Rl N F' A' H' σ δ μ' :=
  ⟨r', r.len, fun i s h => by
    obtain ⟨v, h1, h2⟩ := r.sl i s h
    exact ⟨v, h1, h2.mono e p⟩⟩
theorem Rl.set {N : En} {F : Hp} {A : List Addr} {H : Hp} {σ : L2.St} {δ : List (Option S)} {μ : List M} (r : Rl N F A H σ δ μ) {i : Nat} {v : V} {s : S} (h : RepS N.K F A v s) : Rl N F A H (σ.set i (some v)) (δ.set i (some s)) μ :=
  ⟨r.rc, by simp [r.len], fun j t e => by
    by_cases hj : j = i
    · subst hj
      have hl : j < δ.length := by
        have := (List.getElem?_eq_some_iff.mp e).1
        simpa using this
      rw [List.getElem?_set_self hl] at e
      cases e
      exact ⟨v, List.getElem?_set_self (by rw [← r.len]; exact hl), h⟩
    · rw [List.getElem?_set_ne (Ne.symm hj)] at e ⊢
      exact r.sl j t e⟩
/-! ## results, judgements -/
inductive Rx where
  | v (s : S) | x (C : Addr) (d : D)
inductive Os where
  | nx (δ : List (Option S)) (μ : List M) | rt (s : S) (μ : List M) | xx (C : Addr) (d : D) (δ : List (Option S)) (μ : List M)
  | bk (δ : List (Option S)) (μ : List M) | ct (δ : List (Option S)) (μ : List M)
def EndE (N : En) (W : WX) (σ : L2.St) (δ : List (Option S)) (F : Hp) (A : List Addr) (μ' : List M) (Q : VK) : Rx → Prop
  | .v s => ∀ v F' A' H', Same F F' → A <+: A' → Rl N F' A' H' σ δ μ' → RepS N.K F' A' v s → Q v H'
  | .x C d => ∀ dx v F' A' H', Same F F' → A <+: A' → Rl N F' A' H' σ δ μ' → F' dx = some (.xd [("value", v)]) → Rep N.K F' v d → W (.ref C) (some dx) σ H'
def tD (N : En) (W : WX) (δ : List (Option S)) (μ : List M) (r : Rx) (μ' : List M) : TE := fun σ H Q => ∃ F A, Rl N F A H σ δ μ ∧ EndE N W σ δ F A μ' Q r
def DE (X : Cx) (N : En) (W : WX) (δ : List (Option S)) (μ : List M) (e : Expr) (r : Rx) (μ' : List M) : Prop := PE X e (tD N W δ μ r μ')
def tDT (N : En) (W : WX) (δ : List (Option S)) (μ : List M) (b : Bool) (μ' : List M) : TT := fun σ H Q => ∃ F A, Rl N F A H σ δ μ ∧ ∀ F' A' H', Same F F' → A <+: A' → Rl N F' A' H' σ δ μ' → Q b H'
def DT (X : Cx) (N : En) (W : WX) (δ : List (Option S)) (μ : List M) (e : Expr) (b : Bool) (μ' : List M) : Prop := PT X e (tDT N W δ μ b μ')
def DW (X : Cx) (N : En) (W : WX) (δ : List (Option S)) (μ : List M) (e : Expr) (b : Bool) (μ' : List M) : Prop := PW X e (tDT N W δ μ b μ')
def tDA (N : En) (W : WX) (δ : List (Option S)) (μ : List M) (ss : List S) (μ' : List M) : TA := fun σ H Q => ∃ F A, Rl N F A H σ δ μ ∧ ∀ vs F' A' H', Same F F' → A <+: A' → Rl N F' A' H' σ δ μ' → RepSs N.K F' A' vs ss → Q vs H'
def DA (X : Cx) (N : En) (W : WX) (δ : List (Option S)) (μ : List M) (es : List Expr) (ss : List S) (μ' : List M) : Prop := PA X es (tDA N W δ μ ss μ')
def EndS (N : En) (W : WX) (F : Hp) (A : List Addr) (K : Ends) : Os → Prop
  | .nx δ' μ' => ∀ σ' F' A' H', Same F F' → A <+: A' → Rl N F' A' H' σ' δ' μ' → K.nx σ' H'
  | .bk δ' μ' => ∀ σ' F' A' H', Same F F' → A <+: A' → Rl N F' A' H' σ' δ' μ' → K.bk σ' H'
  | .ct δ' μ' => ∀ σ' F' A' H', Same F F' → A <+: A' → Rl N F' A' H' σ' δ' μ' → K.ct σ' H'
  | .rt s μ' => ∀ v F' A' H', Same F F' → A <+: A' → Rc N F' A' H' μ' → RepS N.K F' A' v s → K.rt v H'
  | .xx C d δ' μ' => ∀ σ' dx v F' A' H', Same F F' → A <+: A' → Rl N F' A' H' σ' δ' μ' → F' dx = some (.xd [("value", v)]) → Rep N.K F' v d → W (.ref C) (some dx) σ' H'
def tDS (N : En) (W : WX) (δ : List (Option S)) (μ : List M) (o : Os) : TS := fun K σ H => ∃ F A, Rl N F A H σ δ μ ∧ EndS N W F A K o
def DS (X : Cx) (N : En) (W : WX) (δ : List (Option S)) (μ : List M) (st : Stmt) (o : Os) : Prop := PS X st (tDS N W δ μ o)
def DSs (X : Cx) (N : En) (W : WX) (δ : List (Option S)) (μ : List M) (sts : List Stmt) (o : Os) : Prop := PSs X sts (tDS N W δ μ o)
theorem PE.imp {X : Cx} {e : Expr} {t t' : TE} (h : PE X e t) (w : ∀ σ H Q, t' σ H Q → t σ H Q) : PE X e t' := ⟨fun p s σ H Q I q => h.run p s σ H Q I (w σ H Q q)⟩
theorem PT.imp {X : Cx} {e : Expr} {t t' : TT} (h : PT X e t) (w : ∀ σ H Q, t' σ H Q → t σ H Q) : PT X e t' := ⟨fun p s σ H Q I q => h.run p s σ H Q I (w σ H Q q)⟩
theorem PW.imp {X : Cx} {e : Expr} {t t' : TT} (h : PW X e t) (w : ∀ σ H Q, t' σ H Q → t σ H Q) : PW X e t' := ⟨fun wh p s σ H Q I q => h.run wh p s σ H Q I (w σ H Q q)⟩
theorem PA.imp {X : Cx} {e : List Expr} {t t' : TA} (h : PA X e t) (w : ∀ σ H Q, t' σ H Q → t σ H Q) : PA X e t' := ⟨fun po p s σ H Q I q => h.run po p s σ H Q I (w σ H Q q)⟩
theorem PS.imp {X : Cx} {e : Stmt} {t t' : TS} (h : PS X e t) (w : ∀ D σ H, t' D σ H → t D σ H) : PS X e t' := ⟨fun p s σ H D I q => h.run p s σ H D I (w D σ H q)⟩
theorem PSs.imp {X : Cx} {e : List Stmt} {t t' : TS} (h : PSs X e t) (w : ∀ D σ H, t' D σ H → t D σ H) : PSs X e t' := ⟨fun p s σ H D I q => h.run p s σ H D I (w D σ H q)⟩
/-- the heap may be taken as it is at the end -/
theorem EndE.to {N : En} {W : WX} {σ : L2.St} {δ : List (Option S)} {F F1 : Hp} {A A1 : List Addr} {μ' : List M} {Q : VK} (e : Same F F1) (p : A <+: A1) : ∀ {r}, EndE N W σ δ F A μ' Q r → EndE N W σ δ F1 A1 μ' Q r
  | .v _, h => fun v F' A' H' e' p' => h v F' A' H' (e.trans e') (p.trans p')
  | .x _ _, h => fun dx v F' A' H' e' p' => h dx v F' A' H' (e.trans e') (p.trans p')
theorem EndS.to {N : En} {W : WX} {F F1 : Hp} {A A1 : List Addr} {K : Ends} (e : Same F F1) (p : A <+: A1) : ∀ {o}, EndS N W F A K o → EndS N W F1 A1 K o
  | .nx _ _, h => fun σ F' A' H' e' p' => h σ F' A' H' (e.trans e') (p.trans p')
  | .bk _ _, h => fun σ F' A' H' e' p' => h σ F' A' H' (e.trans e') (p.trans p')
  | .ct _ _, h => fun σ F' A' H' e' p' => h σ F' A' H' (e.trans e') (p.trans p')
  | .rt _ _, h => fun σ F' A' H' e' p' => h σ F' A' H' (e.trans e') (p.trans p')
  | .xx _ _ _ _, h => fun σ dx v F' A' H' e' p' => h σ dx v F' A' H' (e.trans e') (p.trans p')
end Dl
set_option Elab.async false
set_option linter.all false
set_option maxRecDepth 100000
set_option maxHeartbeats 4000000
set_option autoImplicit false
namespace Dl
open PySem PySem.Spec PyProof.Rows L2
section
variable {X : Cx} {N : En} {W : WX} {δ δ' δ1 δ2 : List (Option S)} {μ μ' μ1 μ2 μ3 : List M} {e a b c : Expr} {pos : Pos} {d : D} {s s1 s2 : S} {r : Rx}
theorem EndE.here {σ : L2.St} {F : Hp} {A : List Addr} {Q : VK} {H : Hp} {v : V} (k : EndE N W σ δ F A μ Q (.v s)) (R : Rl N F A H σ δ μ) (h : RepS N.K F A v s) : Q v H := k v F A H (Same.refl _) (List.prefix_refl _) R h
/-! ### names and constants -/
theorem de_c {v : V} (h : PE X e (tC v)) (q : ∀ K F, Rep K F v d) : DE X N W δ μ e (.v (.p d)) μ :=
  PE.imp h fun σ H Q ⟨F, A, R, k⟩ => k.here R (q _ _)
theorem de_int {i : Int} {j} : DE X N W δ μ (.Constant (.int i) j pos) (.v (.p (.int i))) μ := de_c pe_int fun _ _ => .int i
theorem de_bl {i : Bool} {j} : DE X N W δ μ (.Constant (.bool i) j pos) (.v (.p (.bl i))) μ := de_c pe_bl fun _ _ => .bl i
theorem de_non {j} : DE X N W δ μ (.Constant .none j pos) (.v (.p .non)) μ := de_c pe_non fun _ _ => .non
theorem de_str {x : Str} {j} : DE X N W δ μ (.Constant (.str x) j pos) (.v (.p (.str x))) μ := de_c pe_str fun _ _ => .str x
theorem de_var (i : Nat) {x : Str} (hs : δ[i]? = some (some s) := by rfl) (hN : X.N[i]? = some x := by rfl) (hv : Vis X.env.scope x := by first | exact Or.inl rfl | exact Or.inr (Or.inl rfl) | exact Or.inr (Or.inr rfl))
    (hd : (x == ("__debug__" : Str)) = false := by decide) (hcd : (x == ("__classdict__" : Str)) = false := by decide) : DE X N W δ μ (.Name x pos) (.v s) μ :=
  PE.imp (pe_var hN hv hd hcd) fun σ H Q ⟨F, A, R, k⟩ => by
    obtain ⟨v, h1, h2⟩ := R.sl i s hs
    exact ⟨v, h1, k.here R h2⟩
theorem de_glob {x : Str} {v : V} {u : Value} (hm : X.mg x = some u) (q : RelV v u) (rp : ∀ K F, Rep K F v d) (hg : Gl X x := by rfl) (hd : (x == ("__debug__" : Str)) = false := by decide) : DE X N W δ μ (.Name x pos) (.v (.p d)) μ :=
  de_c (pe_glob hg hm q hd) rp
/-! ### operators by their values -/
def OpOk (X : Cx) (N : En) (W : WX) (f : Value → Value → Sem Value) (μ : List M) (s1 s2 : S) (r : Rx) (μ' : List M) : Prop :=
  ∃ rr : R2, OpR X f rr ∧ ∀ σ δ F A H x y Q, Rl N F A H σ δ μ → RepS N.K F A x s1 → RepS N.K F A y s2 → EndE N W σ δ F A μ' Q r → rr x y H Q
def UnOk (X : Cx) (N : En) (W : WX) (f : Value → Sem Value) (μ : List M) (s1 : S) (r : Rx) (μ' : List M) : Prop :=
  ∃ rr : V → Hp → VK → Prop, UnR X f rr ∧ ∀ σ δ F A H x Q, Rl N F A H σ δ μ → RepS N.K F A x s1 → EndE N W σ δ F A μ' Q r → rr x H Q
theorem two {rr : R2} {σ : L2.St} {H : Hp} {Q : VK} (hr : ∀ σ δ F A H x y Q, Rl N F A H σ δ μ2 → RepS N.K F A x s1 → RepS N.K F A y s2 → EndE N W σ δ F A μ3 Q r → rr x y H Q)
    (h : tD N W δ μ r μ3 σ H Q) : tOp rr (tD N W δ μ (.v s1) μ1) (tD N W δ μ1 (.v s2) μ2) σ H Q := by
  obtain ⟨F, A, R, k⟩ := h
  exact ⟨F, A, R, fun x F1 A1 H1 e1 p1 R1 rx => ⟨F1, A1, R1, fun y F2 A2 H2 e2 p2 R2 ry => hr σ δ F2 A2 H2 x y Q R2 (rx.mono e2 p2) ry (k.to (e1.trans e2) (p1.trans p2))⟩⟩
theorem de_bin {op : Operator} (ha : DE X N W δ μ a (.v s1) μ1) (hb : DE X N W δ μ1 b (.v s2) μ2) (h : OpOk X N W (binaryOp op) μ2 s1 s2 r μ3) : DE X N W δ μ (.BinOp a op b pos) r μ3 := by
  obtain ⟨rr, ho, hr⟩ := h
  exact PE.imp (pe_op ho ha hb) fun σ H Q q => two hr q
theorem de_un {op : UnaryOp} (ha : DE X N W δ μ a (.v s1) μ1) (h : UnOk X N W (unaryOp op) μ1 s1 r μ2) : DE X N W δ μ (.UnaryOp op a pos) r μ2 := by
  obtain ⟨rr, ho, hr⟩ := h
  exact PE.imp (pe_un ho ha) fun σ H Q ⟨F, A, R, k⟩ => ⟨F, A, R, fun x F1 A1 H1 e1 p1 R1 rx => hr σ δ F1 A1 H1 x Q R1 rx (k.to e1 p1)⟩
theorem de_cmp {op : CmpOp} (ha : DE X N W δ μ a (.v s1) μ1) (hb : DE X N W δ μ1 b (.v s2) μ2) (h : OpOk X N W (compareOp op) μ2 s1 s2 r μ3) (hm : behindInMarks op b = false := by first | exact nomark _ | rfl) : DE X N W δ μ (.Compare a [op] [b] pos) r μ3 := by
  obtain ⟨rr, ho, hr⟩ := h
  exact PE.imp (pe_cmpR ho ha hb hm) fun σ H Q q => two hr q
theorem EndE.bool {σ : L2.St} {F : Hp} {A : List Addr} {Q : Bool → Hp → Prop} {k : Bool} (h : ∀ F' A' H', Same F F' → A <+: A' → Rl N F' A' H' σ δ μ' → Q k H') : EndE N W σ δ F A μ' (fun x H' => ∃ k, x = .bl k ∧ Q k H') (.v (.p (.bl k))) :=
  fun v F' A' H' e p R rv => by
    cases rv
    exact ⟨k, rfl, h F' A' H' e p R⟩
theorem dt_cmp {op : CmpOp} {k : Bool} (ha : DE X N W δ μ a (.v s1) μ1) (hb : DE X N W δ μ1 b (.v s2) μ2) (h : OpOk X N W (compareOp op) μ2 s1 s2 (.v (.p (.bl k))) μ3) (hm : behindInMarks op b = false := by first | exact nomark _ | rfl) : DT X N W δ μ (.Compare a [op] [b] pos) k μ3 := by
  obtain ⟨rr, ho, hr⟩ := h
  exact PT.imp (pt_cmpR ho ha hb hm) fun σ H Q ⟨F, A, R, q⟩ => two (W := W) hr ⟨F, A, R, EndE.bool q⟩
theorem dt_val {k : Bool} (h : DE X N W δ μ e (.v (.p (.bl k))) μ1) (he : ∀ whole, isTrue e X.env whole = (do let v ← whole; standAt e.pos; holding [v] (truthy v)) := by intro _; rfl) : DT X N W δ μ e k μ1 :=
  PT.imp (pt_val h he) fun σ H Q ⟨F, A, R, q⟩ => ⟨F, A, R, EndE.bool q⟩
/-! ### tests -/
theorem dt_not {k : Bool} (h : DT X N W δ μ a k μ1) : DT X N W δ μ (.UnaryOp .Not a pos) (!k) μ1 := PT.imp (pt_not h) fun σ H Q ⟨F, A, R, q⟩ => ⟨F, A, R, q⟩
theorem de_not {k : Bool} (h : DE X N W δ μ a (.v (.p (.bl k))) μ1) : DE X N W δ μ (.UnaryOp .Not a pos) (.v (.p (.bl (!k)))) μ1 :=
  PE.imp (pe_not h) fun σ H Q ⟨F, A, R, q⟩ => ⟨F, A, R, fun v F' A' H' e p R' rv => by
    cases rv
    exact ⟨k, rfl, q _ F' A' H' e p R' (.bl _)⟩⟩
theorem dw_and1 {k : Bool} (h : DT X N W δ μ a k μ1) : DW X N W δ μ (.BoolOp .And [a] pos) k μ1 := pw_and1 h
theorem dw_or1 {k : Bool} (h : DT X N W δ μ a k μ1) : DW X N W δ μ (.BoolOp .Or [a] pos) k μ1 := pw_or1 h
theorem dw_no : PW X e (fun _ _ _ => False) := ⟨fun _ _ _ _ _ _ _ h => h.elim⟩
theorem pe_no : PE X e (fun _ _ _ => False) := ⟨fun _ _ _ _ _ _ h => h.elim⟩
theorem dw_and {rest : List Expr} {k k' : Bool} (h : DT X N W δ μ a k μ1) (h' : k = true → DW X N W δ μ1 (.BoolOp .And (b :: rest) pos) k' μ1) : DW X N W δ μ (.BoolOp .And (a :: b :: rest) pos) (k && k') μ1 := by
  cases k with
  | true => exact PW.imp (pw_and h (h' rfl)) fun σ H Q ⟨F, A, R, q⟩ => ⟨F, A, R, fun F1 A1 H1 e1 p1 R1 => iteT ⟨F1, A1, R1, fun F2 A2 H2 e2 p2 R2 => q F2 A2 H2 (e1.trans e2) (p1.trans p2) R2⟩⟩
  | false => exact PW.imp (pw_and h dw_no) fun σ H Q ⟨F, A, R, q⟩ => ⟨F, A, R, fun F1 A1 H1 e1 p1 R1 => iteF (q F1 A1 H1 e1 p1 R1)⟩
theorem dw_or {rest : List Expr} {k k' : Bool} (h : DT X N W δ μ a k μ1) (h' : k = false → DW X N W δ μ1 (.BoolOp .Or (b :: rest) pos) k' μ1) : DW X N W δ μ (.BoolOp .Or (a :: b :: rest) pos) (k || k') μ1 := by
  cases k with
  | false => exact PW.imp (pw_or h (h' rfl)) fun σ H Q ⟨F, A, R, q⟩ => ⟨F, A, R, fun F1 A1 H1 e1 p1 R1 => iteF ⟨F1, A1, R1, fun F2 A2 H2 e2 p2 R2 => q F2 A2 H2 (e1.trans e2) (p1.trans p2) R2⟩⟩
  | true => exact PW.imp (pw_or h dw_no) fun σ H Q ⟨F, A, R, q⟩ => ⟨F, A, R, fun F1 A1 H1 e1 p1 R1 => iteT (q F1 A1 H1 e1 p1 R1)⟩
theorem dt_w {k : Bool} (h : DW X N W δ μ e k μ1) : DT X N W δ μ e k μ1 := h.pt
/-- and, or of bools as values -/
theorem de_one {op : BoolOp} (h : DE X N W δ μ a r μ1) : DE X N W δ μ (.BoolOp op [a] pos) r μ1 := pe_one h
theorem de_and {rest : List Expr} {k k' : Bool} (h : DE X N W δ μ a (.v (.p (.bl k))) μ1) (h' : k = true → DE X N W δ μ1 (.BoolOp .And (b :: rest) pos) (.v (.p (.bl k'))) μ1) : DE X N W δ μ (.BoolOp .And (a :: b :: rest) pos) (.v (.p (.bl (k && k')))) μ1 := by
  cases k with
  | true => exact PE.imp (pe_and h (h' rfl)) fun σ H Q ⟨F, A, R, q⟩ => ⟨F, A, R, fun v F1 A1 H1 e1 p1 R1 rv => by
      cases rv
      exact ⟨true, rfl, iteT ⟨F1, A1, R1, fun w F2 A2 H2 e2 p2 R2 rw => q w F2 A2 H2 (e1.trans e2) (p1.trans p2) R2 rw⟩⟩⟩
  | false => exact PE.imp (pe_and h pe_no) fun σ H Q ⟨F, A, R, q⟩ => ⟨F, A, R, fun v F1 A1 H1 e1 p1 R1 rv => by
      cases rv
      exact ⟨false, rfl, iteF (q _ F1 A1 H1 e1 p1 R1 (.bl _))⟩⟩
theorem de_if {k : Bool} (h : DT X N W δ μ c k μ1) (ha : k = true → DE X N W δ μ1 a r μ2) (hb : k = false → DE X N W δ μ1 b r μ2) : DE X N W δ μ (.IfExp c a b pos) r μ2 := by
  cases k with
  | true => exact PE.imp (pe_ifExp h (ha rfl) pe_no) fun σ H Q ⟨F, A, R, q⟩ => ⟨F, A, R, fun F1 A1 H1 e1 p1 R1 => iteT ⟨F1, A1, R1, q.to e1 p1⟩⟩
  | false => exact PE.imp (pe_ifExp h pe_no (hb rfl)) fun σ H Q ⟨F, A, R, q⟩ => ⟨F, A, R, fun F1 A1 H1 e1 p1 R1 => iteF ⟨F1, A1, R1, q.to e1 p1⟩⟩
/-! ### arguments, displays -/
theorem da_nil : DA X N W δ μ [] [] μ := PA.imp pa_nil fun σ H Q ⟨F, A, R, q⟩ => q [] F A H (Same.refl _) (List.prefix_refl _) R .nil
theorem da_cons {es : List Expr} {ss : List S} (h : DE X N W δ μ e (.v s) μ1) (h' : DA X N W δ μ1 es ss μ2) (hs : starEach (e :: es) X.env = (false, eval e X.env) :: starEach es X.env := by rfl) : DA X N W δ μ (e :: es) (s :: ss) μ2 :=
  PA.imp (pa_cons h h' hs) fun σ H Q ⟨F, A, R, q⟩ => ⟨F, A, R, fun v F1 A1 H1 e1 p1 R1 rv => ⟨F1, A1, R1, fun vs F2 A2 H2 e2 p2 R2 rvs => q (v :: vs) F2 A2 H2 (e1.trans e2) (p1.trans p2) R2 (.cons (rv.mono e2 p2) rvs)⟩⟩
def DP (X : Cx) (N : En) (W : WX) (δ : List (Option S)) (μ : List M) (es : List Expr) (ds : List D) (μ' : List M) : Prop := DA X N W δ μ es (ds.map S.p) μ'
theorem dp_nil : DP X N W δ μ [] [] μ := da_nil
theorem dp_cons {es : List Expr} {ds : List D} (h : DE X N W δ μ e (.v (.p d)) μ1) (h' : DP X N W δ μ1 es ds μ2) (hs : starEach (e :: es) X.env = (false, eval e X.env) :: starEach es X.env := by rfl) : DP X N W δ μ (e :: es) (d :: ds) μ2 := da_cons h h' hs
theorem reps_of {K : PySem.W.Frag} {F : Hp} {A : List Addr} : ∀ {vs : List V} {ds : List D}, RepSs K F A vs (ds.map S.p) → Reps K F vs ds
  | _, [], .nil => .nil
  | _, _ :: _, .cons a b => .cons a (reps_of b)
theorem of_reps {K : PySem.W.Frag} {F : Hp} {A : List Addr} : ∀ {vs : List V} {ds : List D}, Reps K F vs ds → RepSs K F A vs (ds.map S.p)
  | _, [], .nil => .nil
  | _, _ :: _, .cons a b => .cons a (of_reps b)
theorem de_tup {es : List Expr} {ds : List D} {x1} (h : DP X N W δ μ es ds μ1) (hl : ds.length ≤ sizeLine := by first | (show _ ≤ sizeLine; decide) | (simp; decide)) : DE X N W δ μ (.Tuple es x1 pos) (.v (.p (.tup ds))) μ1 :=
  PE.imp (pe_tup h) fun σ H Q ⟨F, A, R, q⟩ => ⟨F, A, R, fun vs F1 A1 H1 e1 p1 R1 rv => ⟨by rw [(reps_of rv).length]; exact hl, fun p np => by
    have sm := same_updN (o := .tup vs) (R1.rc.fresh np).2.1
    exact q (.ref p) _ A1 _ (e1.trans sm) p1 (R1.to sm (List.prefix_refl _) (R1.rc.frozen np _)) (.tup (SqT.of upd_same) ((reps_of rv).mono sm))⟩⟩
theorem de_lst {es : List Expr} {ds : List D} (h : DP X N W δ μ es ds μ1) (hl : ds.length ≤ sizeLine := by first | (show _ ≤ sizeLine; decide) | (simp; decide)) : DE X N W δ μ (.List es pos) (.v (.p (.lst ds))) μ1 :=
  PE.imp (pe_lst h) fun σ H Q ⟨F, A, R, q⟩ => ⟨F, A, R, fun vs F1 A1 H1 e1 p1 R1 rv => ⟨by rw [(reps_of rv).length]; exact hl, fun p np => by
    have sm := same_updN (o := .lst vs) (R1.rc.fresh np).2.1
    exact q (.ref p) _ A1 _ (e1.trans sm) p1 (R1.to sm (List.prefix_refl _) (R1.rc.frozen np _)) (.lst upd_same ((reps_of rv).mono sm))⟩⟩
/-- a list that will change -/
theorem de_lstM {es : List Expr} {ds : List D} (h : DP X N W δ μ es ds μ1) (hl : ds.length ≤ sizeLine := by first | (show _ ≤ sizeLine; decide) | (simp; decide)) : DE X N W δ μ (.List es pos) (.v (.l μ1.length)) (μ1 ++ [.lst ds]) :=
  PE.imp (pe_lst h) fun σ H Q ⟨F, A, R, q⟩ => ⟨F, A, R, fun vs F1 A1 H1 e1 p1 R1 rv => ⟨by rw [(reps_of rv).length]; exact hl, fun p np => by
    have pp : A1 <+: A1 ++ [p] := List.prefix_append _ _
    refine q (.ref p) _ (A1 ++ [p]) _ e1 (p1.trans pp) (R1.to (Same.refl _) pp (R1.rc.newM np ⟨vs, upd_same, reps_of rv⟩)) ⟨p, rfl, ?_⟩
    rw [← R1.rc.len]; simp⟩⟩
/-! ### builtins -/
def CallOk (X : Cx) (N : En) (W : WX) (f : Value) (μ : List M) (ss : List S) (r : Rx) (μ' : List M) : Prop :=
  ∃ rr, CallR X f rr ∧ ∀ σ δ F A H vs Q, Rl N F A H σ δ μ → RepSs N.K F A vs ss → EndE N W σ δ F A μ' Q r → rr vs H Q
theorem de_callB {x : Str} {id : String} {p : Pos} {es : List Expr} {ss : List S} (ha : DA X N W δ μ (e :: es) ss μ1) (hc : CallOk X N W (.builtin id) μ1 ss r μ2) (hm : X.mg x = none) (hv : bootBuiltins x = some (.builtin id)) (hg : Gl X x := by rfl) (hn : x ≠ "__name__" := by decide) (hdb : (x == ("__debug__" : Str)) = false := by decide)
    (he : starEach (e :: es) X.env = (false, eval e X.env) :: starEach es X.env := by rfl) (hpl : (backTo pos (starEach es X.env)).any (·.1) = false := by rfl) : DE X N W δ μ (.Call (.Name x p) (e :: es) [] pos) r μ2 := by
  obtain ⟨rr, ho, hr⟩ := hc
  exact PE.imp (pe_callB ho hg hm hv ha hn hdb he hpl) fun σ H Q ⟨F, A, R, k⟩ => ⟨F, A, R, fun vs F1 A1 H1 e1 p1 R1 rv => hr σ δ F1 A1 H1 vs Q R1 rv (k.to e1 p1)⟩
theorem de_callT {x : Str} {T : String} {p : Pos} {es : List Expr} {ss : List S} (ha : DA X N W δ μ (e :: es) ss μ1) (hc : CallOk X N W (.type T) μ1 ss r μ2) (hm : X.mg x = none) (hv : bootBuiltins x = some (.type T)) (hg : Gl X x := by rfl) (hn : x ≠ "__name__" := by decide) (hdb : (x == ("__debug__" : Str)) = false := by decide)
    (he : starEach (e :: es) X.env = (false, eval e X.env) :: starEach es X.env := by rfl) (hpl : (backTo pos (starEach es X.env)).any (·.1) = false := by rfl) : DE X N W δ μ (.Call (.Name x p) (e :: es) [] pos) r μ2 := by
  obtain ⟨rr, ho, hr⟩ := hc
  exact PE.imp (pe_callTy ho hg hm hv ha hn hdb he hpl) fun σ H Q ⟨F, A, R, k⟩ => ⟨F, A, R, fun vs F1 A1 H1 e1 p1 R1 rv => hr σ δ F1 A1 H1 vs Q R1 rv (k.to e1 p1)⟩
/-- a method of a builtin type -/
def MtOk (X : Cx) (N : En) (W : WX) (T : String) (id : String) (μ0 μ : List M) (s : S) (ss : List S) (r : Rx) (μ' : List M) : Prop :=
  ∃ rr, MtR X id rr ∧ (∀ σ δ F A H x, Rl N F A H σ δ μ0 → RepS N.K F A x s → tyV X.K T x H) ∧ ∀ σ δ F A H x vs Q, Rl N F A H σ δ μ → RepS N.K F A x s → RepSs N.K F A vs ss → EndE N W σ δ F A μ' Q r → rr x vs H Q
theorem de_bm {o : Expr} {T id : String} {name : Str} {apos : Pos} {es : List Expr} {ss : List S} (pa : PlainAttrs T) (slot : Slot T name id) (hty : typeOf (.builtin id) = pure (.type "method_descriptor")) (ho : DE X N W δ μ o (.v s) μ1) (ha : DA X N W δ μ1 (e :: es) ss μ2) (h : MtOk X N W T id μ1 μ2 s ss r μ3)
    (hbase : attributeBase o name X.env (eval o X.env) = eval o X.env := by rfl)
    (hfew : ((backTo pos (starEach (e :: es) X.env)).all (fun x => !x.1) && (backToKw pos (keywordEach [] X.env)).all (fun x => x.1.isSome)
      && decide ((e :: es).length + ([] : List Keyword).length + (if ([] : List Keyword).isEmpty then 0 else 1) < 30)) = true := by rfl)
    (hline : (apos.endLine == pos.line) = true := by rfl) (hs : starEach (e :: es) X.env = (false, eval e X.env) :: starEach es X.env := by rfl) (hplain : (backTo pos (starEach es X.env)).any (·.1) = false := by rfl) :
    DE X N W δ μ (.Call (.Attribute o name apos) (e :: es) [] pos) r μ3 := by
  obtain ⟨rr, hm, ht, hr⟩ := h
  exact PE.imp (pe_bm pa slot hty hm ho ha hbase hfew hline hs hplain) fun σ H Q ⟨F, A, R, k⟩ => ⟨F, A, R, fun x F1 A1 H1 e1 p1 R1 rx => ⟨ht σ δ F1 A1 H1 x R1 rx, F1, A1, R1, fun vs F2 A2 H2 e2 p2 R2 rv => hr σ δ F2 A2 H2 x vs Q R2 (rx.mono e2 p2) rv (k.to (e1.trans e2) (p1.trans p2))⟩⟩
/-- a subscript -/
def IxOk (X : Cx) (N : En) (W : WX) (μ : List M) (s1 s2 : S) (r : Rx) (μ' : List M) : Prop :=
  ∃ rr : R2, IxR X rr ∧ ∀ σ δ F A H x y Q, Rl N F A H σ δ μ → RepS N.K F A x s1 → RepS N.K F A y s2 → EndE N W σ δ F A μ' Q r → rr x y H Q
theorem de_ix (ha : DE X N W δ μ a (.v s1) μ1) (hb : DE X N W δ μ1 b (.v s2) μ2) (h : IxOk X N W μ2 s1 s2 r μ3) (hs : PlainIx b := by exact fun _ _ => rfl) : DE X N W δ μ (.Subscript a b pos) r μ3 := by
  obtain ⟨rr, ho, hr⟩ := h
  exact PE.imp (pe_ix ho ha hb hs) fun σ H Q q => two hr q
/-! ### statements -/
theorem Rl.endS {σ : L2.St} {F : Hp} {A : List Addr} {H : Hp} {D : Ends} (k : EndS N W F A D (.nx δ μ)) (R : Rl N F A H σ δ μ) : D.nx σ H := k σ F A H (Same.refl _) (List.prefix_refl _) R
/-- what stands behind a statement -/
def Cont (X : Cx) (N : En) (W : WX) (rest : List Stmt) : Os → Os → Prop
  | .nx δ μ, o => DSs X N W δ μ rest o
  | o1, o => o = o1
theorem cn {rest : List Stmt} {o : Os} (h : DSs X N W δ μ rest o) : Cont X N W rest (.nx δ μ) o := h
theorem cr {rest : List Stmt} : Cont X N W rest (.rt s μ) (.rt s μ) := rfl
theorem cx {rest : List Stmt} {C : Addr} : Cont X N W rest (.xx C d δ μ) (.xx C d δ μ) := rfl
theorem cb {rest : List Stmt} : Cont X N W rest (.bk δ μ) (.bk δ μ) := rfl
theorem cc {rest : List Stmt} : Cont X N W rest (.ct δ μ) (.ct δ μ) := rfl
theorem pss_no {sts : List Stmt} : PSs X sts (fun _ _ _ => False) := ⟨fun _ _ _ _ _ _ h => h.elim⟩
theorem dss_nil : DSs X N W δ μ [] (.nx δ μ) := PSs.imp pss_nil fun K σ H ⟨F, A, R, k⟩ => R.endS k
theorem dss_cons {st : Stmt} {rest : List Stmt} {o1 o : Os} (h : DS X N W δ μ st o1) (h' : Cont X N W rest o1 o) : DSs X N W δ μ (st :: rest) o := by
  cases o1 with
  | nx δ1 μ1 =>
    exact PSs.imp (pss_cons h h') fun K σ H ⟨F, A, R, k⟩ => ⟨F, A, R, fun σ1 F1 A1 H1 e1 p1 R1 => ⟨F1, A1, R1, by
      have k' := k.to e1 p1
      cases o <;> exact k'⟩⟩
  | rt s μ1 =>
    cases h'
    exact PSs.imp (pss_cons h pss_no) fun K σ H ⟨F, A, R, k⟩ => ⟨F, A, R, k⟩
  | xx C d δ1 μ1 =>
    cases h'
    exact PSs.imp (pss_cons h pss_no) fun K σ H ⟨F, A, R, k⟩ => ⟨F, A, R, k⟩
  | bk δ1 μ1 =>
    cases h'
    exact PSs.imp (pss_cons h pss_no) fun K σ H ⟨F, A, R, k⟩ => ⟨F, A, R, k⟩
  | ct δ1 μ1 =>
    cases h'
    exact PSs.imp (pss_cons h pss_no) fun K σ H ⟨F, A, R, k⟩ => ⟨F, A, R, k⟩
theorem ds_expr (h : DE X N W δ μ e (.v s) μ1) (hs : swapsWith e none pos.line X.env = pure false := by rfl) : DS X N W δ μ (.Expr e pos) (.nx δ μ1) :=
  PS.imp (ps_expr h hs) fun K σ H ⟨F, A, R, k⟩ => ⟨F, A, R, fun v F1 A1 H1 e1 p1 R1 rv => k σ F1 A1 H1 e1 p1 R1⟩
theorem ds_ret (h : DE X N W δ μ e (.v s) μ1) : DS X N W δ μ (.Return (some e) pos) (.rt s μ1) :=
  PS.imp (ps_ret h) fun K σ H ⟨F, A, R, k⟩ => ⟨F, A, R, fun v F1 A1 H1 e1 p1 R1 rv => k v F1 A1 H1 e1 p1 R1.rc rv⟩
theorem ds_set (i : Nat) {x : Str} {pos' : Pos} (h : DE X N W δ μ e (.v s) μ1) (hN : X.N.Nodup) (hi : X.N[i]? = some x := by rfl) (hx : Loc X.env.scope x := by first | exact Or.inl rfl | exact Or.inr rfl) (hs : swapsWith e (some (.Name x pos')) pos.line X.env = pure false := by rfl)
    (hf : X.fn x = true ∨ X.env.scope.names.lookup x = some .local := by first | exact .inl rfl | exact .inr rfl) : DS X N W δ μ (.Assign [.Name x pos'] e pos) (.nx (δ.set i (some s)) μ1) :=
  PS.imp (ps_set (i := i) hN hi hx h hs hf) fun K σ H ⟨F, A, R, k⟩ => ⟨F, A, R, fun v F1 A1 H1 e1 p1 R1 rv => k _ F1 A1 H1 e1 p1 (R1.set rv)⟩
theorem ds_if {A B : List Stmt} {k : Bool} {o : Os} (h : DT X N W δ μ c k μ1) (ha : k = true → DSs X N W δ μ1 A o) (hb : k = false → DSs X N W δ μ1 B o) : DS X N W δ μ (.If c A B pos) o := by
  cases k with
  | true => exact PS.imp (ps_if h (ha rfl) pss_no) fun K σ H ⟨F, A, R, q⟩ => ⟨F, A, R, fun F1 A1 H1 e1 p1 R1 => iteT ⟨F1, A1, R1, q.to e1 p1⟩⟩
  | false => exact PS.imp (ps_if h pss_no (hb rfl)) fun K σ H ⟨F, A, R, q⟩ => ⟨F, A, R, fun F1 A1 H1 e1 p1 R1 => iteF ⟨F1, A1, R1, q.to e1 p1⟩⟩
end
end Dl
set_option Elab.async false
set_option linter.all false
set_option maxRecDepth 100000
set_option maxHeartbeats 4000000
set_option autoImplicit false
namespace Dl
open PySem PySem.Spec PyProof.Rows L2
/-! ## what a def promises -/
abbrev Rel := List S → List M → Rx → List M → Prop
def spD (K : PySem.W.Frag) (R : Rel) : Sp := fun vs H Q E => ∃ (F : Hp) (A : List Addr) (ss : List S) (μ : List M) (r : Rx) (μ' : List M), R ss μ r μ' ∧ Rc ⟨K, H, F, A⟩ F A H μ ∧ RepSs K F A vs ss ∧
  match r with
  | .v s => ∀ v F' A' H', Rc ⟨K, H, F, A⟩ F' A' H' μ' → RepS K F' A' v s → Q v H'
  | .x C d => ∀ dx v F' A' H', Rc ⟨K, H, F, A⟩ F' A' H' μ' → F' dx = some (.xd [("value", v)]) → Rep K F' v d → E (.ref C) (some dx) H'
theorem Rc.entry {N : En} {F : Hp} {A : List Addr} {H : Hp} {μ : List M} (r : Rc N F A H μ) : Rc ⟨N.K, H, F, A⟩ F A H μ :=
  ⟨r.sub, Same.refl _, fun a o e => .inl ⟨o, e⟩, fun _ _ e _ => e, ⟨[], by simp, fun _ h => by cases h⟩, r.nd, r.len, r.mus, r.fr⟩
theorem Rc.back {N : En} {F F' : Hp} {A A' : List Addr} {H H' : Hp} {μ μ' : List M} (r : Rc N F A H μ) (q : Rc ⟨N.K, H, F, A⟩ F' A' H' μ') : Rc N F' A' H' μ' where
  sub := q.sub
  base := r.base.trans q.base
  new := fun a o e => by
    rcases q.new a o e with ⟨o', h⟩ | h
    · exact r.new a o' h
    · exact .inr (r.fresh h).1
  keep := fun a o e hA => by
    refine q.keep a o (r.keep a o e hA) fun hm => ?_
    obtain ⟨B, rfl, hB⟩ := r.pre
    rcases List.mem_append.mp hm with h | h
    · exact hA h
    · rw [hB a h] at e; cases e
  pre := by
    obtain ⟨B, rfl, hB⟩ := r.pre
    obtain ⟨B', e, hB'⟩ := q.pre
    refine ⟨B ++ B', by rw [e]; exact List.append_assoc .., fun b hb => ?_⟩
    rcases List.mem_append.mp hb with h | h
    · exact hB b h
    · exact (r.fresh (hB' b h)).1
  nd := q.nd
  len := q.len
  mus := q.mus
  fr := q.fr
theorem Rc.prefix_ {N : En} {F : Hp} {A : List Addr} {H : Hp} {μ : List M} (r : Rc N F A H μ) : N.A0 <+: A := by
  obtain ⟨B, rfl, _⟩ := r.pre
  exact List.prefix_append _ _
/-- where one stands -/
structure Go (X : Cx) (N : En) (W : WX) (n : Nat) : Prop where
  tk : Takes X W
  calm : X.calm = true
  hK : N.K = X.K
  room : Room n X.A
  po : PassesOwn (model X.prog X.w) X.A X.env X.xe
  nd : X.N.Nodup
/-- a def of the module by its name -/
structure Cf (P : Program) (w : World) (K : PySem.W.Frag) (mg : Str → Option Value) (base : Heap) (k : Nat) (x : Str) (dd : List D) (R : Rel) : Prop where
  ex : ∃ (f : Addr) (fd : FuncData) (ps : List Str) (ds : List Value) (dvs : List V), FnOk P w K mg base (L2.CX P w) k f fd ps (spD K R) ∧ mg x = some (.ref f) ∧ PySem.W.keepIn K (.ref f) = true ∧ Binds K fd ps ds ∧ Vals dvs ds ∧ ∀ F, Reps K F dvs dd
/-- a method -/
structure Cm (P : Program) (w : World) (K : PySem.W.Frag) (mg : Str → Option Value) (base : Heap) (k : Nat) (C : Addr) (x : Str) (dd : List D) (R : Rel) : Prop where
  cls : Cls K C
  ex : ∃ (f : Addr) (fd : FuncData) (ps : List Str) (ds : List Value) (dvs : List V), FnOk P w K mg base (L2.CX P w) k f fd ps (spD K R) ∧ Meth K C x f ∧ Binds K fd ps ds ∧ Vals dvs ds ∧ ∀ F, Reps K F dvs dd
/-- a property -/
structure Cp (P : Program) (w : World) (K : PySem.W.Frag) (mg : Str → Option Value) (base : Heap) (k : Nat) (C : Addr) (x : Str) (R : Rel) : Prop where
  cls : Cls K C
  ex : ∃ (f p : Addr) (fd : FuncData) (ps : List Str), FnOk P w K mg base (L2.CX P w) k f fd ps (spD K R) ∧ PropOf K C x p f ∧ Binds K fd ps []
/-- a class that is made by its __init__ -/
structure Ci (P : Program) (w : World) (K : PySem.W.Frag) (mg : Str → Option Value) (base : Heap) (k : Nat) (C : Addr) (x : Str) (dd : List D) (R : Rel) : Prop where
  at_ : mg x = some (.ref C)
  ex : ∃ (f : Addr) (fd : FuncData) (ps : List Str) (ds : List Value) (dvs : List V), FnOk P w K mg base (L2.CX P w) k f fd ps (spD K R) ∧ Mk K C f ∧ Binds K fd ps ds ∧ Vals dvs ds ∧ ∀ F, Reps K F dvs dd
section
variable {X : Cx} {N : En} {W : WX} {n : Nat} {δ δ' δ1 δ2 : List (Option S)} {μ μ' μ1 μ2 μ3 : List M} {e a b c o : Expr} {es : List Expr} {ss : List S} {pos p apos : Pos} {d : D} {s s1 s2 : S} {r : Rx} {R : Rel} {k : Nat} {x m f : Str} {dd : List D} {C : Addr}
/-- the promise, for the caller -/
theorem spD_in {E : XK} {σ : L2.St} {F : Hp} {A : List Addr} {H : Hp} {vs : List V} {Q : VK} (hR : R ss μ r μ') (Rl0 : Rl N F A H σ δ μ) (rv : RepSs N.K F A vs ss) (k : EndE N (fun cls d _ H => E cls d H) σ δ F A μ' Q r) : spD N.K R vs H Q E := by
  refine ⟨F, A, ss, μ, r, μ', hR, Rl0.rc.entry, rv, ?_⟩
  cases r with
  | v s => exact fun v F' A' H' q rv => k v F' A' H' q.base q.prefix_ (Rl0.to q.base q.prefix_ (Rl0.rc.back q)) rv
  | x C d => exact fun dx v F' A' H' q h1 h2 => k dx v F' A' H' q.base q.prefix_ (Rl0.to q.base q.prefix_ (Rl0.rc.back q)) h1 h2
/-- an error that is raised within an expression: the wish of it, at these slots -/
theorem EndE.wish {σ : L2.St} {F : Hp} {A : List Addr} {Q : VK} (k : EndE N W σ δ F A μ' Q r) : EndE N (fun cls d _ H => W cls d σ H) σ δ F A μ' Q r := by
  cases r with
  | v s => exact k
  | x C d => exact k
theorem call_fnD {pins : List (Addr × Obj)} {σ : L2.St} {H : Hp} {sh : Shared} {F : Hp} {A : List Addr} {Q : VK} {us : List Value} {vs dvs : List V} {ds : List Value} {f : Addr} {fd : FuncData} {ps : List Str} (g : Go X N W n) (hk : k ≤ n)
    (Fo : FnOk X.prog X.w X.K X.mg X.base (L2.CX X.prog X.w) k f fd ps (spD X.K R)) (hb : Binds X.K fd ps ds) (hd : Vals dvs ds) (rd : ∀ F, Reps X.K F dvs dd) (I : Inv X pins σ H sh) (R0 : Rl N F A H σ δ μ) (rv : RepSs N.K F A vs ss) (ru : Vals vs us)
    (hR : R (ss ++ dd.map S.p) μ r μ') (q : EndE N W σ δ F A μ' Q r) : wpAny (model X.prog X.w) X.A (call (.ref f) us) (EP X pins σ Q) X.xe sh := by
  refine run_fnSD (E := WE W) Fo (g.room.mono hk) hb hd (passAt g.tk σ) I ru ?_
  have hK := g.hK
  rw [← hK] at rd ⊢
  exact spD_in hR R0 (rv.append (of_reps (rd F))) q.wish
theorem de_call (g : Go X N W n) (cf : Cf X.prog X.w X.K X.mg X.base k x dd R) (ha : DA X N W δ μ (e :: es) ss μ1) (hR : R (ss ++ dd.map S.p) μ1 r μ2) (hk : k ≤ n := by decide) (hg : Gl X x := by rfl) (hdb : (x == ("__debug__" : Str)) = false := by decide)
    (he : starEach (e :: es) X.env = (false, eval e X.env) :: starEach es X.env := by rfl) (hpl : (backTo pos (starEach es X.env)).any (·.1) = false := by rfl) : DE X N W δ μ (.Call (.Name x p) (e :: es) [] pos) r μ2 := by
  obtain ⟨f, fd, ps, ds, dvs, Fo, hm, hkp, hb, hd, rd⟩ := cf.ex
  refine ⟨fun pins s σ H Q I ⟨F, A, R0, q⟩ => ?_⟩
  refine wpAny_Call_Name_kw (ld_glob I hg hm ?_ hdb)
  refine PySem.W.callWith_K (h₀ := X.base) I.ok.mod.kin hkp (thn (ha.run pos pins s σ H (fun vs H' => ∃ F' A', Same F F' ∧ A <+: A' ∧ Rl N F' A' H' σ δ μ1 ∧ RepSs N.K F' A' vs ss) I ⟨F, A, R0, fun vs F' A' H' h1 h2 h3 h4 => ⟨F', A', h1, h2, h3, h4⟩⟩) fun us s1 ⟨vs, H1, I1, r1, F1, A1, e1, p1, R1, rv⟩ => ⟨I1.kIn, ?_⟩) he hpl
  exact call_fnD g hk Fo hb hd rd I1 R1 rv r1 hR (q.to e1 p1)
theorem de_call0 (g : Go X N W n) (cf : Cf X.prog X.w X.K X.mg X.base k x dd R) (hR : R (dd.map S.p) μ r μ2) (hk : k ≤ n := by decide) (hg : Gl X x := by rfl) (hdb : (x == ("__debug__" : Str)) = false := by decide) : DE X N W δ μ (.Call (.Name x p) [] [] pos) r μ2 := by
  obtain ⟨f, fd, ps, ds, dvs, Fo, hm, hkp, hb, hd, rd⟩ := cf.ex
  refine ⟨fun pins s σ H Q I ⟨F, A, R0, q⟩ => ?_⟩
  refine wpAny_Call_Name_kw (ld_glob I hg hm ?_ hdb)
  exact PySem.W.callWith_K0 I.kIn hkp (call_fnD (us := []) (ss := []) g hk Fo hb hd rd I R0 .nil .nil hR q)
/-! ### instances -/
theorem lookup_none {f : Str} : ∀ {fs : List (Str × V)}, f ∉ fs.map (·.1) → fs.lookup f = none
  | [], _ => rfl
  | (k, v) :: r, h => by
    have h1 : (f == k) = false := beq_eq_false_iff_ne.mpr fun z => h (by rw [z]; exact List.mem_cons_self)
    rw [List.lookup_cons, h1]
    exact lookup_none fun z => h (List.mem_cons_of_mem _ z)
theorem lookup_rep {K : PySem.W.Frag} {F : Hp} {f : Str} : ∀ {fs : List (Str × V)} {ns : List Str} {ds : List D} {d : D}, fs.map (·.1) = ns → Reps K F (fs.map (·.2)) ds → (ns.zip ds).lookup f = some d → ∃ v, fs.lookup f = some v ∧ Rep K F v d
  | [], _, _, _, h, r, e => by
    subst h
    cases r
    cases e
  | (k, v) :: t, ns, ds, d, h, r, e => by
    subst h
    cases r with
    | cons r1 r2 =>
      rw [List.lookup_cons]
      rw [show (List.map (fun x : Str × V => x.1) ((k, v) :: t)).zip (_ :: _) = (k, _) :: (List.map (fun x : Str × V => x.1) t).zip _ from rfl, List.lookup_cons] at e
      cases hb : f == k with
      | true =>
        rw [hb] at e
        cases e
        exact ⟨v, rfl, r1⟩
      | false =>
        rw [hb] at e
        exact lookup_rep rfl r2 e
theorem rep_ins {K : PySem.W.Frag} {F : Hp} {v : V} {C : Addr} {ns : List Str} {ds : List D} (h : Rep K F v (.ins C ns ds)) : ∃ a dx fs, v = .ref a ∧ F a = some (.ins C dx fs) ∧ fs.map (·.1) = ns ∧ Reps K F (fs.map (·.2)) ds := by
  generalize hd : D.ins C ns ds = d at h
  cases h with
  | ins h1 h2 =>
    cases hd
    exact ⟨_, _, _, rfl, h1, rfl, h2⟩
  | _ => cases hd
/-- o.f, a field -/
theorem de_fld {ns : List Str} {ds : List D} (ho : DE X N W δ μ e (.v (.p (.ins C ns ds))) μ1) (g : Go X N W n) (c : Cls X.K C) (nf : NoAttr X.K C f) (hl : (ns.zip ds).lookup f = some d := by rfl) (hb : attributeBase e f X.env (eval e X.env) = eval e X.env := by rfl) : DE X N W δ μ (.Attribute e f pos) (.v (.p d)) μ1 :=
  PE.imp (pe_fld ho hb) fun σ H Q ⟨F, A, R, q⟩ => ⟨F, A, R, fun v F1 A1 H1 e1 p1 R1 rv => by
    obtain ⟨a, dx, fs, rfl, h1, h2, h3⟩ := rep_ins rv
    obtain ⟨w, h4, h5⟩ := lookup_rep h2 h3 hl
    exact ⟨a, C, dx, fs, w, rfl, R1.rc.sub _ _ h1, c, nf, h4, q w F1 A1 H1 e1 p1 R1 h5⟩⟩
/-- o.m(e, ..) -/
theorem de_meth {ns : List Str} {ds' : List D} {pl : Sem Bool} (g : Go X N W n) (cm : Cm X.prog X.w X.K X.mg X.base k C m dd R) (ho : DE X N W δ μ o (.v (.p (.ins C ns ds'))) μ1) (ha : DA X N W δ μ1 (e :: es) ss μ2) (hR : R (.p (.ins C ns ds') :: (ss ++ dd.map S.p)) μ2 r μ3)
    (hk : k ≤ n := by decide) (hm : m ∉ ns := by decide) (hst : starEach (e :: es) X.env = (false, eval e X.env) :: starEach es X.env := by rfl) (hpl : (backTo pos (starEach es X.env)).any (·.1) = false := by rfl)
    (ht : eval (.Call (.Attribute o m apos) (e :: es) [] pos) X.env = (do
      let ov ← eval o X.env
      standAt apos.atName
      let (f, first) ← holding [ov] (getMethod ov m pl)
      callWith pos f first (backTo pos (starEach (e :: es) X.env)) (backToKw pos (keywordEach [] X.env))) := by rfl) : DE X N W δ μ (.Call (.Attribute o m apos) (e :: es) [] pos) r μ3 := by
  obtain ⟨f, fd, ps, ds, dvs, Fo, hme, hb, hd, rd⟩ := cm.ex
  refine ⟨fun pins s σ H Q I ⟨F, A, R0, q⟩ => ?_⟩
  refine PySem.W.methodCall_KW (pl := pl) (thn (ho.run pins s σ H (fun v H' => ∃ F' A', Same F F' ∧ A <+: A' ∧ Rl N F' A' H' σ δ μ1 ∧ RepS N.K F' A' v (.p (.ins C ns ds'))) I ⟨F, A, R0, fun v F' A' H' h1 h2 h3 h4 => ⟨F', A', h1, h2, h3, h4⟩⟩) fun u s1 ⟨v, H1, I1, r1, F1, A1, e1, p1, R1, rv⟩ => ?_) ht
  obtain ⟨a, dx, fs, rfl, h1, h2, h3⟩ := rep_ins rv
  obtain rfl : u = Value.ref a := r1
  refine getmeth_ok I1 (R1.rc.sub _ _ h1) cm.cls hme (lookup_none (by rw [h2]; exact hm)) ?_
  refine PySem.W.callWith_K (first := [.ref a]) (h₀ := X.base) I.ok.mod.kin hme.kp (thn (ha.run pos pins s1 σ H1 (fun vs H' => ∃ F' A', Same F1 F' ∧ A1 <+: A' ∧ Rl N F' A' H' σ δ μ2 ∧ RepSs N.K F' A' vs ss) I1 ⟨F1, A1, R1, fun vs F' A' H' h1 h2 h3 h4 => ⟨F', A', h1, h2, h3, h4⟩⟩) fun us s2 ⟨vs, H2, I2, r2, F2, A2, e2, p2, R2, rvs⟩ => ⟨I2.kIn, ?_⟩) hst hpl
  exact call_fnD (us := .ref a :: us) (vs := .ref a :: vs) (ss := .p (.ins C ns ds') :: ss) g hk Fo hb hd rd I2 R2 (.cons (RepS.mono (s := .p (.ins C ns ds')) e2 p2 rv) rvs) (.cons rfl r2) hR (q.to (e1.trans e2) (p1.trans p2))
/-- o.f, a property -/
theorem de_prop {ns : List Str} {ds' : List D} (g : Go X N W n) (cp : Cp X.prog X.w X.K X.mg X.base k C f R) (ho : DE X N W δ μ e (.v (.p (.ins C ns ds'))) μ1) (hR : R [.p (.ins C ns ds')] μ1 (.v s) μ2) (hk : k + 1 ≤ n := by decide)
    (hab : attributeBase e f X.env (eval e X.env) = eval e X.env := by rfl) : DE X N W δ μ (.Attribute e f pos) (.v s) μ2 := by
  obtain ⟨fa, p, fd, ps, Fo, hp, hb⟩ := cp.ex
  have hx : Passes (L2.CX X.prog X.w) X.nox (fun _ _ _ => False) := fun _ _ _ _ _ _ _ c => by
    obtain ⟨_, _, _, _, _, _, _, _, _, _, _, _, z⟩ := c
    exact z
  refine PE.imp (pe_prop ho cp.cls hp Fo (g.room.mono hk) hb .nil hx hab) fun σ H Q ⟨F, A, R0, q⟩ => ⟨F, A, R0, fun v F1 A1 H1 e1 p1 R1 rv => ?_⟩
  have rv' : Rep N.K F1 v (.ins C ns ds') := rv
  obtain ⟨a, dx, fs, rfl, h1, h2, h3⟩ := rep_ins rv'
  refine ⟨a, dx, fs, rfl, R1.rc.sub _ _ h1, ?_⟩
  have hK := g.hK
  rw [← hK]
  exact spD_in (r := .v s) (δ := δ) (σ := σ) (vs := [.ref a]) hR R1 (.cons rv' .nil) (fun v F' A' H' e' p' R' rv' => q v F' A' H' (e1.trans e') (p1.trans p') R' rv')
/-- what __init__ wants at a new instance -/
def MkEnd (N : En) (H1 F : Hp) (A : List Addr) (μ0 : List M) (Q : VK) (E : XK) : Rx → Prop
  | .v s => ∀ v F' A' H', Rc ⟨N.K, H1, F, A⟩ F' A' H' μ0 → RepS N.K F' A' v s → Q v H'
  | .x C2 d => ∀ dx' v F' A' H', Rc ⟨N.K, H1, F, A⟩ F' A' H' μ0 → F' dx' = some (.xd [("value", v)]) → Rep N.K F' v d → E (.ref C2) (some dx') H'
theorem make_in {E : XK} {σ : L2.St} {F : Hp} {A : List Addr} {H : Hp} {vs : List V} {Q : VK} {μ0 : List M} (R0 : Rl N F A H σ δ μ) (rv : RepSs N.K F A vs ss) (hR : R (.l μ.length :: ss) (μ ++ [.obj C [] []]) r μ0)
    {x dx : Addr} (nx : H x = none) (ndx : H dx = none) (ne : dx ≠ x) (k : MkEnd N (upd (upd H dx (.own x)) x (.ins C dx [])) F (A ++ [x]) μ0 Q E r) :
    spD N.K R (.ref x :: vs) (upd (upd H dx (.own x)) x (.ins C dx [])) Q E := by
  have r1 := R0.rc.junk ndx (.own x)
  have nx1 : (upd H dx (.own x)) x = none := by rw [upd_ne (Ne.symm ne)]; exact nx
  have r2 := r1.newM (m := .obj C [] []) nx1 (o := .ins C dx []) ⟨dx, [], upd_same, rfl, .nil⟩
  have pp : A <+: A ++ [x] := List.prefix_append _ _
  refine ⟨F, A ++ [x], .l μ.length :: ss, μ ++ [.obj C [] []], r, μ0, hR, r2.entry, .cons ⟨x, rfl, ?_⟩ (rv.mono (Same.refl _) pp), ?_⟩
  · rw [← R0.rc.len]; simp
  · cases r with
    | v s => exact k
    | x C2 d => exact k
/-- behind it: the new instance is let go -/
theorem made_back {σ : L2.St} {F F' : Hp} {A A' : List Addr} {H H' : Hp} {μ0 : List M} (R0 : Rl N F A H σ δ μ) {x dx : Addr} (nx : H x = none) (ndx : H dx = none) (ne : dx ≠ x) (q : Rc ⟨N.K, upd (upd H dx (.own x)) x (.ins C dx []), F, A ++ [x]⟩ F' A' H' μ0) :
    Rc N F' (A'.take μ.length) H' (μ0.take μ.length) ∧ A <+: A'.take μ.length ∧ A'[μ.length]? = some x ∧ Rc N F' A' H' μ0 := by
  have r1 := R0.rc.junk ndx (.own x)
  have nx1 : (upd H dx (.own x)) x = none := by rw [upd_ne (Ne.symm ne)]; exact nx
  have r2 := r1.newM (m := .obj C [] []) nx1 (o := .ins C dx []) ⟨dx, [], upd_same, rfl, .nil⟩
  have hb := r2.back q
  have pp := q.prefix_
  have hl : μ.length = A.length := R0.rc.len.symm
  have hA : N.A0.length ≤ μ.length := by
    rw [hl]
    obtain ⟨B, e, _⟩ := R0.rc.pre
    rw [e]; simp
  refine ⟨hb.trim hA, ?_, ?_, hb⟩
  · rw [hl]
    obtain ⟨B, rfl⟩ := pp
    rw [show A ++ [x] ++ B = A ++ ([x] ++ B) from List.append_assoc .., List.take_left]
    exact List.prefix_refl _
  · rw [hl]
    exact getElem?_pre pp (by simp)
/-- C(e, ..) -/
theorem de_make {ns : List Str} {ds' : List D} {μ0 : List M} (g : Go X N W n) (ci : Ci X.prog X.w X.K X.mg X.base k C x dd R) (ha : DA X N W δ μ (e :: es) ss μ1) (hR : R (.l μ1.length :: (ss ++ dd.map S.p)) (μ1 ++ [.obj C [] []]) (.v (.p .non)) μ0) (h0 : μ0[μ1.length]? = some (.obj C ns ds')) (ht : μ2 = μ0.take μ1.length)
    (hk : k + 1 ≤ n := by decide) (hg : Gl X x := by rfl) (hdb : (x == ("__debug__" : Str)) = false := by decide)
    (he : starEach (e :: es) X.env = (false, eval e X.env) :: starEach es X.env := by rfl) (hpl : (backTo pos (starEach es X.env)).any (·.1) = false := by rfl) : DE X N W δ μ (.Call (.Name x p) (e :: es) [] pos) (.v (.p (.ins C ns ds'))) μ2 := by
  subst ht
  obtain ⟨f, fd, ps, ds, dvs, Fo, Mk, hb, hd, rd⟩ := ci.ex
  have hx : Passes (L2.CX X.prog X.w) X (fun _ _ _ => False) := fun _ _ _ _ _ _ _ c => by
    obtain ⟨_, _, _, _, _, _, _, _, _, _, _, _, z⟩ := c
    exact z.elim
  refine PE.imp (pe_make Mk Fo (g.room.mono hk) hg ci.at_ hb hd hx ha hdb he hpl) fun σ H Q ⟨F, A, R0, q⟩ => ⟨F, A, R0, fun vs F1 A1 H1 e1 p1 R1 rv x dx nx ndx ne => ?_⟩
  have hK := g.hK
  rw [← hK] at rd ⊢
  refine make_in (r := .v (.p .non)) R1 (rv.append (of_reps (rd F1))) hR nx ndx ne fun v F' A' H' hq rn => ?_
  have rn' : Rep N.K F' v .non := rn
  refine ⟨by cases rn'; rfl, ?_⟩
  obtain ⟨b1, b2, b3, b4⟩ := made_back R1 nx ndx ne hq
  obtain ⟨dx', fs, h1, h2, h3⟩ := b4.mus _ _ _ b3 h0
  have hA : N.A0.length ≤ μ1.length := by
    rw [← R1.rc.len]
    obtain ⟨B, e, _⟩ := R1.rc.pre
    rw [e]; simp
  obtain ⟨b5, b6⟩ := b4.freeze b3 h0 trivial hA h1
  have b7 := b5.trim hA
  rw [show (μ0.set μ1.length M.gone).take μ1.length = μ0.take μ1.length from by rw [List.take_set_of_le (Nat.le_refl _)]] at b7
  have sm : Same F1 (upd F' x (.ins C dx' fs)) := hq.base.trans b6
  refine q (.ref x) _ _ H' (e1.trans sm) (p1.trans b2) (R1.to sm b2 b7) ?_
  have := Rep.ins (K := N.K) (C := C) (fs := fs) (ds := ds') (F := upd F' x (.ins C dx' fs)) upd_same (h3.mono b6)
  rw [h2] at this
  exact this
/-- o.f = e, a new attribute of what is being made -/
theorem putF_new {f : Str} {v : V} : ∀ {fs : List (Str × V)}, f ∉ fs.map (·.1) → putF f v fs = fs ++ [(f, v)]
  | [], _ => rfl
  | (k, w) :: r, h => by
    have h1 : k ≠ f := fun z => h (by rw [← z]; exact List.mem_cons_self)
    rw [show putF f v ((k, w) :: r) = (if k = f then (k, v) :: r else (k, w) :: putF f v r) from rfl, if_neg h1, putF_new fun z => h (List.mem_cons_of_mem _ z)]
    rfl
theorem Reps.snoc {K : PySem.W.Frag} {F : Hp} {vs : List V} {ds : List D} {v : V} {d : D} (h : Reps K F vs ds) (r : Rep K F v d) : Reps K F (vs ++ [v]) (ds ++ [d]) := h.append (.cons r .nil)
theorem ds_fldNew {pos' : Pos} {j : Nat} {ns : List Str} {ds : List D} (hv : DE X N W δ μ e (.v (.p d)) μ1) (ho : DE X N W δ μ1 o (.v (.l j)) μ2) (c : Cls X.K C) (nf : NoAttr X.K C f) (hm : μ2[j]? = some (.obj C ns ds)) (hn : f ∉ ns := by decide) (hl : ns.length < 900 := by decide)
    (hs : swapsWith e (some (.Attribute o f pos')) pos.line X.env = pure false := by rfl) : DS X N W δ μ (.Assign [.Attribute o f pos'] e pos) (.nx δ (μ2.set j (.obj C (ns ++ [f]) (ds ++ [d])))) :=
  PS.imp (ps_fld ho hv hs) fun K σ H ⟨F, A, R0, q⟩ => ⟨F, A, R0, fun v F1 A1 H1 e1 p1 R1 rv => ⟨F1, A1, R1, fun x F2 A2 H2 e2 p2 R2 rx => by
    obtain ⟨a, rfl, ha⟩ := rx
    have rv2 : Rep N.K F2 v d := Rep.mono e2 rv
    obtain ⟨dx, fs, h1, h2, h3⟩ := R2.rc.mus j a _ ha hm
    subst h2
    refine ⟨a, C, dx, fs, rfl, h1, c, nf, by rw [List.length_map] at hl; omega, ?_⟩
    rw [putF_new hn]
    refine q σ F2 A2 _ (e1.trans e2) (p1.trans p2) (R2.to (Same.refl _) (List.prefix_refl _) (R2.rc.write ha hm trivial ⟨dx, fs ++ [(f, v)], upd_same, by simp, ?_⟩))
    rw [List.map_append]
    exact h3.snoc rv2⟩⟩
end
/-! ## a def by its body -/
def starts (Nn : List Str) (ss : List S) : List (Option S) := ss.map some ++ List.replicate (Nn.length - ss.length) none
inductive Fit (n0 : Nat) : Os → Rx → List M → Prop
  | rt {s μ} : Fit n0 (.rt s μ) (.v s) μ
  | rtT {d μ n} : n0 ≤ n → Fit n0 (.rt (.p d) μ) (.v (.p d)) (μ.take n)
  | nx {δ μ} : Fit n0 (.nx δ μ) (.v (.p .non)) μ
  | nxT {δ μ n} : n0 ≤ n → Fit n0 (.nx δ μ) (.v (.p .non)) (μ.take n)
  | xx {C d δ μ} : Fit n0 (.xx C d δ μ) (.x C d) μ
  | xxT {C d δ μ n} : n0 ≤ n → Fit n0 (.xx C d δ μ) (.x C d) (μ.take n)
theorem start_slots {N : En} {F : Hp} {A : List Addr} {vs : List V} {ss : List S} (Nn : List Str) (r : RepSs N.K F A vs ss) : (starts Nn ss).length = (L2.start Nn vs).length ∧ ∀ (i : Nat) (s : S), (starts Nn ss)[i]? = some (some s) → ∃ v, (L2.start Nn vs)[i]? = some (some v) ∧ RepS N.K F A v s := by
  have hl := r.length
  refine ⟨by simp [starts, L2.start, hl], fun i s h => ?_⟩
  unfold starts at h
  by_cases hi : i < ss.length
  · rw [List.getElem?_append_left (by simpa using hi), List.getElem?_map] at h
    have key : ∀ {vs : List V} {ss : List S}, RepSs N.K F A vs ss → ∀ (i : Nat) (s : S), (ss[i]?).map some = some (some s) → ∃ v, vs[i]? = some v ∧ RepS N.K F A v s := by
      intro vs ss r
      induction r with
      | nil => intro i s e; simp at e
      | cons a b ih =>
        intro i s e
        cases i with
        | zero => simp at e; subst e; exact ⟨_, rfl, a⟩
        | succ i =>
          obtain ⟨v, h1, h2⟩ := ih i s (by simpa using e)
          exact ⟨v, by simpa using h1, h2⟩
    obtain ⟨v, h1, h2⟩ := key r i s h
    refine ⟨v, ?_, h2⟩
    unfold L2.start
    have hv : i < (vs.map some).length := by simpa [hl] using hi
    rw [List.getElem?_append_left hv, List.getElem?_map, h1]
    rfl
  · rw [List.getElem?_append_right (by simpa using hi), List.getElem?_replicate] at h
    split at h <;> cases h
theorem fn_D {P : Program} {w : World} {K : PySem.W.Frag} {mg : Str → Option Value} {base : Heap} {x qual : Str} {st : Stmt} {f : Addr} {fd : FuncData} {Nn ps : List Str} {k : Nat} {R : Rel} (F : Fun K x qual st f fd) (Sc : FnScope Nn ps (defScope st)) (hlen : ∀ ss μ r μ', R ss μ r μ' → ss.length = ps.length)
    (body : ∀ (cdv : Value) (A : Around) (outer : List Env) (s : Shared) (H : Hp) (E : XK) (N : En) (W : WX) (ss : List S) (μ : List M) (r : Rx) (μ' : List M), Go (cxOf (L2.CX P w) P w K mg base Nn qual (defScope st) f cdv A outer s H E) N W k → N.A0.length = μ.length → R ss μ r μ' →
      ∃ o, DSs (cxOf (L2.CX P w) P w K mg base Nn qual (defScope st) f cdv A outer s H E) N W (starts Nn ss) μ (defBody st) o ∧ Fit μ.length o r μ') :
    FnOk P w K mg base (L2.CX P w) (k + 1) f fd ps (spD K R) := by
  refine F.okX Sc (fun vs H Q E h => ?_) (fun cdv A outer s H vs Q E hr h => ?_)
  · obtain ⟨F0, A0, ss, μ, r, μ', hR, _, rv, _⟩ := h
    rw [rv.length]
    exact hlen _ _ _ _ hR
  · obtain ⟨F0, A0, ss, μ, r, μ', hR, rc, rv, hq⟩ := h
    have g : Go (cxOf (L2.CX P w) P w K mg base Nn qual (defScope st) f cdv A outer s H E) ⟨K, H, F0, A0⟩ (fun cls d _ H => E cls d H) k :=
      ⟨takes_of rfl rfl rfl rfl, rfl, rfl, hr, passes_of rfl, Sc.nd⟩
    have h0 : A0.length = μ.length := rc.len
    obtain ⟨o, hd, fit⟩ := body cdv A outer s H E ⟨K, H, F0, A0⟩ _ ss μ r μ' g h0 hR
    refine ⟨_, hd, F0, A0, ⟨rc, (start_slots (N := ⟨K, H, F0, A0⟩) Nn rv).1, (start_slots (N := ⟨K, H, F0, A0⟩) Nn rv).2⟩, ?_⟩
    · cases fit with
      | rt => exact fun v F' A' H' e p rc' rv' => hq v F' A' H' rc' rv'
      | rtT hn => exact fun v F' A' H' e p rc' rv' => hq v F' _ H' (rc'.trim (by show A0.length ≤ _; omega)) rv'
      | nx => exact fun σ' F' A' H' e p R' => hq .non F' A' H' R'.rc .non
      | nxT hn => exact fun σ' F' A' H' e p R' => hq .non F' _ H' (R'.rc.trim (by show A0.length ≤ _; omega)) .non
      | xx => exact fun σ' dx v F' A' H' e p R' h1 h2 => hq dx v F' A' H' R'.rc h1 h2
      | xxT hn => exact fun σ' dx v F' A' H' e p R' h1 h2 => hq dx v F' _ H' (R'.rc.trim (by show A0.length ≤ _; omega)) h1 h2
end Dl
set_option Elab.async false
set_option linter.all false
set_option maxRecDepth 100000
set_option maxHeartbeats 4000000
set_option autoImplicit false
namespace Dl
open PySem PySem.Spec PyProof.Rows L2
/-! ## what is walked -/
/-- an item comes: as it stands, or in a new tuple -/
def ItemAt (K : PySem.W.Frag) (F H : Hp) (x : V) (H' : Hp) (d : D) : Prop :=
  (H' = H ∧ Rep K F x d) ∨ ∃ T vs es, x = .ref T ∧ H T = none ∧ H' = upd H T (.tup vs) ∧ d = .tup es ∧ Reps K F vs es
abbrev Yl (K : PySem.W.Frag) (J : It) (F : Hp) (ds : List D) : Prop := Walk J ds.length (fun H => Same F H) (fun i H x H' => ∃ d, ds[i]? = some d ∧ ItemAt K F H x H' d)
theorem Yl.mono {K : PySem.W.Frag} {J : It} {F F' : Hp} {ds : List D} (y : Yl K J F ds) (e : Same F F') : Yl K J F' ds :=
  Walk.mono y (fun H h => e.trans h) fun i H x H' _ _ ⟨d, h1, h2⟩ => ⟨d, h1, by
    rcases h2 with ⟨a, b⟩ | ⟨T, vs, es, a, b, c, d, r⟩
    · exact .inl ⟨a, b.mono e⟩
    · exact .inr ⟨T, vs, es, a, b, c, d, r.mono e⟩⟩
/-- behind an item -/
theorem Rl.item {N : En} {F : Hp} {A : List Addr} {H H' : Hp} {σ : L2.St} {δ : List (Option S)} {μ : List M} {x : V} {d : D} (R : Rl N F A H σ δ μ) (h : ItemAt N.K F H x H' d) : ∃ F', Same F F' ∧ Rl N F' A H' σ δ μ ∧ Rep N.K F' x d := by
  rcases h with ⟨rfl, r⟩ | ⟨T, vs, es, rfl, nT, rfl, rfl, r⟩
  · exact ⟨F, Same.refl _, R, r⟩
  · have sm := same_updN (o := .tup vs) (R.rc.fresh nT).2.1
    exact ⟨_, sm, R.to sm (List.prefix_refl _) (R.rc.frozen nT _), .tup (SqT.of upd_same) (r.mono sm)⟩
def tI (N : En) (W : WX) (δ : List (Option S)) (μ : List M) (ds : List D) (μ' : List M) : TI := fun σ H Rk => ∃ F A, Rl N F A H σ δ μ ∧ ∀ J F' A' H', Same F F' → A <+: A' → Rl N F' A' H' σ δ μ' → Yl N.K J F' ds → Rk J H'
def DI (X : Cx) (N : En) (W : WX) (δ : List (Option S)) (μ : List M) (tg iter : Expr) (ds : List D) (μ' : List M) : Prop := PI X tg iter (tI N W δ μ ds μ')
theorem PI.imp {X : Cx} {tg iter : Expr} {t t' : TI} (h : PI X tg iter t) (w : ∀ σ H Q, t' σ H Q → t σ H Q) : PI X tg iter t' := ⟨fun p s σ H Q I q => h.run p s σ H Q I (w σ H Q q)⟩
theorem rep_lst {K : PySem.W.Frag} {F : Hp} {v : V} {ds : List D} (h : Rep K F v (.lst ds)) : ∃ a vs, v = .ref a ∧ F a = some (.lst vs) ∧ Reps K F vs ds := by
  generalize hd : D.lst ds = d at h
  cases h with
  | lst h1 h2 => cases hd; exact ⟨_, _, rfl, h1, h2⟩
  | _ => cases hd
theorem rep_tup {K : PySem.W.Frag} {F : Hp} {v : V} {ds : List D} (h : Rep K F v (.tup ds)) : ∃ a vs, v = .ref a ∧ SqT K F a vs ∧ Reps K F vs ds := by
  generalize hd : D.tup ds = d at h
  cases h with
  | tup h1 h2 => cases hd; exact ⟨_, _, rfl, h1, h2⟩
  | _ => cases hd
/-- what a datum does to the slots -/
abbrev As := D → List (Option S) → Option (List (Option S))
inductive Loop (X : Cx) (N : En) (W : WX) (f : As) (body : List Stmt) : List D → List (Option S) → List M → Os → Prop
  | nil {δ μ} : Loop X N W f body [] δ μ (.nx δ μ)
  | next {d ds δ μ δt δ1 μ1 o} : f d δ = some δt → DSs X N W δt μ body (.nx δ1 μ1) → Loop X N W f body ds δ1 μ1 o → Loop X N W f body (d :: ds) δ μ o
  | cont {d ds δ μ δt δ1 μ1 o} : f d δ = some δt → DSs X N W δt μ body (.ct δ1 μ1) → Loop X N W f body ds δ1 μ1 o → Loop X N W f body (d :: ds) δ μ o
  | brk {d ds δ μ δt δ1 μ1} : f d δ = some δt → DSs X N W δt μ body (.bk δ1 μ1) → Loop X N W f body (d :: ds) δ μ (.nx δ1 μ1)
  | ret {d ds δ μ δt s μ1} : f d δ = some δt → DSs X N W δt μ body (.rt s μ1) → Loop X N W f body (d :: ds) δ μ (.rt s μ1)
  | exc {d ds δ μ δt C y δ1 μ1} : f d δ = some δt → DSs X N W δt μ body (.xx C y δ1 μ1) → Loop X N W f body (d :: ds) δ μ (.xx C y δ1 μ1)
section
variable {X : Cx} {N : En} {W : WX} {n : Nat} {δ δ' δ1 δ2 : List (Option S)} {μ μ' μ1 μ2 μ3 : List M} {e a b c o tg iter : Expr} {es : List Expr} {ss : List S} {pos p apos : Pos} {d : D} {s s1 s2 : S} {r : Rx} {ds : List D}
theorem yl_list {K : PySem.W.Frag} {F : Hp} {a : Addr} {vs : List V} (h : F a = some (.lst vs)) (r : Reps K F vs ds) : Yl K (Itl K a) F ds := by
  unfold Yl
  rw [← r.length]
  exact Walk.mono (walk_list (xs := vs)) (fun H e => SqL.of (e _ _ h)) fun i H x H' _ _ ⟨e, hx⟩ => by
    obtain ⟨d, h1, h2⟩ := r.get' hx
    exact ⟨d, h1, .inl ⟨e, h2⟩⟩
theorem yl_tup {K : PySem.W.Frag} {F : Hp} {a : Addr} {vs : List V} (h : SqT K F a vs) (r : Reps K F vs ds) : Yl K (Itt K a) F ds := by
  unfold Yl
  rw [← r.length]
  exact Walk.mono (walk_tup (xs := vs)) (fun H e => same_sqT e h) fun i H x H' _ _ ⟨e, hx⟩ => by
    obtain ⟨d, h1, h2⟩ := r.get' hx
    exact ⟨d, h1, .inl ⟨e, h2⟩⟩
theorem di_lst (g : Go X N W n) (h : DE X N W δ μ iter (.v (.p (.lst ds))) μ1) : DI X N W δ μ tg iter ds μ1 :=
  PI.imp (pi_list h) fun σ H Rk ⟨F, A, R, k⟩ => ⟨F, A, R, fun v F1 A1 H1 e1 p1 R1 rv => by
    have hK := g.hK
    rw [← hK]
    obtain ⟨a, vs, rfl, h1, h2⟩ := rep_lst rv
    exact ⟨a, rfl, ⟨vs, SqL.of (R1.rc.sub _ _ h1)⟩, k _ F1 A1 H1 e1 p1 R1 (yl_list h1 h2)⟩⟩
theorem di_tup (g : Go X N W n) (h : DE X N W δ μ iter (.v (.p (.tup ds))) μ1) : DI X N W δ μ tg iter ds μ1 :=
  PI.imp (pi_tup h) fun σ H Rk ⟨F, A, R, k⟩ => ⟨F, A, R, fun v F1 A1 H1 e1 p1 R1 rv => by
    have hK := g.hK
    rw [← hK]
    obtain ⟨a, vs, rfl, h1, h2⟩ := rep_tup rv
    exact ⟨a, rfl, ⟨vs, same_sqT R1.rc.sub h1⟩, k _ F1 A1 H1 e1 p1 R1 (yl_tup h1 h2)⟩⟩
def rangeD (lo : Int) (n : Nat) : List D := (List.range n).map fun i => D.int (lo + (i : Nat))
theorem yl_range {K : PySem.W.Frag} {F : Hp} {lo : Int} {n : Nat} : Yl K (Itr lo n) F (rangeD lo n) := by
  unfold Yl
  rw [show (rangeD lo n).length = n from by simp [rangeD]]
  exact Walk.mono (walk_range (lo := lo) (n := n)) (fun _ _ => trivial) fun i H x H' hi _ ⟨e, hx⟩ => by
    refine ⟨.int (lo + i), ?_, .inl ⟨e, by rw [hx]; exact .int _⟩⟩
    rw [rangeD, List.getElem?_map, List.getElem?_range hi]
    rfl
theorem di_range1 {j : Int} (h : DA X N W δ μ [a] [.p (.int j)] μ1) (hm : X.mg "range" = none) (h1 : -(2 ^ 62) ≤ j ∧ j < 2 ^ 62) (hg : Gl X "range" := by rfl) (hs : starEach [a] X.env = [(false, eval a X.env)] := by rfl) : DI X N W δ μ tg (.Call (.Name "range" p) [a] [] pos) (rangeD 0 j.toNat) μ1 :=
  PI.imp (pi_range1 hg hm h hs) fun σ H Rk ⟨F, A, R, k⟩ => ⟨F, A, R, fun vs F1 A1 H1 e1 p1 R1 rv => by
    cases rv with
    | cons r1 r2 =>
      cases r2
      have r1' : Rep N.K F1 _ (.int j) := r1
      cases r1'
      exact ⟨j, rfl, h1.1, h1.2, k _ F1 A1 H1 e1 p1 R1 yl_range⟩⟩
def chars (z : Str) : List D := z.cps.toList.map fun c => D.str ⟨#[c]⟩
theorem yl_str {K : PySem.W.Frag} {F : Hp} {z : Str} : Yl K (Its z) F (chars z) := by
  unfold Yl
  rw [show (chars z).length = z.cps.size from by simp [chars]]
  exact Walk.mono (walk_str (z := z)) (fun _ _ => trivial) fun i H x H' hi _ ⟨e, c, h1, hx⟩ => by
    refine ⟨.str ⟨#[c]⟩, ?_, .inl ⟨e, by rw [hx]; exact .str _⟩⟩
    rw [chars, List.getElem?_map, Array.getElem?_toList, h1]
    rfl
theorem di_str {z : Str} (h : DE X N W δ μ iter (.v (.p (.str z))) μ1) : DI X N W δ μ tg iter (chars z) μ1 :=
  PI.imp (pi_str h) fun σ H Rk ⟨F, A, R, k⟩ => ⟨F, A, R, fun v F1 A1 H1 e1 p1 R1 rv => by
    have rv' : Rep N.K F1 _ (.str z) := rv
    cases rv'
    exact ⟨z, rfl, k _ F1 A1 H1 e1 p1 R1 yl_str⟩⟩
/-! ## targets -/
def tGd (N : En) (f : As) (ix : List Nat) : TG := fun v σ H Q => ∃ F A δ μ d δ', Rl N F A H σ δ μ ∧ Rep N.K F v d ∧ f d δ = some δ' ∧ ∀ σ', wipe σ' ix = wipe σ ix → Rl N F A H σ' δ' μ → Q σ' H
def DG (X : Cx) (N : En) (tg : Expr) (f : As) (ix : List Nat) : Prop := PG X tg (tGd N f ix)
theorem wipe_get : ∀ {vs : List Nat} {σ : L2.St} {i : Nat}, (wipe σ vs)[i]? = if i ∈ vs then (σ[i]?).map (fun _ => none) else σ[i]?
  | [], σ, i => by simp [wipe]
  | v :: vs, σ, i => by
    unfold wipe
    by_cases h : v = i
    · subst h
      rw [if_pos List.mem_cons_self]
      by_cases hl : v < σ.length
      · rw [List.getElem?_set_self (by rw [wipe_length]; exact hl), List.getElem?_eq_getElem hl]
        rfl
      · rw [List.getElem?_eq_none (by simp [wipe_length]; omega), List.getElem?_eq_none (by omega)]
        rfl
    · rw [List.getElem?_set_ne h, wipe_get]
      by_cases hi : i ∈ vs
      · rw [if_pos hi, if_pos (List.mem_cons_of_mem _ hi)]
      · rw [if_neg hi, if_neg (by
          intro z
          rcases List.mem_cons.mp z with z | z
          · exact h z.symm
          · exact hi z)]
theorem wipe_sub {σ σ' : L2.St} {ix vs : List Nat} (h : ∀ i ∈ ix, i ∈ vs) (e : wipe σ' ix = wipe σ ix) : wipe σ' vs = wipe σ vs := by
  have hl : σ'.length = σ.length := by
    have := congrArg List.length e
    rwa [wipe_length, wipe_length] at this
  apply List.ext_getElem?
  intro i
  rw [wipe_get, wipe_get]
  by_cases hi : i ∈ vs
  · rw [if_pos hi, if_pos hi]
    by_cases hlt : i < σ.length
    · rw [List.getElem?_eq_getElem hlt, List.getElem?_eq_getElem (by omega)]
      rfl
    · rw [List.getElem?_eq_none (by omega), List.getElem?_eq_none (by omega)]
  · rw [if_neg hi, if_neg hi]
    have q := congrArg (fun l : L2.St => l[i]?) e
    simp only [wipe_get] at q
    have hx : i ∉ ix := fun z => hi (h i z)
    rw [if_neg hx, if_neg hx] at q
    exact q
theorem wipe_trans {σ σ1 σ2 : L2.St} {ix jx : List Nat} (a : wipe σ1 ix = wipe σ ix) (b : wipe σ2 jx = wipe σ1 jx) : wipe σ2 (ix ++ jx) = wipe σ (ix ++ jx) :=
  (wipe_sub (fun i h => List.mem_append_right _ h) b).trans (wipe_sub (fun i h => List.mem_append_left _ h) a)
def asName (i : Nat) : As := fun d δ => some (δ.set i (some (.p d)))
def asAll : List As → List D → List (Option S) → Option (List (Option S))
  | [], [], δ => some δ
  | f :: fs, d :: ds, δ => (f d δ).bind fun δ' => asAll fs ds δ'
  | _, _, _ => none
def asTup (fs : List As) : As := fun d δ => match d with
  | .tup ds => asAll fs ds δ
  | _ => none
theorem PG.imp {X : Cx} {tg : Expr} {t t' : TG} (h : PG X tg t) (w : ∀ v σ H Q, t' v σ H Q → t v σ H Q) : PG X tg t' := ⟨fun p s σ H v u Q I r q => h.run p s σ H v u Q I r (w v σ H Q q)⟩
theorem PGs.imp {X : Cx} {ts : List Expr} {t t' : TGs} (h : PGs X ts t) (w : ∀ v σ H Q, t' v σ H Q → t v σ H Q) : PGs X ts t' := ⟨fun p s σ H v u Q I r q => h.run p s σ H v u Q I r (w v σ H Q q)⟩
theorem dg_name (i : Nat) {x : Str} (hN : X.N.Nodup) (hi : X.N[i]? = some x := by rfl) (hx : Loc X.env.scope x := by first | exact Or.inl rfl | exact Or.inr rfl) (hf : X.fn x = true ∨ X.env.scope.names.lookup x = some .local := by first | exact .inl rfl | exact .inr rfl) : DG X N (.Name x pos) (asName i) [i] :=
  PG.imp (pg_name (i := i) hN hi hx hf) fun v σ H Q ⟨F, A, δ, μ, d, δ', R, rv, hf, k⟩ => by
    cases hf
    exact k _ (by show (σ.set i (some v)).set i none = σ.set i none; rw [List.set_set]) (R.set (s := .p d) rv)
def tGds (N : En) (fs : List As) (ix : List Nat) : TGs := fun vs σ H Q => ∃ F A δ μ ds δ', Rl N F A H σ δ μ ∧ Reps N.K F vs ds ∧ asAll fs ds δ = some δ' ∧ ∀ σ', wipe σ' ix = wipe σ ix → Rl N F A H σ' δ' μ → Q σ' H
def DGs (X : Cx) (N : En) (ts : List Expr) (fs : List As) (ix : List Nat) : Prop := PGs X ts (tGds N fs ix)
theorem dgs_nil : DGs X N [] [] [] := PGs.imp pgs_nil fun vs σ H Q ⟨F, A, δ, μ, ds, δ', R, rv, hf, k⟩ => by
  cases rv with
  | nil => cases hf; exact ⟨rfl, k σ rfl R⟩
  | cons _ _ => cases hf
theorem dgs_cons {ts : List Expr} {f : As} {fs : List As} {ix jx : List Nat} (h : DG X N e f ix) (h' : DGs X N ts fs jx) (hs : (assignEach (e :: ts) X.env).map (·.2) = assign e X.env :: (assignEach ts X.env).map (·.2) := by rfl) : DGs X N (e :: ts) (f :: fs) (ix ++ jx) :=
  PGs.imp (pgs_cons h h' hs) fun vs σ H Q ⟨F, A, δ, μ, ds, δ', R, rv, hf, k⟩ => by
    cases rv with
    | nil => cases hf
    | @cons v d vs ds r1 r2 =>
      have hf' : (f d δ).bind (fun δ' => asAll fs ds δ') = some δ' := hf
      cases hfd : f d δ with
      | none => rw [hfd] at hf'; cases hf'
      | some δ1 =>
        rw [hfd] at hf'
        exact ⟨v, vs, rfl, F, A, δ, μ, d, δ1, R, r1, hfd, fun σ1 w1 R1 => ⟨F, A, δ1, μ, ds, δ', R1, r2, hf', fun σ2 w2 R2 => k σ2 (wipe_trans w1 w2) R2⟩⟩
theorem asAll_len : ∀ {fs : List As} {ds : List D} {δ δ' : List (Option S)}, asAll fs ds δ = some δ' → ds.length = fs.length
  | [], [], _, _, _ => rfl
  | [], _ :: _, _, _, h => by cases h
  | _ :: _, [], _, _, h => by cases h
  | f :: fs, d :: ds, δ, δ', h => by
    have hf' : (f d δ).bind (fun δ' => asAll fs ds δ') = some δ' := h
    cases hfd : f d δ with
    | none => rw [hfd] at hf'; cases hf'
    | some δ1 =>
      rw [hfd] at hf'
      rw [List.length_cons, List.length_cons, asAll_len hf']
theorem dg_tup {ts : List Expr} {kk : Nat} {fs : List As} {ix : List Nat} (h : DGs X N ts fs ix) (hK : N.K = X.K) (hc : X.calm = true) (hn : (assignEach ts X.env).length = fs.length := by rfl) (hst : (assignEach ts X.env).findIdx? (·.1) = none := by rfl) : DG X N (.Tuple ts kk pos) (asTup fs) ix :=
  PG.imp (pg_tup hc h hn hst) fun v σ H Q ⟨F, A, δ, μ, d, δ', R, rv, hf, k⟩ => by
    cases d with
    | tup ds =>
      obtain ⟨a, vs, rfl, h1, h2⟩ := rep_tup rv
      refine ⟨a, vs, rfl, ?_, ?_, F, A, δ, μ, ds, δ', R, h2, hf, k⟩
      · rw [← hK]; exact same_sqT R.rc.sub h1
      · rw [h2.length]; exact asAll_len hf
    | _ => cases hf
/-- target = e, by a target's rule -/
theorem ds_asg {f : As} {ix : List Nat} (h : DE X N W δ μ e (.v (.p d)) μ1) (hg : DG X N tg f ix) (hf : f d δ = some δ1) (hs : swapsWithSole [tg] e pos.line X.env = pure false := by rfl) (hw : swappedStores [tg] e X.env = pure none := by rfl)
    (h1 : (assignEach [tg] X.env).map (·.2) = [assign tg X.env] := by rfl) : DS X N W δ μ (.Assign [tg] e pos) (.nx δ1 μ1) :=
  PS.imp (ps_asg h hg hs hw h1) fun K σ H ⟨F, A, R, k⟩ => ⟨F, A, R, fun v F1 A1 H1 e1 p1 R1 rv => ⟨F1, A1, δ, μ1, d, δ1, R1, rv, hf, fun σ' _ R' => k σ' F1 A1 H1 e1 p1 R'⟩⟩
/-! ## for -/
theorem ds_for {body : List Stmt} {f : As} {ix : List Nat} {o : Os} (g : Go X N W n) (hi : DI X N W δ μ tg iter ds μ1) (hg : DG X N tg f ix) (hl : Loop X N W f body ds δ μ1 o) (hs : ∀ x, foldedSetIterable iter X.env x = pure x := by intro _; rfl) : DS X N W δ μ (.For tg iter body [] pos) o := by
  have hb : PSs X body (fun K σ H => ∃ δt μt o1, DSs X N W δt μt body o1 ∧ tDS N W δt μt o1 K σ H) := ⟨fun p s σ H K I ⟨δt, μt, o1, hd, q⟩ => hd.run p s σ H K I q⟩
  refine PS.imp (ps_for g.po g.calm hi hg hb hs) fun K σ H ⟨F, A, R, k⟩ => ⟨F, A, R, fun J F1 A1 H1 e1 p1 R1 y => ?_⟩
  have k1 := k.to e1 p1
  refine ⟨fun i m σ' H' => i ≤ ds.length ∧ m = ds.length - i ∧ ∃ F' A' δ' μ', Same F1 F' ∧ A1 <+: A' ∧ Rl N F' A' H' σ' δ' μ' ∧ Loop X N W f body (ds.drop i) δ' μ' o, ⟨ds.length, Nat.zero_le _, by simp, F1, A1, δ, μ1, Same.refl _, List.prefix_refl _, R1, by simpa using hl⟩, ?_⟩
  rintro i m σ' H' ⟨hi, rfl, F', A', δ', μ', e', p', R', hL⟩
  have k2 := k1.to e' p'
  by_cases hlt : i < ds.length
  · refine .inr ⟨y.goes i H' hlt (e'.trans R'.rc.sub), fun σ2 H2 => ∃ F2 A2 δ2 μ2, Same F1 F2 ∧ A1 <+: A2 ∧ Rl N F2 A2 H2 σ2 δ2 μ2 ∧ Loop X N W f body (ds.drop (i + 1)) δ2 μ2 o, fun σ2 H2 ⟨F2, A2, δ2, μ2, a, b, c, d⟩ => ⟨ds.length - (i + 1), by omega, hlt, rfl, F2, A2, δ2, μ2, a, b, c, d⟩, fun x H2 hy => ?_⟩
    obtain ⟨d, hd, it⟩ := (y.mono e').yields i H' x H2 hlt R'.rc.sub hy
    obtain ⟨F2, e2, R2, rx⟩ := R'.item it
    rw [List.drop_eq_getElem_cons hlt] at hL
    have hd' : ds[i] = d := by
      rw [List.getElem?_eq_getElem hlt] at hd
      exact Option.some.inj hd
    rw [hd'] at hL
    have k3 := k2.to e2 (List.prefix_refl _)
    cases hL with
    | next hf hb hL => exact ⟨F2, A', δ', μ', d, _, R2, rx, hf, fun σ3 _ R3 => ⟨_, _, _, hb, F2, A', R3, fun σ4 F4 A4 H4 e4 p4 R4 => ⟨F4, A4, _, _, (e'.trans e2).trans e4, p'.trans p4, R4, hL⟩⟩⟩
    | cont hf hb hL => exact ⟨F2, A', δ', μ', d, _, R2, rx, hf, fun σ3 _ R3 => ⟨_, _, _, hb, F2, A', R3, fun σ4 F4 A4 H4 e4 p4 R4 => ⟨F4, A4, _, _, (e'.trans e2).trans e4, p'.trans p4, R4, hL⟩⟩⟩
    | brk hf hb => exact ⟨F2, A', δ', μ', d, _, R2, rx, hf, fun σ3 _ R3 => ⟨_, _, _, hb, F2, A', R3, fun σ4 F4 A4 H4 e4 p4 R4 => k3 σ4 F4 A4 H4 e4 p4 R4⟩⟩
    | ret hf hb => exact ⟨F2, A', δ', μ', d, _, R2, rx, hf, fun σ3 _ R3 => ⟨_, _, _, hb, F2, A', R3, k3⟩⟩
    | exc hf hb => exact ⟨F2, A', δ', μ', d, _, R2, rx, hf, fun σ3 _ R3 => ⟨_, _, _, hb, F2, A', R3, k3⟩⟩
  · have e : i = ds.length := by omega
    subst e
    refine .inl ⟨y.stops H' (e'.trans R'.rc.sub), ?_⟩
    rw [List.drop_length] at hL
    cases hL
    exact k2 σ' F' A' H' (Same.refl _) (List.prefix_refl _) R'
end
end Dl
set_option Elab.async false
set_option linter.all false
set_option maxRecDepth 100000
set_option maxHeartbeats 4000000
set_option autoImplicit false
namespace Dl
open PySem PySem.Spec PyProof.Rows L2
/-- an object that is neither frozen nor told is changed -/
theorem Rc.poke {N : En} {F : Hp} {A : List Addr} {H : Hp} {μ : List M} (r : Rc N F A H μ) {p : Addr} (hF : F p = none) (hA : p ∉ A) (h0 : N.H0 p = none) (o : HO) : Rc N F A (upd H p o) μ where
  sub := fun b x e => by
    have hb : b ≠ p := fun z => by rw [z, hF] at e; cases e
    rw [upd_ne hb]; exact r.sub b x e
  base := r.base
  new := r.new
  keep := fun a x e hA => by
    have hb : a ≠ p := fun z => by rw [z, h0] at e; cases e
    rw [upd_ne hb]; exact r.keep a x e hA
  pre := r.pre
  nd := r.nd
  len := r.len
  mus := fun j a m h1 h2 => (r.mus j a m h1 h2).mono (Same.refl _) (List.prefix_refl _) (upd_ne (ne_mem hA h1))
  fr := r.fr
/-- .. is frozen -/
theorem Rc.adopt {N : En} {F : Hp} {A : List Addr} {H : Hp} {μ : List M} (r : Rc N F A H μ) {p : Addr} (hF : F p = none) (hA : p ∉ A) (h0 : N.H0 p = none) {o : HO} (ho : H p = some o) : Rc N (upd F p o) A H μ where
  sub := fun b x e => by
    by_cases hb : b = p
    · subst hb; rw [upd_same] at e; cases e; exact ho
    · rw [upd_ne hb] at e; exact r.sub b x e
  base := r.base.trans (same_updN hF)
  new := fun a x e => by
    by_cases hb : a = p
    · subst hb; exact .inr h0
    · rw [upd_ne hb] at e; exact r.new a x e
  keep := r.keep
  pre := r.pre
  nd := r.nd
  len := r.len
  mus := fun j a m h1 h2 => (r.mus j a m h1 h2).mono (same_updN hF) (List.prefix_refl _) rfl
  fr := fun j a m h1 h2 h3 => by
    rw [upd_ne (ne_mem hA h1)]
    exact r.fr j a m h1 h2 h3
def wipeD (δ : List (Option S)) : List Nat → List (Option S)
  | [] => δ
  | v :: vs => (wipeD δ vs).set v none
theorem wipeD_len (δ : List (Option S)) : ∀ vs : List Nat, (wipeD δ vs).length = δ.length
  | [] => rfl
  | v :: vs => by unfold wipeD; rw [List.length_set, wipeD_len δ vs]
theorem wipeD_some {δ : List (Option S)} {i : Nat} {x : S} : ∀ {vs : List Nat}, (wipeD δ vs)[i]? = some (some x) → δ[i]? = some (some x) ∧ i ∉ vs
  | [], h => ⟨h, by simp⟩
  | v :: vs, h => by
    unfold wipeD at h
    by_cases hi : v = i
    · subst hi
      by_cases hv : v < (wipeD δ vs).length
      · rw [List.getElem?_set_self hv] at h; cases h
      · rw [List.getElem?_eq_none (by simpa using hv)] at h; cases h
    · rw [List.getElem?_set_ne hi] at h
      obtain ⟨h1, h2⟩ := wipeD_some h
      exact ⟨h1, by simp only [List.mem_cons, not_or]; exact ⟨fun e => hi e.symm, h2⟩⟩
theorem Rl.wiped {N : En} {F : Hp} {A : List Addr} {H : Hp} {σ : L2.St} {δ : List (Option S)} {μ : List M} (R : Rl N F A H σ δ μ) (vs : List Nat) : Rl N F A H (wipe σ vs) (wipeD δ vs) μ :=
  ⟨R.rc, by rw [wipeD_len, wipe_length]; exact R.len, fun i s h => by
    obtain ⟨h1, h2⟩ := wipeD_some h
    obtain ⟨v, h3, h4⟩ := R.sl i s h1
    refine ⟨v, ?_, h4⟩
    rw [wipe_get, if_neg h2]
    exact h3⟩
abbrev W0 : WX := fun _ _ _ _ => False
abbrev blkX (X : Cx) (scope : Scope) (s : Shared) (H : Hp) (C : Addr) (cl : List (Str × Addr)) (fp : List Addr) : Cx := X.blk s H scope (compEnvC scope cl C X.env) fp
theorem takes00 {X : Cx} : Takes X W0 := fun _ _ x => by
  obtain ⟨_, _, _, _, _, _, _, _, _, _, _, _, _, _, _, _, z⟩ := x
  exact z.elim
theorem Go.blk {X : Cx} {N N' : En} {W : WX} {n : Nat} {scope : Scope} {s : Shared} {H : Hp} {C : Addr} {cl : List (Str × Addr)} {fp : List Addr} (g : Go X N W n) (h : N'.K = N.K) : Go (blkX X scope s H C cl fp) N' W0 n :=
  ⟨takes00, g.calm, h.trans g.hK, g.room, PassesOwn.never, g.nd⟩
inductive CmpL (P : List (Option S) → List M → Option D → List M → Prop) (f : As) (δ : List (Option S)) : List D → List M → List D → List M → Prop
  | nil {μ} : CmpL P f δ [] μ [] μ
  | keep {d ds δt μ y μ1 ys μ2} : f d δ = some δt → P δt μ (some y) μ1 → CmpL P f δ ds μ1 ys μ2 → CmpL P f δ (d :: ds) μ (y :: ys) μ2
  | drop {d ds δt μ μ1 ys μ2} : f d δ = some δt → P δt μ none μ1 → CmpL P f δ ds μ1 ys μ2 → CmpL P f δ (d :: ds) μ ys μ2
theorem CmpL.len {P : List (Option S) → List M → Option D → List M → Prop} {f : As} {δ : List (Option S)} {ds ys : List D} {μ μ' : List M} (h : CmpL P f δ ds μ ys μ') : ys.length ≤ ds.length := by
  induction h with
  | nil => exact Nat.le_refl _
  | keep _ _ _ ih => exact Nat.succ_le_succ ih
  | drop _ _ _ ih => exact Nat.le_succ_of_le ih
section
variable {X : Cx} {N : En} {W : WX} {n : Nat} {δ δ' δ1 δ2 : List (Option S)} {μ μ' μ1 μ2 μ3 : List M} {elt tg iter : Expr} {ifs : List Expr} {pos : Pos} {ds ys : List D} {scope : Scope} {own : List (Str × Nat)} {f : As} {ix : List Nat}
theorem lc_go {J : It} {F1 : Hp} {A1 : List Addr} {H1 : Hp} {σ : L2.St} {tt : TT} {te : TE} {D0 : Addr} {Qd : Hp → Prop} (hds : ds.length < sizeLine) (R1 : Rl N F1 A1 H1 σ δ μ1) (y : Yl N.K J F1 ds) (hD : H1 D0 = none) (hix : ∀ i ∈ ix, i ∈ own.map (·.2))
    (P : List (Option S) → List M → Option D → List M → Prop) (hl : CmpL P f (wipeD δ (own.map (·.2))) ds μ1 ys μ2)
    (hP : ∀ (N' : En) F A σ2 H2 δt μt r μu (Q : Option V → Hp → Prop), N'.K = N.K → Rl N' F A H2 σ2 δt μt → P δt μt r μu →
      (∀ v F' A' H', Same F F' → A <+: A' → Rl N' F' A' H' σ2 δt μu → (match r, v with | some y, some v => Rep N.K F' v y | none, none => True | _, _ => False) → Q v H') →
      tt σ2 H2 fun b H3 => if b = true then te σ2 H3 fun v H4 => Q (some v) H4 else Q none H3)
    (hq : ∀ F' A' H' vs, Same F1 F' → A1 <+: A' → Rc N F' A' H' μ2 → H' D0 = some (.lst vs) → F' D0 = none → D0 ∉ A' → Reps N.K F' vs ys → Qd H') :
    ∃ Wt : Nat → Nat → Hp → Prop, (∃ m, Wt 0 m (upd H1 D0 (.lst []))) ∧ ∀ i m H, Wt i m H →
      (J.stop i H ∧ Qd H) ∨ (J.go i H ∧ ∃ Nx : Hp → Prop, (∀ H', Nx H' → ∃ m', m' < m ∧ Wt (i + 1) m' H') ∧ ∀ x H', J.yld i H x H' → tGd N f ix x (wipe σ (own.map (·.2))) H' fun σ2 H2 => wipe σ2 (own.map (·.2)) = wipe σ (own.map (·.2)) ∧ tt σ2 H2 fun b H3 =>
        if b = true then te σ2 H3 fun y H4 => ∃ acc, H4 D0 = some (.lst acc) ∧ acc.length < sizeLine ∧ Nx (upd H4 D0 (.lst (acc ++ [y]))) else Nx H3) := by
  have h0 := R1.rc.fresh hD
  refine ⟨fun i m H => i ≤ ds.length ∧ m = ds.length - i ∧ ∃ F A μ vs acc rest, Same F1 F ∧ A1 <+: A ∧ Rc N F A H μ ∧ H D0 = some (.lst vs) ∧ F D0 = none ∧ D0 ∉ A ∧ Reps N.K F vs acc ∧ vs.length ≤ i ∧ CmpL P f (wipeD δ (own.map (·.2))) (ds.drop i) μ rest μ2 ∧ acc ++ rest = ys,
    ⟨ds.length, Nat.zero_le _, by simp, F1, A1, μ1, [], [], ys, Same.refl _, List.prefix_refl _, R1.rc.junk hD _, upd_same, h0.2.1, h0.2.2, .nil, Nat.le_refl _, by simpa using hl, rfl⟩, ?_⟩
  rintro i m H ⟨hi, rfl, F, A, μ, vs, acc, rest, e, p, R, hv, hF, hA, hr, hvl, hL, hy⟩
  by_cases hlt : i < ds.length
  · refine .inr ⟨y.goes i H hlt (e.trans R.sub), fun H' => ∃ F A μ vs acc rest, Same F1 F ∧ A1 <+: A ∧ Rc N F A H' μ ∧ H' D0 = some (.lst vs) ∧ F D0 = none ∧ D0 ∉ A ∧ Reps N.K F vs acc ∧ vs.length ≤ i + 1 ∧ CmpL P f (wipeD δ (own.map (·.2))) (ds.drop (i + 1)) μ rest μ2 ∧ acc ++ rest = ys,
      fun H' ⟨F, A, μ, vs, acc, rest, a⟩ => ⟨ds.length - (i + 1), by omega, hlt, rfl, F, A, μ, vs, acc, rest, a⟩, fun x H' hyd => ?_⟩
    obtain ⟨d, hd, it⟩ := (y.mono e).yields i H x H' hlt R.sub hyd
    have Rf : Rl N F A H σ δ μ := R1.to e p R
    have hH' : H' D0 = some (.lst vs) := by
      rcases it with ⟨rfl, _⟩ | ⟨T, ws, es, _, nT, rfl, _, _⟩
      · exact hv
      · rw [upd_ne (ne_of_none hv nT)]; exact hv
    have hF2 : ∀ F2, Rl N F2 A H' σ δ μ → True := fun _ _ => trivial
    obtain ⟨F2, e2, R2, rx, hF20⟩ : ∃ F', Same F F' ∧ Rl N F' A H' σ δ μ ∧ Rep N.K F' x d ∧ F' D0 = none := by
      rcases it with ⟨rfl, r⟩ | ⟨T, ws, es, rfl, nT, rfl, rfl, r⟩
      · exact ⟨F, Same.refl _, Rf, r, hF⟩
      · have sm := same_updN (o := .tup ws) (R.fresh nT).2.1
        exact ⟨_, sm, Rf.to sm (List.prefix_refl _) (R.frozen nT _), .tup (SqT.of upd_same) (r.mono sm), by rw [upd_ne (ne_of_none hv nT)]; exact hF⟩
    rw [List.drop_eq_getElem_cons hlt] at hL
    have hd' : ds[i] = d := by
      rw [List.getElem?_eq_getElem hlt] at hd
      exact Option.some.inj hd
    rw [hd'] at hL
    -- one element
    have key : ∀ (σ2 : L2.St) (δt : List (Option S)) (r : Option D) (μu : List M) (rest' : List D), Rl N F2 A H' σ2 δt μ → P δt μ r μu → CmpL P f (wipeD δ (own.map (·.2))) (ds.drop (i + 1)) μu rest' μ2 →
        (match r with | some y => acc ++ y :: rest' = ys | none => acc ++ rest' = ys) →
        tt σ2 H' fun b H3 => if b = true then te σ2 H3 fun y H4 => ∃ acc, H4 D0 = some (.lst acc) ∧ acc.length < sizeLine ∧ (∃ F A μ vs acc' rest, Same F1 F ∧ A1 <+: A ∧ Rc N F A (upd H4 D0 (.lst (acc ++ [y]))) μ ∧ (upd H4 D0 (.lst (acc ++ [y]))) D0 = some (.lst vs) ∧ F D0 = none ∧ D0 ∉ A ∧ Reps N.K F vs acc' ∧ vs.length ≤ i + 1 ∧ CmpL P f (wipeD δ (own.map (·.2))) (ds.drop (i + 1)) μ rest μ2 ∧ acc' ++ rest = ys)
          else ∃ F A μ vs acc rest, Same F1 F ∧ A1 <+: A ∧ Rc N F A H3 μ ∧ H3 D0 = some (.lst vs) ∧ F D0 = none ∧ D0 ∉ A ∧ Reps N.K F vs acc ∧ vs.length ≤ i + 1 ∧ CmpL P f (wipeD δ (own.map (·.2))) (ds.drop (i + 1)) μ rest μ2 ∧ acc ++ rest = ys := by
      intro σ2 δt r μu rest' R3 hPr hL' hys
      have R3' : Rl ⟨N.K, H', F2, A⟩ F2 A H' σ2 δt μ := ⟨R3.rc.entry, R3.len, R3.sl⟩
      refine hP ⟨N.K, H', F2, A⟩ F2 A σ2 H' δt μ r μu (fun v H4 => match v with
          | some v => ∃ acc, H4 D0 = some (.lst acc) ∧ acc.length < sizeLine ∧ (∃ F A μ vs acc' rest, Same F1 F ∧ A1 <+: A ∧ Rc N F A (upd H4 D0 (.lst (acc ++ [v]))) μ ∧ (upd H4 D0 (.lst (acc ++ [v]))) D0 = some (.lst vs) ∧ F D0 = none ∧ D0 ∉ A ∧ Reps N.K F vs acc' ∧ vs.length ≤ i + 1 ∧ CmpL P f (wipeD δ (own.map (·.2))) (ds.drop (i + 1)) μ rest μ2 ∧ acc' ++ rest = ys)
          | none => ∃ F A μ vs acc rest, Same F1 F ∧ A1 <+: A ∧ Rc N F A H4 μ ∧ H4 D0 = some (.lst vs) ∧ F D0 = none ∧ D0 ∉ A ∧ Reps N.K F vs acc ∧ vs.length ≤ i + 1 ∧ CmpL P f (wipeD δ (own.map (·.2))) (ds.drop (i + 1)) μ rest μ2 ∧ acc ++ rest = ys) rfl R3' hPr fun v F4 A4 H4 e4 p4 R4 rv => ?_
      have b4 : Rc N F4 A4 H4 μu := R3.rc.back R4.rc
      have k4 : H4 D0 = some (.lst vs) := R4.rc.keep D0 _ hH' hA
      have f4 : F4 D0 = none := by
        cases q : F4 D0 with
        | none => rfl
        | some o =>
          rcases R4.rc.new D0 o q with ⟨o', z⟩ | z
          · have z' : F2 D0 = some o' := z
            rw [hF20] at z'; cases z'
          · have z' : H' D0 = none := z
            rw [hH'] at z'; cases z'
      have a4 : D0 ∉ A4 := fun hm => by
        obtain ⟨B, eB, hB⟩ := R4.rc.pre
        rw [eB] at hm
        rcases List.mem_append.mp hm with z | z
        · exact hA z
        · have z' : H' D0 = none := hB _ z
          rw [hH'] at z'; cases z'
      have s4 : Same F1 F4 := (e.trans e2).trans e4
      have p4' : A1 <+: A4 := p.trans p4
      cases r with
      | some yv =>
        cases v with
        | some v =>
          refine ⟨vs, k4, by omega, F4, A4, μu, vs ++ [v], acc ++ [yv], rest', s4, p4', b4.poke f4 a4 h0.1 _, upd_same, f4, a4, ((hr.mono (e2.trans e4))).snoc rv, by simp; omega, hL', ?_⟩
          rw [List.append_assoc]
          exact hys
        | none => exact rv.elim
      | none =>
        cases v with
        | some v => exact rv.elim
        | none => exact ⟨F4, A4, μu, vs, acc, rest', s4, p4', b4, k4, f4, a4, hr.mono (e2.trans e4), by omega, hL', hys⟩
    have Rw := R2.wiped (own.map (·.2))
    cases hL with
    | keep hf hb hL' => exact ⟨F2, A, _, μ, d, _, Rw, rx, hf, fun σ2 w2 R3 => ⟨(wipe_sub hix w2).trans (by
        apply List.ext_getElem?
        intro j
        rw [wipe_get, wipe_get]
        by_cases hj : j ∈ own.map (·.2)
        · rw [if_pos hj, if_pos hj]; cases σ[j]? <;> rfl
        · rw [if_neg hj, if_neg hj]), key σ2 _ (some _) _ _ R3 hb hL' hy⟩⟩
    | drop hf hb hL' => exact ⟨F2, A, _, μ, d, _, Rw, rx, hf, fun σ2 w2 R3 => ⟨(wipe_sub hix w2).trans (by
        apply List.ext_getElem?
        intro j
        rw [wipe_get, wipe_get]
        by_cases hj : j ∈ own.map (·.2)
        · rw [if_pos hj, if_pos hj]; cases σ[j]? <;> rfl
        · rw [if_neg hj, if_neg hj]), key σ2 _ none _ _ R3 hb hL' hy⟩⟩
  · have hi' : i = ds.length := by omega
    subst hi'
    refine .inl ⟨y.stops H (e.trans R.sub), ?_⟩
    rw [List.drop_length] at hL
    cases hL
    rw [List.append_nil] at hy
    subst hy
    exact hq F A H vs e p R hv hF hA hr
end
end Dl
set_option Elab.async false
set_option linter.all false
set_option maxRecDepth 100000
set_option maxHeartbeats 4000000
set_option autoImplicit false
namespace Dl
open PySem PySem.Spec PyProof.Rows L2
section
variable {X : Cx} {N : En} {W : WX} {n : Nat} {δ δ' δ1 δ2 : List (Option S)} {μ μ' μ1 μ2 μ3 : List M} {elt tg iter c : Expr} {ifs : List Expr} {pos : Pos} {ds ys : List D} {scope : Scope} {own : List (Str × Nat)} {f : As} {ix : List Nat}
/-- in every block -/
abbrev DEB (X : Cx) (K : PySem.W.Frag) (n : Nat) (scope : Scope) (elt : Expr) (δ : List (Option S)) (μ : List M) (y : D) (μ1 : List M) : Prop :=
  ∀ s H C cl fp N', N'.K = K → Go (blkX X scope s H C cl fp) N' W0 n → DE (blkX X scope s H C cl fp) N' W0 δ μ elt (.v (.p y)) μ1
abbrev DTB (X : Cx) (K : PySem.W.Frag) (n : Nat) (scope : Scope) (c : Expr) (δ : List (Option S)) (μ : List M) (b : Bool) (μ1 : List M) : Prop :=
  ∀ s H C cl fp N', N'.K = K → Go (blkX X scope s H C cl fp) N' W0 n → DT (blkX X scope s H C cl fp) N' W0 δ μ c b μ1
def teB (X : Cx) (K : PySem.W.Frag) (n : Nat) (scope : Scope) (elt : Expr) : TE := fun σ H Q => ∃ (N' : En) (F : Hp) (A : List Addr) (δt : List (Option S)) (μt : List M) (y : D) (μu : List M), N'.K = K ∧ Rl N' F A H σ δt μt ∧ DEB X K n scope elt δt μt y μu ∧
  ∀ v F' A' H', Same F F' → A <+: A' → Rl N' F' A' H' σ δt μu → Rep K F' v y → Q v H'
def ttB (X : Cx) (K : PySem.W.Frag) (n : Nat) (scope : Scope) (c : Expr) : TT := fun σ H Q => ∃ (N' : En) (F : Hp) (A : List Addr) (δt : List (Option S)) (μt : List M) (b : Bool) (μu : List M), N'.K = K ∧ Rl N' F A H σ δt μt ∧ DTB X K n scope c δt μt b μu ∧
  ∀ F' A' H', Same F F' → A <+: A' → Rl N' F' A' H' σ δt μu → Q b H'
theorem pe_teB (g : Go X N W n) {s : Shared} {H : Hp} {C : Addr} {cl : List (Str × Addr)} {fp : List Addr} : PE (blkX X scope s H C cl fp) elt (teB X N.K n scope elt) :=
  ⟨fun pins s σ H Q I ⟨N', F, A, δt, μt, y, μu, hK, R, hd, k⟩ => (hd _ _ _ _ _ N' hK (g.blk hK)).run pins s σ H Q I ⟨F, A, R, fun v F' A' H' a b c d => k v F' A' H' a b c (by rw [← hK]; exact d)⟩⟩
theorem pt_ttB (g : Go X N W n) {s : Shared} {H : Hp} {C : Addr} {cl : List (Str × Addr)} {fp : List Addr} : PT (blkX X scope s H C cl fp) c (ttB X N.K n scope c) :=
  ⟨fun pins s σ H Q I ⟨N', F, A, δt, μt, y, μu, hK, R, hd, k⟩ => (hd _ _ _ _ _ N' hK (g.blk hK)).run pins s σ H Q I ⟨F, A, R, k⟩⟩
/-- an element without a test -/
def El0 (X : Cx) (K : PySem.W.Frag) (n : Nat) (scope : Scope) (elt : Expr) : List (Option S) → List M → Option D → List M → Prop := fun δt μt r μu => ∃ y, r = some y ∧ DEB X K n scope elt δt μt y μu
/-- an element with one -/
def El1 (X : Cx) (K : PySem.W.Frag) (n : Nat) (scope : Scope) (c elt : Expr) : List (Option S) → List M → Option D → List M → Prop := fun δt μt r μu => ∃ μ', DTB X K n scope c δt μt r.isSome μ' ∧
  match r with
  | some y => DEB X K n scope elt δt μ' y μu
  | none => μu = μ'
theorem lc_read (g : Go X N W n) (P : List (Option S) → List M → Option D → List M → Prop) {tt : TT} {te : TE} (hds : ds.length < sizeLine) (hix : ∀ i ∈ ix, i ∈ own.map (·.2)) (hl : CmpL P f (wipeD δ (own.map (·.2))) ds μ1 ys μ2)
    (hP : ∀ (N' : En) F A σ2 H2 δt μt r μu (Q : Option V → Hp → Prop), N'.K = N.K → Rl N' F A H2 σ2 δt μt → P δt μt r μu →
      (∀ v F' A' H', Same F F' → A <+: A' → Rl N' F' A' H' σ2 δt μu → (match r, v with | some y, some v => Rep N.K F' v y | none, none => True | _, _ => False) → Q v H') →
      tt σ2 H2 fun b H3 => if b = true then te σ2 H3 fun v H4 => Q (some v) H4 else Q none H3)
    {σ : L2.St} {H : Hp} {Q : VK} {F : Hp} {A : List Addr} (R : Rl N F A H σ δ μ)
    (hq : ∀ D0 F' A' H' vs, Same F F' → A <+: A' → Rc N F' A' H' μ2 → H' D0 = some (.lst vs) → F' D0 = none → D0 ∉ A' → N.H0 D0 = none → Reps N.K F' vs ys → Q (.ref D0) H') :
    tLc (tI N W δ μ ds μ1) (tGd N f ix) tt te (own.map (·.2)) σ H Q :=
  ⟨F, A, R, fun J F1 A1 H1 e1 p1 R1 y D0 hD => lc_go hds R1 y hD hix P hl hP fun F' A' H' vs e p r a b c d => hq D0 F' A' H' vs (e1.trans e) (p1.trans p) r a b c (R1.rc.fresh hD).1 d⟩
theorem hP0 (g : Go X N W n) : ∀ (N' : En) F A σ2 H2 δt μt r μu (Q : Option V → Hp → Prop), N'.K = N.K → Rl N' F A H2 σ2 δt μt → El0 X N.K n scope elt δt μt r μu →
      (∀ v F' A' H', Same F F' → A <+: A' → Rl N' F' A' H' σ2 δt μu → (match r, v with | some y, some v => Rep N.K F' v y | none, none => True | _, _ => False) → Q v H') →
      tYes σ2 H2 fun b H3 => if b = true then teB X N.K n scope elt σ2 H3 fun v H4 => Q (some v) H4 else Q none H3 := by
  intro N' F A σ2 H2 δt μt r μu Q hK R ⟨y, e, hd⟩ k
  subst e
  show if true = true then teB X N.K n scope elt σ2 H2 (fun v H4 => Q (some v) H4) else Q none H2
  exact iteT ⟨N', F, A, δt, μt, y, μu, hK, R, hd, fun v F' A' H' a b c d => k (some v) F' A' H' a b c d⟩
theorem hP1 (g : Go X N W n) : ∀ (N' : En) F A σ2 H2 δt μt r μu (Q : Option V → Hp → Prop), N'.K = N.K → Rl N' F A H2 σ2 δt μt → El1 X N.K n scope c elt δt μt r μu →
      (∀ v F' A' H', Same F F' → A <+: A' → Rl N' F' A' H' σ2 δt μu → (match r, v with | some y, some v => Rep N.K F' v y | none, none => True | _, _ => False) → Q v H') →
      ttB X N.K n scope c σ2 H2 fun b H3 => if b = true then teB X N.K n scope elt σ2 H3 fun v H4 => Q (some v) H4 else Q none H3 := by
  intro N' F A σ2 H2 δt μt r μu Q hK R ⟨μ', ht, hd⟩ k
  refine ⟨N', F, A, δt, μt, r.isSome, μ', hK, R, ht, fun F1 A1 H1 e1 p1 R1 => ?_⟩
  cases r with
  | some y => exact iteT ⟨N', F1, A1, δt, μ', y, μu, hK, R1, hd, fun v F' A' H' a b c d => k (some v) F' A' H' (e1.trans a) (p1.trans b) c d⟩
  | none =>
    have e : μu = μ' := hd
    subst e
    exact iteF (k none F1 A1 H1 e1 p1 R1 trivial)
/-- the new list is frozen -/
theorem lc_frz {σ : L2.St} {F : Hp} {A : List Addr} {H : Hp} {Q : VK} (R : Rl N F A H σ δ μ) (k : EndE N W σ δ F A μ2 Q (.v (.p (.lst ys)))) :
    ∀ D0 F' A' H' vs, Same F F' → A <+: A' → Rc N F' A' H' μ2 → H' D0 = some (.lst vs) → F' D0 = none → D0 ∉ A' → N.H0 D0 = none → Reps N.K F' vs ys → Q (.ref D0) H' := by
  intro D0 F' A' H' vs e p r a b c h0 d
  have sm := same_updN (o := .lst vs) b
  exact k (.ref D0) _ A' H' (e.trans sm) p (R.to (e.trans sm) p (r.adopt b c h0 a)) (.lst upd_same (d.mono sm))
theorem de_lc (g : Go X N W n) (own : List (Str × Nat)) (hi : DI X N W δ μ tg iter ds μ1) (hg : ∀ s H C cl fp, DG (blkX X scope s H C cl fp) N tg f ix) (hl : CmpL (El0 X N.K n scope elt) f (wipeD δ (own.map (·.2))) ds μ1 ys μ2)
    (ok : BlkOk X.N X.env.scope scope own := by exact blkOk_by (by decide +kernel)) (hds : ds.length < sizeLine := by first | (show _ < sizeLine; decide) | (simp; decide)) (hix : ∀ i ∈ ix, i ∈ own.map (·.2) := by decide) (hs : ∀ x, foldedSetIterable iter X.env x = pure x := by intro _; rfl) :
    DE X N W δ μ (.ListComp elt [⟨tg, iter, [], 0⟩] scope pos) (.v (.p (.lst ys))) μ2 :=
  PE.imp (pe_lc (own := own) g.calm g.nd hi ok hg (fun _ _ _ _ _ => pts_nil) (fun s H C cl fp => pe_teB g) hs) fun σ H Q ⟨F, A, R, k⟩ => lc_read g _ hds hix hl (hP0 g) R (lc_frz (W := W) R k)
theorem de_lcIf (g : Go X N W n) (own : List (Str × Nat)) (hi : DI X N W δ μ tg iter ds μ1) (hg : ∀ s H C cl fp, DG (blkX X scope s H C cl fp) N tg f ix) (hl : CmpL (El1 X N.K n scope c elt) f (wipeD δ (own.map (·.2))) ds μ1 ys μ2)
    (ok : BlkOk X.N X.env.scope scope own := by exact blkOk_by (by decide +kernel)) (hds : ds.length < sizeLine := by first | (show _ < sizeLine; decide) | (simp; decide)) (hix : ∀ i ∈ ix, i ∈ own.map (·.2) := by decide) (hs : ∀ x, foldedSetIterable iter X.env x = pure x := by intro _; rfl) :
    DE X N W δ μ (.ListComp elt [⟨tg, iter, [c], 0⟩] scope pos) (.v (.p (.lst ys))) μ2 :=
  PE.imp (pe_lc (own := own) g.calm g.nd hi ok hg (fun _ _ _ _ _ => pts_one (pt_ttB g)) (fun s H C cl fp => pe_teB g) hs) fun σ H Q ⟨F, A, R, k⟩ => lc_read g _ hds hix hl (hP1 g) R (lc_frz (W := W) R k)
/-- name = [..] -/
theorem ds_setLc (i : Nat) {x : Str} {py spos : Pos} (g : Go X N W n) (own : List (Str × Nat)) (hi : DI X N W δ μ tg iter ds μ1) (hg : ∀ s H C cl fp, DG (blkX X scope s H C cl fp) N tg f ix) (hl : CmpL (El0 X N.K n scope elt) f (wipeD δ (own.map (·.2))) ds μ1 ys μ2)
    (hsw : swapsWith (.ListComp elt [⟨tg, iter, [], 0⟩] scope pos) (some (.Name x py)) spos.line X.env = pure true := by exact sw_true rfl rfl rfl (by decide +kernel)) (hy : X.N[i]? = some x := by rfl) (hyl : X.env.scope.names.lookup x = some .local := by rfl)
    (ok : BlkOk X.N X.env.scope scope own := by exact blkOk_by (by decide +kernel)) (hds : ds.length < sizeLine := by first | (show _ < sizeLine; decide) | (simp; decide)) (hix : ∀ i ∈ ix, i ∈ own.map (·.2) := by decide) (hs : ∀ x, foldedSetIterable iter X.env x = pure x := by intro _; rfl) :
    DS X N W δ μ (.Assign [.Name x py] (.ListComp elt [⟨tg, iter, [], 0⟩] scope pos) spos) (.nx (δ.set i (some (.p (.lst ys)))) μ2) :=
  PS.imp (ps_setLc (own := own) g.calm g.nd hy hyl hsw hi ok hg (fun _ _ _ _ _ => pts_nil) (fun s H C cl fp => pe_teB g) hs) fun K σ H ⟨F, A, R, k⟩ =>
    lc_read g _ hds hix hl (hP0 g) R (lc_frz (W := W) R (show EndE N W σ δ F A μ2 _ (.v (.p (.lst ys))) from fun v F' A' H' e p R' rv => k _ F' A' H' e p (R'.set rv)))
end
end Dl
set_option Elab.async false
set_option linter.all false
set_option maxRecDepth 100000
set_option maxHeartbeats 4000000
set_option autoImplicit false
namespace Dl
open PySem PySem.Spec PyProof.Rows L2
/-! ### what type a datum has -/
/-- the type of a value -/
inductive TyD (K : PySem.W.Frag) : D → Value → Prop
  | non : TyD K .non (.type "NoneType")
  | bl (b) : TyD K (.bl b) (.type "bool")
  | int (i) : TyD K (.int i) (.type "int")
  | str (z) : TyD K (.str z) (.type "str")
  | tup (ds) : TyD K (.tup ds) (.type "tuple")
  | lst (ds) : TyD K (.lst ds) (.type "list")
  | dic (ks ds) : TyD K (.dic ks ds) (.type "dict")
  | ins (C ns ds) : TyD K (.ins C ns ds) (.ref C)
section
variable {X : Cx} {N : En} {W : WX} {n : Nat} {δ δ' δ1 δ2 : List (Option S)} {μ μ' μ1 μ2 μ3 : List M} {e a b c o : Expr} {es : List Expr} {ss : List S} {pos p apos : Pos} {d : D} {s s1 s2 : S} {r : Rx} {R : Rel} {k : Nat} {x m f : Str} {dd : List D} {C : Addr}
/-- two expressions, then what is done with both -/
theorem two_then {σ : L2.St} {H : Hp} {pins : List (Addr × Obj)} {sh : Shared} {F : Hp} {A : List Addr} {α : Type} {Q : α → Shared → Prop} {fn : Value → Value → Sem α} (ha : DE X N W δ μ a (.v s1) μ1) (hb : DE X N W δ μ1 b (.v s2) μ2) (I : Inv X pins σ H sh) (R0 : Rl N F A H σ δ μ)
    (h : ∀ v u s3 x y H2 F2 A2, Inv X pins σ H2 s3 → RelV x v → RelV y u → Same F F2 → A <+: A2 → Rl N F2 A2 H2 σ δ μ2 → RepS N.K F2 A2 x s1 → RepS N.K F2 A2 y s2 → wpAny (model X.prog X.w) X.A (fn v u) Q X.xe s3) :
    wpAny (model X.prog X.w) X.A (eval a X.env) (fun v s₁ => wpAny (model X.prog X.w) X.A (eval b X.env) (fun u s₂ => wpAny (model X.prog X.w) X.A (fn v u) Q X.xe s₂) X.xe s₁) X.xe sh :=
  bin ha hb (R := fun x y H2 => ∃ F2 A2, Same F F2 ∧ A <+: A2 ∧ Rl N F2 A2 H2 σ δ μ2 ∧ RepS N.K F2 A2 x s1 ∧ RepS N.K F2 A2 y s2) I
    ⟨F, A, R0, fun x F1 A1 H1 e1 p1 R1 rx => ⟨F1, A1, R1, fun y F2 A2 H2 e2 p2 R2 ry => ⟨F2, A2, e1.trans e2, p1.trans p2, R2, rx.mono e2 p2, ry⟩⟩⟩
    fun v u s3 x y H2 I2 rx ry ⟨F2, A2, e2, p2, R2, h1, h2⟩ => h v u s3 x y H2 F2 A2 I2 rx ry e2 p2 R2 h1 h2
theorem inst_at {pins : List (Addr × Obj)} {σ : L2.St} {H : Hp} {sh : Shared} {a C dx : Addr} {fs : List (Str × V)} (I : Inv X pins σ H sh) (e : H a = some (.ins C dx fs)) : ∃ od, PySem.W.InstAt sh.heap a (PySem.W.instObj C dx) C (some od) := by
  obtain ⟨mA, O, _⟩ := ins_get I.hok e
  obtain ⟨od, h, _⟩ := O.look
  exact ⟨od, h⟩
theorem back_of {pins : List (Addr × Obj)} {σ : L2.St} {Q : VK} {u : Value} {sh : Shared} (h : EP X pins σ Q u sh) : PySem.W.CmpBack (EP X pins σ Q) u sh := by
  obtain ⟨v, H', I, r, q⟩ := h
  cases v with
  | non => cases r; exact ⟨.non, H', I, rfl, q⟩
  | bl b => cases r; exact ⟨.bl b, H', I, rfl, q⟩
  | int i => obtain ⟨t, rfl⟩ := r; exact ⟨.int i, H', I, ⟨t, rfl⟩, q⟩
  | str i => obtain ⟨t, rfl⟩ := r; exact ⟨.str i, H', I, ⟨t, rfl⟩, q⟩
  | byt i => obtain ⟨t, rfl⟩ := r; exact ⟨.byt i, H', I, ⟨t, rfl⟩, q⟩
  | flt i => obtain ⟨t, rfl⟩ := r; exact ⟨.flt i, H', I, ⟨t, rfl⟩, q⟩
  | ref i => cases r; exact ⟨.ref i, H', I, rfl, q⟩
  | ty i => cases r; exact ⟨.ty i, H', I, rfl, q⟩
/-- a op b, both of the class at C, by its own method -/
theorem de_binOwn {op : Operator} {ns ms : List Str} {d1 d2 : List D} (g : Go X N W n) (cm : Cm X.prog X.w X.K X.mg X.base k C (PySem.dunder op.info.2) [] R) (sf : PySem.W.selfFirst X.K C = true)
    (ha : DE X N W δ μ a (.v (.p (.ins C ns d1))) μ1) (hb : DE X N W δ μ1 b (.v (.p (.ins C ms d2))) μ2) (hR : R [.p (.ins C ns d1), .p (.ins C ms d2)] μ2 r μ3) (hk : k ≤ n := by decide) : DE X N W δ μ (.BinOp a op b pos) r μ3 := by
  obtain ⟨f, fd, ps, ds, dvs, Fo, hme, hbi, hd, rd⟩ := cm.ex
  refine ⟨fun pins s σ H Q I ⟨F, A, R0, q⟩ => wpAny_BinOp (two_then ha hb I R0 fun v u s3 x y H2 F2 A2 I2 rx ry e2 p2 R2 h1 h2 => ?_)⟩
  obtain ⟨a1, dx1, fs1, rfl, g1, g2, g3⟩ := rep_ins h1
  obtain ⟨a2, dx2, fs2, rfl, g4, g5, g6⟩ := rep_ins h2
  cases rx
  cases ry
  obtain ⟨od1, J1⟩ := inst_at I2 (R2.rc.sub _ _ g1)
  obtain ⟨od2, J2⟩ := inst_at I2 (R2.rc.sub _ _ g4)
  obtain ⟨m', Fr'⟩ := I2.fr
  refine PySem.W.binop_K Fr' I2.mod.kin J1 J2.type sf hme.at_ hme.fn ?_
  exact wpAny_mono (call_fnD (us := [.ref a1, .ref a2]) (vs := [.ref a1, .ref a2]) (ss := [.p (.ins C ns d1), .p (.ins C ms d2)]) g hk Fo hbi hd rd I2 R2 (.cons h1 (.cons h2 .nil)) (.cons rfl (.cons rfl .nil)) hR (q.to e2 p2)) (fun _ _ h => back_of h) fun _ _ h => h
/-- -a, by its own method -/
theorem de_negOwn {ns : List Str} {d1 : List D} (g : Go X N W n) (cm : Cm X.prog X.w X.K X.mg X.base k C "__neg__" [] R) (ha : DE X N W δ μ a (.v (.p (.ins C ns d1))) μ1) (hR : R [.p (.ins C ns d1)] μ1 r μ2) (hk : k ≤ n := by decide) : DE X N W δ μ (.UnaryOp .USub a pos) r μ2 := by
  obtain ⟨f, fd, ps, ds, dvs, Fo, hme, hbi, hd, rd⟩ := cm.ex
  refine ⟨fun pins s σ H Q I ⟨F, A, R0, q⟩ => UnaryOp_ (thn (ha.run pins s σ H (fun v H' => ∃ F' A', Same F F' ∧ A <+: A' ∧ Rl N F' A' H' σ δ μ1 ∧ RepS N.K F' A' v (.p (.ins C ns d1))) I ⟨F, A, R0, fun v F' A' H' h1 h2 h3 h4 => ⟨F', A', h1, h2, h3, h4⟩⟩) fun u s2 ⟨x, H2, I2, rx, F2, A2, e2, p2, R2, h1⟩ => ?_)⟩
  obtain ⟨a1, dx1, fs1, rfl, g1, g2, g3⟩ := rep_ins h1
  cases rx
  obtain ⟨od1, J1⟩ := inst_at I2 (R2.rc.sub _ _ g1)
  obtain ⟨m', Fr'⟩ := I2.fr
  refine PySem.W.ksp_neg Fr' I2.mod.kin J1 hme.at_ hme.fn ?_
  exact call_fnD (us := [.ref a1]) (vs := [.ref a1]) (ss := [.p (.ins C ns d1)]) g hk Fo hbi hd rd I2 R2 (.cons h1 .nil) (.cons rfl .nil) hR (q.to e2 p2)
theorem sqT_cls {pins : List (Addr × Obj)} {σ : L2.St} {H : Hp} {sh : Shared} {a : Addr} {vs : List V} (I : Inv X pins σ H sh) (h : SqT X.K H a vs) : ∃ ob, sh.heap.get? a = some ob ∧ ob.cls = .type "tuple" := by
  obtain ⟨its, _, ⟨o, h1, h2, _⟩, _⟩ := I.tuple h
  exact ⟨o, h1, h2⟩
theorem type_of {pins : List (Addr × Obj)} {σ : L2.St} {H F : Hp} {sh : Shared} {v : V} {u t : Value} (I : Inv X pins σ H sh) (sm : Same F H) (ty : TyD X.K d t) (rp : Rep X.K F v d) (ru : RelV v u) {M : Model} : PySem.W.Looks M sh.heap (typeOf u) t := by
  cases ty with
  | non => cases rp; cases ru; exact .of_pure rfl
  | bl b => cases rp; cases ru; exact .of_pure rfl
  | int i => cases rp; obtain ⟨t, rfl⟩ := ru; exact .of_pure rfl
  | str i => cases rp; obtain ⟨t, rfl⟩ := ru; exact .of_pure rfl
  | tup ds =>
    obtain ⟨a, vs, rfl, h1, _⟩ := rep_tup rp
    cases ru
    obtain ⟨ob, h2, h3⟩ := sqT_cls I (same_sqT sm h1)
    exact fun A Q E s k q => wpAny_typeOf_ref (k _ _ h2) (by rw [h3]; exact q)
  | lst ds =>
    obtain ⟨a, vs, rfl, h1, _⟩ := rep_lst rp
    cases ru
    obtain ⟨z, its, n, _, e⟩ := (show ObjOk X.prog X.w H sh.heap a (.lst vs) from I.hok a _ (sm _ _ h1))
    exact fun A Q E s k q => wpAny_typeOf_ref (k _ _ e) q
  | dic ks ds =>
    generalize hd : D.dic ks ds = d' at rp
    cases rp with
    | @dic a kvs ds' h1 h2 =>
      cases ru
      obtain ⟨_, _, vs, _, o, es, ep, e, q, _⟩ := (show ObjOk X.prog X.w H sh.heap a (.dK kvs) from I.hok a _ (sm _ _ h1))
      exact fun A Q E s k hq => wpAny_typeOf_ref (k _ _ e) (by rw [q.1]; exact hq)
    | _ => cases hd
  | ins C ns ds =>
    obtain ⟨a, dx, fs, rfl, h1, _⟩ := rep_ins rp
    cases ru
    obtain ⟨od, J⟩ := inst_at I (sm _ _ h1)
    exact J.type
/-! ### == and != by an own __eq__ -/
theorem de_eqOwn {ns : List Str} {d1 : List D} {d2 : D} {t : Value} {q : Bool} (g : Go X N W n) (cm : Cm X.prog X.w X.K X.mg X.base k C "__eq__" [] R) (ty : TyD X.K d2 t) (nf : PySem.W.notFirst X.K C t = true)
    (ha : DE X N W δ μ a (.v (.p (.ins C ns d1))) μ1) (hb : DE X N W δ μ1 b (.v (.p d2)) μ2) (hR : R [.p (.ins C ns d1), .p d2] μ2 (.v (.p (.bl q))) μ3) (hk : k ≤ n := by decide) : DE X N W δ μ (.Compare a [.Eq] [b] pos) (.v (.p (.bl q))) μ3 := by
  obtain ⟨f, fd, ps, ds, dvs, Fo, hme, hbi, hd, rd⟩ := cm.ex
  refine ⟨fun pins s σ H Q I ⟨F, A, R0, q⟩ => wpAny_Compare1 (two_then ha hb I R0 fun v u s3 x y H2 F2 A2 I2 rx ry e2 p2 R2 h1 h2 => ?_) (nomark _)⟩
  obtain ⟨a1, dx1, fs1, rfl, g1, g2, g3⟩ := rep_ins h1
  cases rx
  obtain ⟨od1, J1⟩ := inst_at I2 (R2.rc.sub _ _ g1)
  obtain ⟨m', Fr'⟩ := I2.fr
  refine PySem.W.cmp_ofEq (PySem.W.cmp_K (g.room.units0) Fr' I2.mod.kin J1 (type_of I2 R2.rc.sub ty (by rw [← g.hK]; exact h2) ry) nf hme.at_ hme.fn ?_)
  exact wpAny_mono (call_fnD (us := [.ref a1, u]) (vs := [.ref a1, y]) (ss := [.p (.ins C ns d1), .p d2]) g hk Fo hbi hd rd I2 R2 (.cons h1 (.cons h2 .nil)) (.cons rfl (.cons ry .nil)) hR (q.to e2 p2)) (fun _ _ h => back_of h) fun _ _ h => h
open Builtin in
theorem obj_ne {A : Around} {E : Value → Shared → Prop} {sh : Shared} {K : PySem.W.Frag} {prog : Program} {w : World} {x C f : Addr} {ox : Obj} {od : Option Obj} {u : Value} {Q : Value → Shared → Prop} (hu : A.in1.units < cLine) (X : K.In sh.heap) (I : PySem.W.InstAt sh.heap x ox C od) (hm : PySem.W.mroIn K C (.type "object") = some true) (he : PySem.W.findIn K (.ref C) "__eq__" = some (some (.ref f))) (hf : PySem.W.isFn K (.ref f) = true)
    (h : wpAny (model prog w) A.in1 (call (.ref f) [.ref x, u]) (fun v s' => ∃ b, v = .bool b ∧ Q (.bool (!b)) s') E sh) : wpAny (model prog w) A (call (.builtin "object.__ne__") [.ref x, u]) Q E sh := by
  refine wpAny_call (codeAny_call_builtin PySem.F.cmp_object.ne.plain F.cmpEntry_ne (PySem.W.check_slot (i := "object.__ne__") (owner := "object") (n := "__ne__") (by decide +kernel) (by decide +kernel) (I.type.andThen (PySem.W.looks_mroIn X hm)) (F.cmpArgs_ne _ _) ?_))
  unfold Builtin.«object.__ne__»
  refine wpAny_bind (m := slotArgs "__ne__" 1 _) (wpAny_pure ?_)
  refine wpAny_bind (m := cRoomFor _ _) (wpAny_cRoomFor hu ?_)
  refine wpAny_bind (m := callSpecialIfBound? (.ref x) (Str.ofString "__eq__") _) (PySem.W.ifBound_K X I he hf (wpAny_mono h (fun r s' hq => ?_) fun _ _ y => y))
  obtain ⟨b, rfl, hq⟩ := hq
  exact wpAny_bind (m := truthy (.bool b)) (wpAny_truthy_bool (wpAny_pure hq))
theorem ifBound_b {A : Around} {E : Value → Shared → Prop} {sh : Shared} {K : PySem.W.Frag} {M : Model} {x C : Addr} {ox : Obj} {od : Option Obj} {id : String} {name : Str} {args : List Value} {Q : Option Value → Shared → Prop} (X : K.In sh.heap) (I : PySem.W.InstAt sh.heap x ox C od) (hs : PySem.W.findIn K (.ref C) name = some (some (.builtin id)))
    (hb : ∀ self, bindSpecial (.builtin id) self = pure (.builtin id, [self])) (h : wpAny M A (call (.builtin id) (.ref x :: args)) (fun v => Q (some v)) E sh) : wpAny M A (callSpecialIfBound? (.ref x) name args) Q E sh := by
  simp only [callSpecialIfBound?, bindSpecialIfBound?]
  refine wpAny_holding (wpAny_bind (wpAny_bind (wpAny_bind (I.type.here ((PySem.W.looks_findIn X hs).here ?_)))))
  refine wpAny_bind (wpAny_askSetting (wpAny_ite ?_))
  have fin : wpAny M A (call (.builtin id) ([.ref x] ++ args) >>= fun v => pure (some v)) Q E sh := wpAny_bind (wpAny_mono h (fun v s' h' => wpAny_pure h') fun _ _ h' => h')
  split
  · exact wpAny_bind ((PySem.W.Looks.of_pure (hb _)).here (wpAny_pure (by exact fin)))
  · exact wpAny_tryCatch (wpAny_bind ((PySem.W.Looks.of_pure (hb _)).here (wpAny_pure (by exact fin))))
theorem rich_ne {A : Around} {E : Value → Shared → Prop} {sh : Shared} {K : PySem.W.Frag} {prog : Program} {w : World} {x C f : Addr} {ox : Obj} {od : Option Obj} {u tb : Value} {Q : Value → Shared → Prop} (hu0 : A.units < cLine) (hu : A.in1.in1.units < cLine) (X : K.In sh.heap) (I : PySem.W.InstAt sh.heap x ox C od) (hb : PySem.W.Looks (model prog w) sh.heap (typeOf u) tb) (hn : PySem.W.notFirst K C tb = true)
    (hne : PySem.W.findIn K (.ref C) "__ne__" = some (some (.builtin "object.__ne__"))) (hm : PySem.W.mroIn K C (.type "object") = some true) (he : PySem.W.findIn K (.ref C) "__eq__" = some (some (.ref f))) (hf : PySem.W.isFn K (.ref f) = true)
    (h : wpAny (model prog w) A.in1 (call (.ref f) [.ref x, u]) (fun v s' => ∃ b, v = .bool b ∧ Q (.bool (!b)) s') E sh) : wpAny (model prog w) A (compareOp .NotEq (.ref x) u) Q E sh := by
  refine PySem.W.cmp_ofNotEq ?_
  have one : wpAny (model prog w) A (tryCompare (.ref x) "__ne__" u) (fun r s' => ∃ v, r = some v ∧ Q v s') E sh := by
    unfold tryCompare
    refine wpAny_bind (ifBound_b X I hne PySem.F.cmp_object.ne.bind (obj_ne (by exact Nat.lt_of_succ_lt hu) X I hm he hf (wpAny_mono h (fun v s' hv => ?_) fun _ _ e => e)))
    obtain ⟨b, rfl, hq⟩ := hv
    exact ⟨b, rfl, wpAny_pure ⟨_, rfl, hq⟩⟩
  unfold richCompare
  simp only [oneThing_ref]
  refine wpAny_holding (wpAny_bind (wpAny_cRoomFor hu0 ?_))
  refine wpAny_bind (I.type.here (wpAny_bind (hb.here ?_)))
  split
  · rename_i q
    have e : PySem.W.subIn K tb (.ref C) = some false := by
      rcases Bool.or_eq_true_iff.mp hn with e | e
      · rw [beq_iff_eq.mp e] at q; simp at q
      · exact beq_iff_eq.mp e
    refine wpAny_bind ((PySem.W.looks_subIn X e).here ?_)
    simp only [Bool.false_eq_true, if_false]
    refine wpAny_bind (wpAny_mono one (fun r s' z => ?_) fun _ _ e => e)
    obtain ⟨v, rfl, hq⟩ := z
    exact wpAny_pure hq
  · refine wpAny_bind (wpAny_pure ?_)
    simp only [Bool.false_eq_true, if_false]
    refine wpAny_bind (wpAny_mono one (fun r s' z => ?_) fun _ _ e => e)
    obtain ⟨v, rfl, hq⟩ := z
    exact wpAny_pure hq
/-- a def called where one level of the machine's own stands between -/
theorem call_in1 {pins : List (Addr × Obj)} {σ : L2.St} {H : Hp} {sh : Shared} {F : Hp} {A : List Addr} {Q : VK} {us : List Value} {vs dvs : List V} {ds : List Value} {f : Addr} {fd : FuncData} {ps : List Str} (g : Go X N W n) (hk : k + 1 ≤ n)
    (Fo : FnOk X.prog X.w X.K X.mg X.base (L2.CX X.prog X.w) k f fd ps (spD X.K R)) (hb : Binds X.K fd ps ds) (hd : Vals dvs ds) (rd : ∀ F, Reps X.K F dvs dd) (I : Inv X pins σ H sh) (R0 : Rl N F A H σ δ μ) (rv : RepSs N.K F A vs ss) (ru : Vals vs us)
    (hR : R (ss ++ dd.map S.p) μ r μ') (q : EndE N W σ δ F A μ' Q r) : wpAny (model X.prog X.w) X.A.in1 (call (.ref f) us) (EP X pins σ Q) X.xe sh := by
  have hK := g.hK
  have h : spD X.K R (vs ++ dvs) H Q (WE W σ) := by
    rw [← hK] at rd ⊢
    exact spD_in hR R0 (rv.append (of_reps (rd F))) q.wish
  have r2 : Vals (vs ++ dvs) (us ++ ds) := ru.append hd
  have hl : (us ++ ds).length = ps.length := by rw [← r2.length]; exact Fo.len _ _ _ _ h
  refine wpAny_call (codeAny_mono (Fo.run X.A.in1 X.stack sh H ⟨us, []⟩ (us ++ ds) (vs ++ dvs) Q (WE W σ) (g.room.mono hk).in1 I.env0.in1 (hb sh us I.kIn hl) r2 h) fun r s' hq => ?_)
  cases r with
  | error e => exact passAt g.tk σ pins H sh e s' I hq
  | ok fl =>
    cases fl with
    | ret u => exact I.after hq
    | next => exact False.elim hq
    | brk => exact False.elim hq
    | cont => exact False.elim hq
structure NeOk (K : PySem.W.Frag) (C : Addr) : Prop where
  ne : PySem.W.findIn K (.ref C) "__ne__" = some (some (.builtin "object.__ne__"))
  mro : PySem.W.mroIn K C (.type "object") = some true
end
end Dl
set_option Elab.async false
set_option linter.all false
set_option maxRecDepth 100000
set_option maxHeartbeats 4000000
set_option autoImplicit false
namespace Dl
open PySem PySem.Spec PyProof.Rows L2
section
variable {K : PySem.W.Frag} {F : Hp} {A : List Addr} {v : V}
theorem rs_int {i : Int} (h : RepS K F A v (.p (.int i))) : v = .int i := by cases (show Rep K F v (.int i) from h); rfl
theorem rs_str {i : Str} (h : RepS K F A v (.p (.str i))) : v = .str i := by cases (show Rep K F v (.str i) from h); rfl
theorem rs_bl {i : Bool} (h : RepS K F A v (.p (.bl i))) : v = .bl i := by cases (show Rep K F v (.bl i) from h); rfl
theorem rs_non (h : RepS K F A v (.p .non)) : v = .non := by cases (show Rep K F v .non from h); rfl
theorem rs_adr {n : Addr} (h : RepS K F A v (.p (.adr n))) : v = .ref n := by cases (show Rep K F v (.adr n) from h); rfl
theorem reps_ints : ∀ {vs : List V} {ns : List Int}, Reps K F vs (ns.map D.int) → vs = ns.map V.int
  | _, [], .nil => rfl
  | _, n :: ns, .cons a b => by cases a; rw [reps_ints b]; rfl
theorem reps_bls : ∀ {vs : List V} {ns : List Bool}, Reps K F vs (ns.map D.bl) → vs = ns.map V.bl
  | _, [], .nil => rfl
  | _, n :: ns, .cons a b => by cases a; rw [reps_bls b]; rfl
theorem reps_strs : ∀ {vs : List V} {ns : List Str}, Reps K F vs (ns.map D.str) → vs = ns.map V.str
  | _, [], .nil => rfl
  | _, n :: ns, .cons a b => by cases a; rw [reps_strs b]; rfl
theorem of_strs : ∀ {ns : List Str}, Reps K F (ns.map V.str) (ns.map D.str)
  | [] => .nil
  | n :: ns => .cons (.str n) of_strs
end
section
variable {X : Cx} {N : En} {W : WX} {n : Nat} {δ δ' δ1 δ2 : List (Option S)} {μ μ' μ1 μ2 μ3 : List M} {e a b c o : Expr} {es : List Expr} {ss : List S} {pos p apos : Pos} {d : D} {s s1 s2 : S} {r : Rx}
/-! ### ints -/
theorem o_int {f : Value → Value → Sem Value} {g : Int → Int → Int} (h : OpR X f (rI0 fun i j => .int (g i j))) {i j : Int} : OpOk X N W f μ (.p (.int i)) (.p (.int j)) (.v (.p (.int (g i j)))) μ :=
  ⟨_, h, fun σ δ F A H x y Q R rx ry k => ⟨i, j, rs_int rx, rs_int ry, k.here R (.int _)⟩⟩
theorem o_intC {f : Value → Value → Sem Value} {C : Int → Int → Prop} {g : Int → Int → Int} (h : OpR X f (rI C fun i j => .int (g i j))) {i j : Int} (hc : C i j) : OpOk X N W f μ (.p (.int i)) (.p (.int j)) (.v (.p (.int (g i j)))) μ :=
  ⟨_, h, fun σ δ F A H x y Q R rx ry k => ⟨i, j, rs_int rx, rs_int ry, hc, k.here R (.int _)⟩⟩
theorem o_cmp {f : Value → Value → Sem Value} {g : Int → Int → Bool} (h : OpR X f (rI0 fun i j => .bl (g i j))) {i j : Int} : OpOk X N W f μ (.p (.int i)) (.p (.int j)) (.v (.p (.bl (g i j)))) μ :=
  ⟨_, h, fun σ δ F A H x y Q R rx ry k => ⟨i, j, rs_int rx, rs_int ry, k.here R (.bl _)⟩⟩
theorem o_add {i j : Int} : OpOk X N W (binaryOp .Add) μ (.p (.int i)) (.p (.int j)) (.v (.p (.int (i + j)))) μ := o_int op_add
theorem o_sub {i j : Int} : OpOk X N W (binaryOp .Sub) μ (.p (.int i)) (.p (.int j)) (.v (.p (.int (i - j)))) μ := o_int op_sub
theorem o_mul {i j : Int} (hc : CMul i j) : OpOk X N W (binaryOp .Mult) μ (.p (.int i)) (.p (.int j)) (.v (.p (.int (i * j)))) μ := o_intC op_mul hc
theorem o_div {i j : Int} (hc : CDiv i j) : OpOk X N W (binaryOp .FloorDiv) μ (.p (.int i)) (.p (.int j)) (.v (.p (.int (i / j)))) μ := o_intC op_fdiv hc
theorem o_mod {i j : Int} (hc : 0 < j) : OpOk X N W (binaryOp .Mod) μ (.p (.int i)) (.p (.int j)) (.v (.p (.int (i % j)))) μ := o_intC op_mod hc
theorem op_powW : OpR X (binaryOp .Pow) (rI (fun i j => 0 ≤ j ∧ (Builtin.Int.intBits i : Int) * j ≤ 2 ^ 27) fun i j => .int (i ^ j.toNat)) := opI fun _ _ _ _ _ _ _ hc q => pow_int hc.1 hc.2 q
theorem o_pow {i j : Int} (hc : 0 ≤ j ∧ (Builtin.Int.intBits i : Int) * j ≤ 2 ^ 27) : OpOk X N W (binaryOp .Pow) μ (.p (.int i)) (.p (.int j)) (.v (.p (.int (i ^ j.toNat)))) μ := o_intC op_powW hc
theorem o_lt {i j : Int} : OpOk X N W (compareOp .Lt) μ (.p (.int i)) (.p (.int j)) (.v (.p (.bl (decide (i < j))))) μ := o_cmp op_lt
theorem o_le {i j : Int} : OpOk X N W (compareOp .LtE) μ (.p (.int i)) (.p (.int j)) (.v (.p (.bl (decide (i ≤ j))))) μ := o_cmp op_le
theorem o_gt {i j : Int} : OpOk X N W (compareOp .Gt) μ (.p (.int i)) (.p (.int j)) (.v (.p (.bl (decide (j < i))))) μ := o_cmp op_gt
theorem o_ge {i j : Int} : OpOk X N W (compareOp .GtE) μ (.p (.int i)) (.p (.int j)) (.v (.p (.bl (decide (j ≤ i))))) μ := o_cmp op_ge
theorem o_eqI {i j : Int} : OpOk X N W (compareOp .Eq) μ (.p (.int i)) (.p (.int j)) (.v (.p (.bl (decide (i = j))))) μ :=
  ⟨_, op_eq, fun σ δ F A H x y Q R rx ry k => by
    cases rs_int rx; cases rs_int ry
    exact ⟨rfl, k.here R (by rw [show decide (V.int i = V.int j) = decide (i = j) from by rw [dec_int]; exact Bool.beq_eq_decide_eq ..]; exact .bl _)⟩⟩
theorem o_neI {i j : Int} : OpOk X N W (compareOp .NotEq) μ (.p (.int i)) (.p (.int j)) (.v (.p (.bl (!decide (i = j))))) μ :=
  ⟨_, op_ne, fun σ δ F A H x y Q R rx ry k => by
    cases rs_int rx; cases rs_int ry
    exact ⟨rfl, k.here R (by rw [show decide (V.int i = V.int j) = decide (i = j) from by rw [dec_int]; exact Bool.beq_eq_decide_eq ..]; exact .bl _)⟩⟩
theorem o_eqS {i j : Str} : OpOk X N W (compareOp .Eq) μ (.p (.str i)) (.p (.str j)) (.v (.p (.bl (decide (i = j))))) μ :=
  ⟨_, op_eq, fun σ δ F A H x y Q R rx ry k => by
    cases rs_str rx; cases rs_str ry
    exact ⟨rfl, k.here R (by rw [show decide (V.str i = V.str j) = decide (i = j) from by rw [dec_str]; exact Bool.beq_eq_decide_eq ..]; exact .bl _)⟩⟩
theorem o_neS {i j : Str} : OpOk X N W (compareOp .NotEq) μ (.p (.str i)) (.p (.str j)) (.v (.p (.bl (!decide (i = j))))) μ :=
  ⟨_, op_ne, fun σ δ F A H x y Q R rx ry k => by
    cases rs_str rx; cases rs_str ry
    exact ⟨rfl, k.here R (by rw [show decide (V.str i = V.str j) = decide (i = j) from by rw [dec_str]; exact Bool.beq_eq_decide_eq ..]; exact .bl _)⟩⟩
theorem o_eqB {i j : Bool} : OpOk X N W (compareOp .Eq) μ (.p (.bl i)) (.p (.bl j)) (.v (.p (.bl (decide (i = j))))) μ :=
  ⟨_, op_eq, fun σ δ F A H x y Q R rx ry k => by
    cases rs_bl rx; cases rs_bl ry
    exact ⟨rfl, k.here R (by rw [show decide (V.bl i = V.bl j) = decide (i = j) from by rw [dec_bl]; exact Bool.beq_eq_decide_eq ..]; exact .bl _)⟩⟩
theorem u_neg {i : Int} : UnOk X N W (unaryOp .USub) μ (.p (.int i)) (.v (.p (.int (-i)))) μ :=
  ⟨_, un_neg, fun σ δ F A H x Q R rx k => ⟨i, rs_int rx, k.here R (.int _)⟩⟩
/-! ### texts -/
theorem o_addS {i j : Str} (hl : i.length + j.length ≤ sizeLine) : OpOk X N W (binaryOp .Add) μ (.p (.str i)) (.p (.str j)) (.v (.p (.str (i ++ j)))) μ :=
  ⟨_, op_add_str, fun σ δ F A H x y Q R rx ry k => ⟨i, j, rs_str rx, rs_str ry, hl, k.here R (.str _)⟩⟩
theorem o_inS {c : Nat} {z : Str} : OpOk X N W (compareOp .In) μ (.p (.str ⟨#[c]⟩)) (.p (.str z)) (.v (.p (.bl (decide (c ∈ z.cps.toList))))) μ :=
  ⟨_, op_in_sign, fun σ δ F A H x y Q R rx ry k => ⟨c, z, rs_str rx, rs_str ry, k.here R (.bl _)⟩⟩
theorem op_mulS1 : OpR X (binaryOp .Mult) (fun x y H Q => ∃ (z : Str) (k : Bool), x = .str z ∧ y = .int (if k then 1 else 0) ∧ Q (.str (if k then z else Str.empty)) H) := by
  intro pins s σ H x y v u Q I rx ry h
  obtain ⟨z, k, rfl, rfl, q⟩ := h
  obtain ⟨t, rfl⟩ := rx
  obtain ⟨t', rfl⟩ := ry
  cases k with
  | false => exact PySem.P.mul_str_none (by decide) (by decide) ⟨.str _, H, I.tok _, ⟨_, rfl⟩, q⟩
  | true =>
    refine PySem.P.mul_str (by decide) (fun _ h => by simp at h) (fun _ h => by simp at h) ?_
    show (if (1 : Int) < 1 then _ else if ((1 : Int) == 1 || z.length == 0) = true then _ else _ : Made).post _ _
    rw [if_neg (by decide), if_pos (by simp)]
    exact ⟨.str z, H, I, ⟨t, rfl⟩, q⟩
theorem o_mulS {z : Str} {k : Bool} : OpOk X N W (binaryOp .Mult) μ (.p (.str z)) (.p (.int (if k then 1 else 0))) (.v (.p (.str (if k then z else Str.empty)))) μ :=
  ⟨_, op_mulS1, fun σ δ F A H x y Q R rx ry q => ⟨z, k, rs_str rx, rs_int ry, q.here R (.str _)⟩⟩
/-! ### builtins -/
theorem one_of {K : PySem.W.Frag} {F : Hp} {A : List Addr} {vs : List V} (h : RepSs K F A vs [s]) : ∃ v, vs = [v] ∧ RepS K F A v s := by
  cases h with
  | cons a b => cases b; exact ⟨_, rfl, a⟩
theorem two_of {K : PySem.W.Frag} {F : Hp} {A : List Addr} {vs : List V} (h : RepSs K F A vs [s1, s2]) : ∃ v w, vs = [v, w] ∧ RepS K F A v s1 ∧ RepS K F A w s2 := by
  cases h with
  | cons a b => cases b with
    | cons b c => cases c; exact ⟨_, _, rfl, a, b⟩
theorem c_int {i : Int} : CallOk X N W (.type "int") μ [.p (.int i)] (.v (.p (.int i))) μ :=
  ⟨_, call_int1, fun σ δ F A H vs Q R rv k => by
    obtain ⟨v, rfl, h⟩ := one_of rv
    exact .inl ⟨i, by rw [rs_int h], k.here R (.int _)⟩⟩
theorem c_intB {i : Bool} : CallOk X N W (.type "int") μ [.p (.bl i)] (.v (.p (.int (if i then 1 else 0)))) μ :=
  ⟨_, call_int1, fun σ δ F A H vs Q R rv k => by
    obtain ⟨v, rfl, h⟩ := one_of rv
    exact .inr ⟨i, by rw [rs_bl h], k.here R (.int _)⟩⟩
theorem c_abs {i : Int} : CallOk X N W (.builtin "abs") μ [.p (.int i)] (.v (.p (.int (if i < 0 then -i else i)))) μ :=
  ⟨_, call_abs, fun σ δ F A H vs Q R rv k => by
    obtain ⟨v, rfl, h⟩ := one_of rv
    exact ⟨i, by rw [rs_int h], k.here R (.int _)⟩⟩
theorem c_max2 (g : Go X N W n) {i j : Int} : CallOk X N W (.builtin "max") μ [.p (.int i), .p (.int j)] (.v (.p (.int (if j > i then j else i)))) μ :=
  ⟨_, call_max2 g.calm, fun σ δ F A H vs Q R rv k => by
    obtain ⟨v, w, rfl, h, h'⟩ := two_of rv
    exact ⟨i, j, by rw [rs_int h, rs_int h'], k.here R (.int _)⟩⟩
theorem c_min2 (g : Go X N W n) {i j : Int} : CallOk X N W (.builtin "min") μ [.p (.int i), .p (.int j)] (.v (.p (.int (if j < i then j else i)))) μ :=
  ⟨_, call_min2 g.calm, fun σ δ F A H vs Q R rv k => by
    obtain ⟨v, w, rfl, h, h'⟩ := two_of rv
    exact ⟨i, j, by rw [rs_int h, rs_int h'], k.here R (.int _)⟩⟩
theorem c_lenS {z : Str} (hl : z.length ≤ sizeLine) : CallOk X N W (.builtin "len") μ [.p (.str z)] (.v (.p (.int z.length))) μ :=
  ⟨_, call_len, fun σ δ F A H vs Q R rv k => by
    obtain ⟨v, rfl, h⟩ := one_of rv
    exact ⟨.str z, z.length, by rw [rs_str h], ⟨hl, rfl⟩, k.here R (.int _)⟩⟩
theorem c_lenT (g : Go X N W n) {ds : List D} : CallOk X N W (.builtin "len") μ [.p (.tup ds)] (.v (.p (.int ds.length))) μ :=
  ⟨_, call_len, fun σ δ F A H vs Q R rv k => by
    obtain ⟨v, rfl, h⟩ := one_of rv
    obtain ⟨a, ws, rfl, h1, h2⟩ := rep_tup h
    exact ⟨.ref a, ds.length, rfl, .inr ⟨ws, by rw [← g.hK]; exact same_sqT R.rc.sub h1, h2.length.symm⟩, k.here R (.int _)⟩⟩
theorem c_lenL (g : Go X N W n) {ds : List D} : CallOk X N W (.builtin "len") μ [.p (.lst ds)] (.v (.p (.int ds.length))) μ :=
  ⟨_, call_len, fun σ δ F A H vs Q R rv k => by
    obtain ⟨v, rfl, h⟩ := one_of rv
    obtain ⟨a, ws, rfl, h1, h2⟩ := rep_lst h
    exact ⟨.ref a, ds.length, rfl, .inl ⟨ws, SqL.of (R.rc.sub _ _ h1), h2.length.symm⟩, k.here R (.int _)⟩⟩
theorem c_sum (g : Go X N W n) {ns : List Int} : CallOk X N W (.builtin "sum") μ [.p (.lst (ns.map D.int))] (.v (.p (.int ns.sum))) μ :=
  ⟨_, cr_sum g.calm, fun σ δ F A H vs Q R rv k => by
    obtain ⟨v, rfl, h⟩ := one_of rv
    obtain ⟨a, ws, rfl, h1, h2⟩ := rep_lst h
    rw [reps_ints h2] at h1
    exact ⟨a, ns, rfl, SqL.of (R.rc.sub _ _ h1), k.here R (.int _)⟩⟩
theorem c_all (g : Go X N W n) {ns : List Bool} : CallOk X N W (.builtin "all") μ [.p (.lst (ns.map D.bl))] (.v (.p (.bl (ns.all id)))) μ :=
  ⟨_, cr_all g.calm, fun σ δ F A H vs Q R rv k => by
    obtain ⟨v, rfl, h⟩ := one_of rv
    obtain ⟨a, ws, rfl, h1, h2⟩ := rep_lst h
    rw [reps_bls h2] at h1
    exact ⟨a, ns, rfl, SqL.of (R.rc.sub _ _ h1), k.here R (.bl _)⟩⟩
/-! ### methods of texts -/
theorem m_removeprefix {z y : Str} (hl : z.length ≤ sizeLine) : MtOk X N W "str" "str.removeprefix" μ μ (.p (.str z)) [.p (.str y)] (.v (.p (.str (Txt.removeprefix z y)))) μ :=
  ⟨_, mt_removeprefix, fun σ δ F A H x R rx => by rw [rs_str rx]; rfl, fun σ δ F A H x vs Q R rx rv k => by
    obtain ⟨v, rfl, h⟩ := one_of rv
    exact ⟨z, y, rs_str rx, by rw [rs_str h], hl, k.here R (.str _)⟩⟩
theorem m_startswith {z y : Str} : MtOk X N W "str" "str.startswith" μ μ (.p (.str z)) [.p (.str y)] (.v (.p (.bl (Txt.startswith z y)))) μ :=
  ⟨_, mt_startswith, fun σ δ F A H x R rx => by rw [rs_str rx]; rfl, fun σ δ F A H x vs Q R rx rv k => by
    obtain ⟨v, rfl, h⟩ := one_of rv
    exact ⟨z, y, rs_str rx, by rw [rs_str h], k.here R (.bl _)⟩⟩
theorem m_join {z : Str} {ys : List Str} (hl : (ys.map (·.length)).sum + ys.length * z.length ≤ 16777216) : MtOk X N W "str" "str.join" μ μ1 (.p (.str z)) [.p (.lst (ys.map D.str))] (.v (.p (.str (Txt.join z ys)))) μ1 :=
  ⟨_, mt_join, fun σ δ F A H x R rx => by rw [rs_str rx]; rfl, fun σ δ F A H x vs Q R rx rv k => by
    obtain ⟨v, rfl, h⟩ := one_of rv
    obtain ⟨a, ws, rfl, h1, h2⟩ := rep_lst h
    rw [reps_strs h2] at h1
    exact ⟨z, a, ys, rs_str rx, rfl, .inl (SqL.of (R.rc.sub _ _ h1)), hl, k.here R (.str _)⟩⟩
/-! ### items -/
theorem atI_rep {K : PySem.W.Frag} {F : Hp} {vs : List V} {ds : List D} {i : Int} (r : Reps K F vs ds) (h : atI ds i = some d) : ∃ v, atI vs i = some v ∧ Rep K F v d := by
  unfold atI at h ⊢
  rw [r.length]
  obtain ⟨j, h1, h2⟩ := Option.bind_eq_some_iff.mp h
  obtain ⟨v, h3, h4⟩ := r.get h2
  exact ⟨v, by rw [h1]; exact h3, h4⟩
theorem i_lst (g : Go X N W n) {ds : List D} {i : Int} (h : atI ds i = some d) : IxOk X N W μ (.p (.lst ds)) (.p (.int i)) (.v (.p d)) μ :=
  ⟨_, ix_list, fun σ δ F A H x y Q R rx ry k => by
    obtain ⟨a, ws, rfl, h1, h2⟩ := rep_lst rx
    obtain ⟨v, h3, h4⟩ := atI_rep h2 h
    exact ⟨a, ws, i, v, rfl, rs_int ry, SqL.of (R.rc.sub _ _ h1), h3, k.here R h4⟩⟩
theorem i_tup (g : Go X N W n) {ds : List D} {i : Int} (h : atI ds i = some d) : IxOk X N W μ (.p (.tup ds)) (.p (.int i)) (.v (.p d)) μ :=
  ⟨_, ix_tup, fun σ δ F A H x y Q R rx ry k => by
    obtain ⟨a, ws, rfl, h1, h2⟩ := rep_tup rx
    obtain ⟨v, h3, h4⟩ := atI_rep h2 h
    exact ⟨a, ws, i, v, rfl, rs_int ry, by rw [← g.hK]; exact same_sqT R.rc.sub h1, h3, k.here R h4⟩⟩
theorem i_lstM {j : Nat} {ds : List D} {i : Int} (hj : μ[j]? = some (.lst ds)) (h : atI ds i = some d) : IxOk X N W μ (.l j) (.p (.int i)) (.v (.p d)) μ :=
  ⟨_, ix_list, fun σ δ F A H x y Q R rx ry k => by
    obtain ⟨a, rfl, ha⟩ := rx
    obtain ⟨ws, h1, h2⟩ := R.rc.mus j a _ ha hj
    obtain ⟨v, h3, h4⟩ := atI_rep h2 h
    exact ⟨a, ws, i, v, rfl, rs_int ry, SqL.of h1, h3, k.here R h4⟩⟩
theorem i_str {z : Str} {i : Int} {c : Nat} (hl : z.length ≤ sizeLine) (h : atI z.cps.toList i = some c) : IxOk X N W μ (.p (.str z)) (.p (.int i)) (.v (.p (.str ⟨#[c]⟩))) μ :=
  ⟨_, ix_str, fun σ δ F A H x y Q R rx ry k => ⟨z, i, c, rs_str rx, rs_int ry, hl, h, k.here R (.str _)⟩⟩
/-! ### lists that change -/
theorem ds_setM {j : Nat} {ds : List D} {i : Int} {k : Nat} (hv : DE X N W δ μ e (.v (.p d)) μ1) (ho : DE X N W δ μ1 o (.v (.l j)) μ1) (hb : DE X N W δ μ1 b (.v (.p (.int i))) μ1) (hj : μ1[j]? = some (.lst ds)) (hk : ixN ds.length i = some k)
    (hs : swapsWithSole [.Subscript o b p] e pos.line X.env = pure false := by rfl) (hw : swappedStores [.Subscript o b p] e X.env = pure none := by rfl)
    (h1 : (assignEach [.Subscript o b p] X.env).map (·.2) = [assign (.Subscript o b p) X.env] := by rfl)
    (ha : ∀ v, assign (.Subscript o b p) X.env v = (do
      let ov ← holding [v] (eval o X.env)
      let iv ← holding [v, ov] (eval b X.env)
      standAt p
      holding [v, ov, iv] (setItem ov iv v)
      release [v, ov, iv] []) := by intro _; rfl) : DS X N W δ μ (.Assign [.Subscript o b p] e pos) (.nx δ (μ1.set j (.lst (ds.set k d)))) :=
  PS.imp (ps_asg hv (pg_sub ho hb set_list ha) hs hw h1) fun K σ H ⟨F, A, R, q⟩ => ⟨F, A, R, fun v F1 A1 H1 e1 p1 R1 rv => ⟨F1, A1, R1, fun ov F2 A2 H2 e2 p2 R2 ro => ⟨F2, A2, R2, fun iv F3 A3 H3 e3 p3 R3 ri => by
    obtain ⟨a, rfl, ha⟩ := ro
    have rv3 : Rep N.K F3 v d := Rep.mono (e2.trans e3) rv
    have ha3 := getElem?_pre p3 ha
    obtain ⟨ws, h1, h2⟩ := R3.rc.mus j a _ ha3 hj
    refine ⟨a, ws, i, k, rfl, rs_int ri, h1, by rw [h2.length]; exact hk, ?_⟩
    exact q σ F3 A3 _ ((e1.trans e2).trans e3) ((p1.trans p2).trans p3) (R3.to (Same.refl _) (List.prefix_refl _) (R3.rc.write ha3 hj trivial ⟨_, upd_same, h2.set rv3 k⟩))⟩⟩⟩
end
end Dl
set_option Elab.async false
set_option linter.all false
set_option maxRecDepth 100000
set_option maxHeartbeats 4000000
set_option autoImplicit false
namespace Dl
open PySem PySem.Spec PyProof.Rows L2
section
variable {prog : Program} {w : World} {A : Around} {E : Value → Shared → Prop} {s : Shared}
theorem nextOf_ascii {it : Addr} {x : Str} {t : Tok} {i c : Nat} {Q : Value → Shared → Prop} (hit : s.heap.IsStrIter it "str_ascii_iterator" x t i) (hx : x.cps[i]? = some c)
    (hQ : ∀ h', h'.IsStrIter it "str_ascii_iterator" x t (i + 1) → Heap.SameBut it s.heap h' → Q (.str ⟨#[c]⟩ s.toks) { s with heap := h', toks := s.toks + 1 }) :
    wpAny (model prog w) A (Builtin.SmallTypes.nextOf (.ref it)) Q E s := by
  obtain ⟨o, ho, hc, hd⟩ := id hit
  unfold Builtin.SmallTypes.nextOf
  refine wpAny_bind (wpAny_callSpecial?_slot (name := Str.ofString "__next__") hit.typeIs F.slot_str_ascii_iterator_next
    (wpAny_call_entry F.slot_str_ascii_iterator_next hit.typeIs F.entry_str_ascii_iterator_next ?_ (F.args_str_ascii_iterator_next_1 _)))
  show wpAny _ _ (field (.ref it) 0 >>= _) _ _ s
  refine wpAny_bind (wpAny_field ho hd (x := .str x t) rfl ?_)
  show wpAny _ _ (field (.ref it) 1 >>= _) _ _ s
  refine wpAny_bind (wpAny_field ho hd (x := .int i 0) rfl ?_)
  simp only [Int.toNat_natCast, hx]
  refine wpAny_bind (wpAny_setField ho hd (by simp) (wpAny_bind (wpAny_mkStr (wpAny_pure ⟨_, rfl, wpAny_pure (hQ _ ?_ (Heap.SameBut.update ..))⟩) (by show 1 ≤ sizeLine; decide))))
  exact ⟨_, Heap.get?_update_self _ ho (Obj.isFreed_of_fields (Obj.data_mapFields hd _)), (Obj.cls_mapFields ..).trans hc, by
    rw [Obj.data_mapFields hd]; simp [rawInt]⟩
theorem nextOf_wide {it : Addr} {x : Str} {t : Tok} {i c : Nat} {Q : Value → Shared → Prop} (hit : s.heap.IsStrIter it "str_iterator" x t i) (hx : x.cps[i]? = some c)
    (hQ : ∀ h', h'.IsStrIter it "str_iterator" x t (i + 1) → Heap.SameBut it s.heap h' → Q (.str ⟨#[c]⟩ s.toks) { s with heap := h', toks := s.toks + 1 }) :
    wpAny (model prog w) A (Builtin.SmallTypes.nextOf (.ref it)) Q E s := by
  obtain ⟨o, ho, hc, hd⟩ := id hit
  unfold Builtin.SmallTypes.nextOf
  refine wpAny_bind (wpAny_callSpecial?_slot (name := Str.ofString "__next__") hit.typeIs F.slot_str_iterator_next
    (wpAny_call_entry F.slot_str_iterator_next hit.typeIs F.entry_str_iterator_next ?_ (F.args_str_iterator_next_1 _)))
  show wpAny _ _ (field (.ref it) 0 >>= _) _ _ s
  refine wpAny_bind (wpAny_field ho hd (x := .str x t) rfl ?_)
  show wpAny _ _ (field (.ref it) 1 >>= _) _ _ s
  refine wpAny_bind (wpAny_field ho hd (x := .int i 0) rfl ?_)
  simp only [Int.toNat_natCast, hx]
  refine wpAny_bind (wpAny_setField ho hd (by simp) (wpAny_bind (wpAny_mkStr (wpAny_pure ⟨_, rfl, wpAny_pure (hQ _ ?_ (Heap.SameBut.update ..))⟩) (by show 1 ≤ sizeLine; decide))))
  exact ⟨_, Heap.get?_update_self _ ho (Obj.isFreed_of_fields (Obj.data_mapFields hd _)), (Obj.cls_mapFields ..).trans hc, by
    rw [Obj.data_mapFields hd]; simp [rawInt]⟩
theorem nextOf_ascii_end {it : Addr} {x : Str} {t : Tok} {i : Nat} {Q : Value → Shared → Prop} (hh : A.handled = none) (hit : s.heap.IsStrIter it "str_ascii_iterator" x t i) (hx : x.cps[i]? = none)
    (hE : ∀ h' e, Heap.ExtBut it s.heap h' → (∃ o, h'.get? e = some o ∧ o.cls = .type "StopIteration") → E (.ref e) { s with heap := h' }) : wpAny (model prog w) A (Builtin.SmallTypes.nextOf (.ref it)) Q E s := by
  obtain ⟨o, ho, hc, hd⟩ := id hit
  unfold Builtin.SmallTypes.nextOf
  refine wpAny_bind (wpAny_callSpecial?_slot (name := Str.ofString "__next__") hit.typeIs F.slot_str_ascii_iterator_next
    (wpAny_call_entry F.slot_str_ascii_iterator_next hit.typeIs F.entry_str_ascii_iterator_next ?_ (F.args_str_ascii_iterator_next_1 _)))
  show wpAny _ _ (field (.ref it) 0 >>= _) _ _ s
  refine wpAny_bind (wpAny_field ho hd (x := .str x t) rfl ?_)
  show wpAny _ _ (field (.ref it) 1 >>= _) _ _ s
  refine wpAny_bind (wpAny_field ho hd (x := .int i 0) rfl ?_)
  simp only [Int.toNat_natCast, hx]
  refine wpAny_bind (wpAny_rule (wpAny_bind (wpAny_setField ho hd (by simp) (wpAny_bind (wpAny_letGo ?_)))))
  show wpAny _ _ (newExc (.type "StopIteration") [] >>= _) _ _ _
  refine wpAny_bind ?_
  simp only [newExc, newTuple]
  refine wpAny_bind (wpAny_newObj_type ?_ (by size_fits))
  refine wpAny_bind (m := firstArgMember _ _) (wpAny_of_eq (a := Value.none) (by first | rfl | (simp only [firstArgMember]; rfl)) ?_)
  refine wpAny_newObj_type ?_ (by size_fits)
  simp only [raiseNew]
  refine wpAny_bind (wpAny_handled ?_)
  rw [show A.in1.handled = none from hh]
  refine wpAny_bind (wpAny_pure (wpAny_throw ?_))
  exact hE _ _ (((Heap.SameBut.update ..).extBut.push _).push _) ⟨_, Heap.get?_push_size _ rfl, rfl⟩
theorem nextOf_wide_end {it : Addr} {x : Str} {t : Tok} {i : Nat} {Q : Value → Shared → Prop} (hh : A.handled = none) (hit : s.heap.IsStrIter it "str_iterator" x t i) (hx : x.cps[i]? = none)
    (hE : ∀ h' e, Heap.ExtBut it s.heap h' → (∃ o, h'.get? e = some o ∧ o.cls = .type "StopIteration") → E (.ref e) { s with heap := h' }) : wpAny (model prog w) A (Builtin.SmallTypes.nextOf (.ref it)) Q E s := by
  obtain ⟨o, ho, hc, hd⟩ := id hit
  unfold Builtin.SmallTypes.nextOf
  refine wpAny_bind (wpAny_callSpecial?_slot (name := Str.ofString "__next__") hit.typeIs F.slot_str_iterator_next
    (wpAny_call_entry F.slot_str_iterator_next hit.typeIs F.entry_str_iterator_next ?_ (F.args_str_iterator_next_1 _)))
  show wpAny _ _ (field (.ref it) 0 >>= _) _ _ s
  refine wpAny_bind (wpAny_field ho hd (x := .str x t) rfl ?_)
  show wpAny _ _ (field (.ref it) 1 >>= _) _ _ s
  refine wpAny_bind (wpAny_field ho hd (x := .int i 0) rfl ?_)
  simp only [Int.toNat_natCast, hx]
  refine wpAny_bind (wpAny_rule (wpAny_bind (wpAny_setField ho hd (by simp) (wpAny_bind (wpAny_letGo ?_)))))
  show wpAny _ _ (newExc (.type "StopIteration") [] >>= _) _ _ _
  refine wpAny_bind ?_
  simp only [newExc, newTuple]
  refine wpAny_bind (wpAny_newObj_type ?_ (by size_fits))
  refine wpAny_bind (m := firstArgMember _ _) (wpAny_of_eq (a := Value.none) (by first | rfl | (simp only [firstArgMember]; rfl)) ?_)
  refine wpAny_newObj_type ?_ (by size_fits)
  simp only [raiseNew]
  refine wpAny_bind (wpAny_handled ?_)
  rw [show A.in1.handled = none from hh]
  refine wpAny_bind (wpAny_pure (wpAny_throw ?_))
  exact hE _ _ (((Heap.SameBut.update ..).extBut.push _).push _) ⟨_, Heap.get?_push_size _ rfl, rfl⟩
end
/-- an iterator that a zip draws from: at it; what it leans on stands at dep; its i-th value -/
structure ItC (it : Addr) (dep : List Addr) (len : Nat) (val : Nat → Value → Prop) (tn : Nat → Heap → Prop) : Prop where
  obj : ∀ i h, tn i h → ∃ o, h.get? it = some o ∧ ∀ v, o.data ≠ .cell v
  keep : ∀ i h h', tn i h → (∀ b o, b = it ∨ b ∈ dep → h.get? b = some o → h'.get? b = some o) → tn i h'
  item : ∀ (prog : Program) (w : World) (A : Around) (E : Value → Shared → Prop) (s : Shared) (Q : Value → Shared → Prop) (i : Nat), i < len → tn i s.heap → (∀ x h' tk, val i x → tn (i + 1) h' → Heap.SameBut it s.heap h' → Q x { s with heap := h', toks := tk }) →
    wpAny (model prog w) A (Builtin.SmallTypes.nextOf (.ref it)) Q E s
  stop : ∀ (prog : Program) (w : World) (A : Around) (E : Value → Shared → Prop) (s : Shared) (Q : Value → Shared → Prop), A.handled = none → tn len s.heap → (∀ h' e, Heap.ExtBut it s.heap h' → (∃ o, h'.get? e = some o ∧ o.cls = .type "StopIteration") → E (.ref e) { s with heap := h' }) →
    wpAny (model prog w) A (Builtin.SmallTypes.nextOf (.ref it)) Q E s
theorem itc_list {it l : Addr} {its : List Value} : ItC it [l] its.length (fun i x => its[i]? = some x) (fun i h => h.IsListIter it l i ∧ h.IsList l its.toArray) where
  obj := fun i h ⟨⟨o, e, _, d⟩, _⟩ => ⟨o, e, fun v z => by rw [d] at z; cases z⟩
  keep := fun i h h' ⟨a, b⟩ k => ⟨a.at fun o e => k it o (.inl rfl) e, by
    obtain ⟨o, e, r⟩ := b
    exact ⟨o, k l o (.inr (by simp)) e, r⟩⟩
  item := fun prog w A E s Q i hi ⟨a, b⟩ hq => wpAny_nextOf_list_item a b (x := its[i]) (by simp [hi]) fun h' a' sb => hq _ h' s.toks (by simp [hi]) ⟨a', by
    obtain ⟨o, e, r⟩ := b
    have ne : l ≠ it := fun z => by
      obtain ⟨o', e', c', _⟩ := a
      rw [← z, e] at e'; cases e'
      obtain ⟨c, _⟩ := r
      rw [c] at c'
      exact absurd c' (by decide)
    exact ⟨o, (sb.2 l ne).trans e, r⟩⟩ sb
  stop := fun prog w A E s Q hh ⟨a, b⟩ he => wpAny_nextOf_list_end hh a b (by simp) he
theorem itc_tup {it l : Addr} {its : List Value} : ItC it [l] its.length (fun i x => its[i]? = some x) (fun i h => h.IsTupleIter it l i ∧ h.IsTuple l its.toArray) where
  obj := fun i h ⟨⟨o, e, _, d⟩, _⟩ => ⟨o, e, fun v z => by rw [d] at z; cases z⟩
  keep := fun i h h' ⟨a, b⟩ k => ⟨a.at fun o e => k it o (.inl rfl) e, by
    obtain ⟨o, e, r⟩ := b
    exact ⟨o, k l o (.inr (by simp)) e, r⟩⟩
  item := fun prog w A E s Q i hi ⟨a, b⟩ hq => RZ.nextOf_tuple_item a b (x := its[i]) (by simp [hi]) fun h' a' sb => hq _ h' s.toks (by simp [hi]) ⟨a', by
    obtain ⟨o, e, r⟩ := b
    have ne : l ≠ it := fun z => by
      obtain ⟨o', e', c', _⟩ := a
      rw [← z, e] at e'; cases e'
      obtain ⟨c, _⟩ := r
      rw [c] at c'
      exact absurd c' (by decide)
    exact ⟨o, (sb.2 l ne).trans e, r⟩⟩ sb
  stop := fun prog w A E s Q hh ⟨a, b⟩ he => RZ.nextOf_tuple_end hh a b (by simp) he
theorem itc_str {it : Addr} {z : Str} {t : Tok} {ty : String} (hty : ty = "str_ascii_iterator" ∨ ty = "str_iterator") : ItC it [] z.cps.size (fun i x => ∃ c u, z.cps[i]? = some c ∧ x = .str ⟨#[c]⟩ u) (fun i h => h.IsStrIter it ty z t i) where
  obj := fun i h ⟨o, e, _, d⟩ => ⟨o, e, fun v z => by rw [d] at z; cases z⟩
  keep := fun i h h' st k => let ⟨o, ho, r⟩ := st; ⟨o, k it o (.inl rfl) ho, r⟩
  item := fun prog w A E s Q i hi st hq => by
    rcases hty with e | e
    · subst e; exact nextOf_ascii st (c := z.cps[i]) (by simp [hi]) fun h' a' sb => hq _ h' _ ⟨_, _, by simp [hi], rfl⟩ a' sb
    · subst e; exact nextOf_wide st (c := z.cps[i]) (by simp [hi]) fun h' a' sb => hq _ h' _ ⟨_, _, by simp [hi], rfl⟩ a' sb
  stop := fun prog w A E s Q hh st he => by
    rcases hty with e | e
    · subst e; exact nextOf_ascii_end hh st (by simp) he
    · subst e; exact nextOf_wide_end hh st (by simp) he
/-- all of a zip's own objects and what it leans on stand apart -/
structure ZAp (z TI TO i1 i2 : Addr) (d1 d2 : List Addr) : Prop where
  TIz : TI ≠ z
  TOz : TO ≠ z
  i1z : i1 ≠ z
  i2z : i2 ≠ z
  TITO : TI ≠ TO
  TIi1 : TI ≠ i1
  TIi2 : TI ≠ i2
  TOi1 : TO ≠ i1
  TOi2 : TO ≠ i2
  i12 : i1 ≠ i2
  dz : ∀ b ∈ d1 ++ d2, b ≠ z ∧ b ≠ TO ∧ b ≠ i1 ∧ b ≠ i2
section
variable {prog : Program} {w : World} {A : Around} {E : Value → Shared → Prop} {s : Shared} {z TI TO i1 i2 : Addr} {d1 d2 : List Addr} {n1 n2 : Nat} {v1 v2 : Nat → Value → Prop} {t1 t2 : Nat → Heap → Prop} {a b : Value} {k : Nat}
theorem zip_itemG {Q : Value → Shared → Prop} (D : ZAp z TI TO i1 i2 d1 d2) (C1 : ItC i1 d1 n1 v1 t1) (C2 : ItC i2 d2 n2 v2 t2)
    (hz : IsZip s.heap z TI TO .none) (hTI : IsPair s.heap TI (.ref i1) (.ref i2)) (hTO : IsPair s.heap TO a b) (h1 : t1 k s.heap) (h2 : t2 k s.heap) (l1 : k < n1) (l2 : k < n2)
    (hQ : ∀ h' tk x y, v1 k x → v2 k y → IsZip h' z TI TO (rawInt s.heap.objs.size) → IsPair h' TO x y → t1 (k + 1) h' → t2 (k + 1) h' → IsPair h' s.heap.objs.size x y → h'.objs.size = s.heap.objs.size + 1 →
      (∀ c o, c ≠ z → c ≠ TO → c ≠ i1 → c ≠ i2 → s.heap.get? c = some o → h'.get? c = some o) → Q (.ref s.heap.objs.size) { s with heap := h', toks := tk }) :
    wpAny (model prog w) A (Builtin.«zip.__next__» ⟨[.ref z], []⟩) (fun fin s' => ∃ v, fin = .done (.ret v) ∧ Q v s') E s := by
  have dd1 : ∀ b ∈ d1, b ≠ z ∧ b ≠ TO ∧ b ≠ i1 ∧ b ≠ i2 := fun b h => D.dz b (List.mem_append_left _ h)
  have dd2 : ∀ b ∈ d2, b ≠ z ∧ b ≠ TO ∧ b ≠ i1 ∧ b ≠ i2 := fun b h => D.dz b (List.mem_append_right _ h)
  have K1 : ∀ {i h h' c}, t1 i h → Heap.ExtBut c h h' → c = z ∨ c = TO ∨ c = i2 → t1 i h' := fun {i h h' c} st hs hc => C1.keep i h h' st fun b o hb e => hs b o (by
    rcases hb with rfl | hb
    · rcases hc with rfl | rfl | rfl
      · exact D.i1z
      · exact D.TOi1.symm
      · exact D.i12
    · rcases hc with rfl | rfl | rfl
      · exact (dd1 b hb).1
      · exact (dd1 b hb).2.1
      · exact (dd1 b hb).2.2.2) e
  have K2 : ∀ {i h h' c}, t2 i h → Heap.ExtBut c h h' → c = z ∨ c = TO ∨ c = i1 → t2 i h' := fun {i h h' c} st hs hc => C2.keep i h h' st fun b o hb e => hs b o (by
    rcases hb with rfl | hb
    · rcases hc with rfl | rfl | rfl
      · exact D.i2z
      · exact D.TOi2.symm
      · exact D.i12.symm
    · rcases hc with rfl | rfl | rfl
      · exact (dd2 b hb).1
      · exact (dd2 b hb).2.1
      · exact (dd2 b hb).2.2.1) e
  show wpAny _ _ (field (.ref z) 2 >>= _) _ _ _
  refine wpAny_bind (wpAny_field hz rfl (x := .bool false) rfl ?_)
  show wpAny _ _ (field (.ref z) 3 >>= _) _ _ _
  refine wpAny_bind (wpAny_field hz rfl (x := .ref TI) rfl ?_)
  refine wpAny_bind (wpAny_seqItems hTI rfl ?_)
  show wpAny _ _ (Builtin.SmallTypes.ownedTupleIsFree (.ref z) >>= _) _ _ _
  refine wpAny_bind ?_
  unfold Builtin.SmallTypes.ownedTupleIsFree
  refine wpAny_bind (wpAny_field hz rfl (x := .none) rfl (wpAny_pure ?_))
  simp only [if_true]
  refine wpAny_bind (wpAny_rule ?_)
  refine wpAny_bind (wpAny_field hz rfl (x := .ref TO) rfl ?_)
  refine wpAny_bind (wpAny_setField_rec hz (by simp) fun h₁ hz₁ hs₁ => ?_)
  replace hz₁ : IsZip h₁ z TI TO .ellipsis := hz₁
  refine wpAny_bind ?_
  simp only [List.zipIdx_cons, List.zipIdx_nil, List.forIn_cons, List.forIn_nil]
  refine wpAny_bind (wpAny_bind (wpAny_onRaise ?_))
  show wpAny _ _ (Builtin.SmallTypes.nextOf (.ref i1) >>= _) _ _ _
  refine wpAny_bind (C1.item prog w _ _ { s with heap := h₁ } _ k l1 (K1 h1 hs₁.extBut (.inl rfl)) fun x h₂ tk₂ hx h1₂ hs₂ => wpAny_pure ?_)
  have hTO₂ : IsPair h₂ TO a b := hs₂.extBut _ _ D.TOi1 (hs₁.extBut _ _ D.TOz hTO)
  refine wpAny_bind (wpAny_seqItems hTO₂ rfl ?_)
  refine wpAny_bind (wpAny_updateSeq_pair hTO₂ fun h₃ hTO₃ hs₃ => ?_)
  replace hTO₃ : IsPair h₃ TO x b := hTO₃
  refine wpAny_bind (wpAny_letGo (wpAny_pure ?_))
  refine wpAny_bind (wpAny_bind (wpAny_onRaise ?_))
  show wpAny _ _ (Builtin.SmallTypes.nextOf (.ref i2) >>= _) _ _ _
  refine wpAny_bind (C2.item prog w _ _ { s with heap := h₃, toks := tk₂ } _ k l2 (K2 (K2 (K2 h2 hs₁.extBut (.inl rfl)) hs₂.extBut (.inr (.inr rfl))) hs₃.extBut (.inr (.inl rfl))) fun y h₄ tk₄ hy h2₄ hs₄ => wpAny_pure ?_)
  have hTO₄ : IsPair h₄ TO x b := hs₄.extBut _ _ D.TOi2 hTO₃
  refine wpAny_bind (wpAny_seqItems hTO₄ rfl ?_)
  refine wpAny_bind (wpAny_updateSeq_pair hTO₄ fun h₅ hTO₅ hs₅ => ?_)
  replace hTO₅ : IsPair h₅ TO x y := hTO₅
  refine wpAny_bind (wpAny_letGo (wpAny_pure (wpAny_pure ?_)))
  refine wpAny_bind (wpAny_seqItems hTO₅ rfl ?_)
  refine wpAny_bind (wpAny_newTuple ?_)
  have hsz : h₅.objs.size = s.heap.objs.size := by rw [hs₅.1, hs₄.1, hs₃.1, hs₂.1, hs₁.1]
  have hz₅ : IsZip h₅ z TI TO .ellipsis := hs₅.extBut _ _ D.TOz.symm (hs₄.extBut _ _ D.i2z.symm (hs₃.extBut _ _ D.TOz.symm (hs₂.extBut _ _ D.i1z.symm hz₁)))
  have hk₅ : ∀ c o, c ≠ z → c ≠ TO → c ≠ i1 → c ≠ i2 → s.heap.get? c = some o → h₅.get? c = some o := fun c o c1 c2 c3 c4 e =>
    hs₅.extBut _ _ c2 (hs₄.extBut _ _ c4 (hs₃.extBut _ _ c2 (hs₂.extBut _ _ c3 (hs₁.extBut _ _ c1 e))))
  have h1₅ : t1 (k + 1) h₅ := K1 (K1 (K1 h1₂ hs₃.extBut (.inr (.inl rfl))) hs₄.extBut (.inr (.inr rfl))) hs₅.extBut (.inr (.inl rfl))
  have h2₅ : t2 (k + 1) h₅ := K2 h2₄ hs₅.extBut (.inr (.inl rfl))
  have hzlt : z < h₅.objs.size := Heap.lt_size hz₅
  show wpAny _ _ (Builtin.SmallTypes.ownedTupleHandOut (.ref z) (.ref h₅.objs.size) >>= _) _ _ _
  refine wpAny_bind ?_
  unfold Builtin.SmallTypes.ownedTupleHandOut
  have hz₆ : IsZip (h₅.push { cls := .type "tuple", data := .seq #[x, y] }) z TI TO .ellipsis := Heap.get?_push_of_some _ hz₅
  refine wpAny_bind (wpAny_setField_rec hz₆ (by simp) fun h₇ hz₇ hs₇ => ?_)
  replace hz₇ : IsZip h₇ z TI TO (rawInt h₅.objs.size) := hz₇
  refine wpAny_setField_rec hz₇ (by simp) fun h₈ hz₈ hs₈ => ?_
  replace hz₈ : IsZip h₈ z TI TO (rawInt h₅.objs.size) := hz₈
  have up : ∀ c o, c ≠ z → h₅.get? c = some o → h₈.get? c = some o := fun c o c1 e => hs₈.extBut _ _ c1 (hs₇.extBut _ _ c1 (Heap.get?_push_of_some _ e))
  have hT₈ : IsPair h₈ h₅.objs.size x y := hs₈.extBut _ _ (Nat.ne_of_gt hzlt) (hs₇.extBut _ _ (Nat.ne_of_gt hzlt) (Heap.get?_push_size _ rfl))
  have hz8 : h₈.objs.size = h₅.objs.size + 1 := by rw [hs₈.1, hs₇.1, Heap.size_push]
  rw [hsz] at hz₈ hT₈ hz8
  refine wpAny_pure ⟨_, rfl, ?_⟩
  show Q (.ref h₅.objs.size) _
  rw [hsz]
  exact hQ h₈ tk₄ x y hx hy hz₈ (up _ _ D.TOz hTO₅) (K1 h1₅ (c := z) (fun c o c1 e => up c o c1 e) (.inl rfl)) (K2 h2₅ (c := z) (fun c o c1 e => up c o c1 e) (.inl rfl)) hT₈ hz8 fun c o c1 c2 c3 c4 e => up c o c1 (hk₅ c o c1 c2 c3 c4 e)
theorem zip_endG {Q : Fin → Shared → Prop} (hh : A.handled = none) (D : ZAp z TI TO i1 i2 d1 d2) (C1 : ItC i1 d1 n1 v1 t1) (C2 : ItC i2 d2 n2 v2 t2)
    (hz : IsZip s.heap z TI TO .none) (hTI : IsPair s.heap TI (.ref i1) (.ref i2)) (hTO : IsPair s.heap TO a b) (h1 : t1 k s.heap) (h2 : t2 k s.heap) (hend : k = n1 ∨ (k < n1 ∧ k = n2))
    (hE : ∀ h' tk e, (∀ c o, c ≠ z → c ≠ TO → c ≠ i1 → c ≠ i2 → s.heap.get? c = some o → h'.get? c = some o) → (∃ o, h'.get? e = some o ∧ o.cls = .type "StopIteration") → E (.ref e) { s with heap := h', toks := tk }) :
    wpAny (model prog w) A (Builtin.«zip.__next__» ⟨[.ref z], []⟩) Q E s := by
  have dd1 : ∀ b ∈ d1, b ≠ z ∧ b ≠ TO ∧ b ≠ i1 ∧ b ≠ i2 := fun b h => D.dz b (List.mem_append_left _ h)
  have dd2 : ∀ b ∈ d2, b ≠ z ∧ b ≠ TO ∧ b ≠ i1 ∧ b ≠ i2 := fun b h => D.dz b (List.mem_append_right _ h)
  have K1 : ∀ {i h h' c}, t1 i h → Heap.ExtBut c h h' → c = z ∨ c = TO ∨ c = i2 → t1 i h' := fun {i h h' c} st hs hc => C1.keep i h h' st fun b o hb e => hs b o (by
    rcases hb with rfl | hb
    · rcases hc with rfl | rfl | rfl
      · exact D.i1z
      · exact D.TOi1.symm
      · exact D.i12
    · rcases hc with rfl | rfl | rfl
      · exact (dd1 b hb).1
      · exact (dd1 b hb).2.1
      · exact (dd1 b hb).2.2.2) e
  have K2 : ∀ {i h h' c}, t2 i h → Heap.ExtBut c h h' → c = z ∨ c = TO ∨ c = i1 → t2 i h' := fun {i h h' c} st hs hc => C2.keep i h h' st fun b o hb e => hs b o (by
    rcases hb with rfl | hb
    · rcases hc with rfl | rfl | rfl
      · exact D.i2z
      · exact D.TOi2.symm
      · exact D.i12.symm
    · rcases hc with rfl | rfl | rfl
      · exact (dd2 b hb).1
      · exact (dd2 b hb).2.1
      · exact (dd2 b hb).2.2.1) e
  show wpAny _ _ (field (.ref z) 2 >>= _) _ _ _
  refine wpAny_bind (wpAny_field hz rfl (x := .bool false) rfl ?_)
  show wpAny _ _ (field (.ref z) 3 >>= _) _ _ _
  refine wpAny_bind (wpAny_field hz rfl (x := .ref TI) rfl ?_)
  refine wpAny_bind (wpAny_seqItems hTI rfl ?_)
  show wpAny _ _ (Builtin.SmallTypes.ownedTupleIsFree (.ref z) >>= _) _ _ _
  refine wpAny_bind ?_
  unfold Builtin.SmallTypes.ownedTupleIsFree
  refine wpAny_bind (wpAny_field hz rfl (x := .none) rfl (wpAny_pure ?_))
  simp only [if_true]
  refine wpAny_bind (wpAny_rule ?_)
  refine wpAny_bind (wpAny_field hz rfl (x := .ref TO) rfl ?_)
  refine wpAny_bind (wpAny_setField_rec hz (by simp) fun h₁ hz₁ hs₁ => ?_)
  replace hz₁ : IsZip h₁ z TI TO .ellipsis := hz₁
  refine wpAny_bind ?_
  simp only [List.zipIdx_cons, List.zipIdx_nil, List.forIn_cons, List.forIn_nil]
  refine wpAny_bind (wpAny_bind (wpAny_onRaise ?_))
  show wpAny _ _ (Builtin.SmallTypes.nextOf (.ref i1) >>= _) _ _ _
  rcases hend with hk | ⟨l1, hk⟩
  · subst hk
    refine wpAny_bind (C1.stop prog w _ _ { s with heap := h₁ } _ hh (K1 h1 hs₁.extBut (.inl rfl)) fun h₂ e hs₂ he => ?_)
    obtain ⟨oe, hoe, hce⟩ := he
    have hz₂ : IsZip h₂ z TI TO .ellipsis := hs₂ _ _ D.i1z.symm hz₁
    have hez : e ≠ z := fun x => by subst x; rw [hz₂] at hoe; cases hoe; simp at hce
    refine wpAny_setField_rec hz₂ (by simp) fun h₃ _ hs₃ => hE h₃ s.toks e (fun c o c1 _ c3 _ x => hs₃.extBut _ _ c1 (hs₂ _ _ c3 (hs₁.extBut _ _ c1 x))) ⟨oe, hs₃.extBut _ _ hez hoe, hce⟩
  · subst hk
    refine wpAny_bind (C1.item prog w _ _ { s with heap := h₁ } _ _ l1 (K1 h1 hs₁.extBut (.inl rfl)) fun x h₂ tk₂ hx h1₂ hs₂ => wpAny_pure ?_)
    have hTO₂ : IsPair h₂ TO a b := hs₂.extBut _ _ D.TOi1 (hs₁.extBut _ _ D.TOz hTO)
    refine wpAny_bind (wpAny_seqItems hTO₂ rfl ?_)
    refine wpAny_bind (wpAny_updateSeq_pair hTO₂ fun h₃ hTO₃ hs₃ => ?_)
    refine wpAny_bind (wpAny_letGo (wpAny_pure ?_))
    refine wpAny_bind (wpAny_bind (wpAny_onRaise ?_))
    show wpAny _ _ (Builtin.SmallTypes.nextOf (.ref i2) >>= _) _ _ _
    refine wpAny_bind (C2.stop prog w _ _ { s with heap := h₃, toks := tk₂ } _ hh (K2 (K2 (K2 h2 hs₁.extBut (.inl rfl)) hs₂.extBut (.inr (.inr rfl))) hs₃.extBut (.inr (.inl rfl))) fun h₄ e hs₄ he => ?_)
    obtain ⟨oe, hoe, hce⟩ := he
    have hz₄ : IsZip h₄ z TI TO .ellipsis := hs₄ _ _ D.i2z.symm (hs₃.extBut _ _ D.TOz.symm (hs₂.extBut _ _ D.i1z.symm hz₁))
    have hez : e ≠ z := fun x => by subst x; rw [hz₄] at hoe; cases hoe; simp at hce
    refine wpAny_setField_rec hz₄ (by simp) fun h₅ _ hs₅ => hE h₅ tk₂ e (fun c o c1 c2 c3 c4 x => hs₅.extBut _ _ c1 (hs₄ _ _ c4 (hs₃.extBut _ _ c2 (hs₂.extBut _ _ c3 (hs₁.extBut _ _ c1 x))))) ⟨oe, hs₅.extBut _ _ hez hoe, hce⟩
theorem pyNext_zipG {Q : Option Value → Shared → Prop} (D : ZAp z TI TO i1 i2 d1 d2) (C1 : ItC i1 d1 n1 v1 t1) (C2 : ItC i2 d2 n2 v2 t2)
    (hz : IsZip s.heap z TI TO .none) (hTI : IsPair s.heap TI (.ref i1) (.ref i2)) (hTO : IsPair s.heap TO a b) (h1 : t1 k s.heap) (h2 : t2 k s.heap) (l1 : k < n1) (l2 : k < n2)
    (hQ : ∀ h' tk x y, v1 k x → v2 k y → IsZip h' z TI TO (rawInt s.heap.objs.size) → IsPair h' TO x y → t1 (k + 1) h' → t2 (k + 1) h' → IsPair h' s.heap.objs.size x y → h'.objs.size = s.heap.objs.size + 1 →
      (∀ c o, c ≠ z → c ≠ TO → c ≠ i1 → c ≠ i2 → s.heap.get? c = some o → h'.get? c = some o) → Q (some (.ref s.heap.objs.size)) { s with heap := h', toks := tk }) :
    wpAny (model prog w) A (pyNext (.ref z)) Q E s := by
  have hT : s.TypeIs (.ref z) "zip" := ⟨_, hz, rfl⟩
  unfold pyNext
  exact wpAny_bind (wpAny_attempt (wpAny_callSpecial?_slot (name := Str.ofString "__next__") hT F.slot_zip_next
    (wpAny_call_entry F.slot_zip_next hT F.entry_zip_next
      (zip_itemG D C1 C2 hz hTI hTO h1 h2 l1 l2 fun h' tk x y hx hy a1 a2 a3 a4 a5 a6 a7 => wpAny_pure (hQ h' tk x y hx hy a1 a2 a3 a4 a5 a6 a7)) (F.args_zip_next_1 _))))
theorem pyNext_zipG_end {Q : Option Value → Shared → Prop} (hh : A.handled = none) (D : ZAp z TI TO i1 i2 d1 d2) (C1 : ItC i1 d1 n1 v1 t1) (C2 : ItC i2 d2 n2 v2 t2)
    (hz : IsZip s.heap z TI TO .none) (hTI : IsPair s.heap TI (.ref i1) (.ref i2)) (hTO : IsPair s.heap TO a b) (h1 : t1 k s.heap) (h2 : t2 k s.heap) (hend : k = n1 ∨ (k < n1 ∧ k = n2))
    (hQ : ∀ h' tk, (∀ c o, c ≠ z → c ≠ TO → c ≠ i1 → c ≠ i2 → s.heap.get? c = some o → h'.get? c = some o) → Q none { s with heap := h', toks := tk }) : wpAny (model prog w) A (pyNext (.ref z)) Q E s := by
  have hT : s.TypeIs (.ref z) "zip" := ⟨_, hz, rfl⟩
  unfold pyNext
  refine wpAny_bind (wpAny_attempt (wpAny_callSpecial?_slot (name := Str.ofString "__next__") hT F.slot_zip_next
    (wpAny_call_entry F.slot_zip_next hT F.entry_zip_next (zip_endG hh D C1 C2 hz hTI hTO h1 h2 hend fun h' tk e hk he => ?_) (F.args_zip_next_1 _))))
  obtain ⟨o, ho, hc⟩ := he
  refine wpAny_bind (wpAny_isInstance (T := "StopIteration") (b := true) ⟨o, ho, hc⟩ isSubtype_stop ?_)
  exact wpAny_pure (hQ _ _ hk)
/-! ### a zip is made -/
/-- pyIter of u: one new object -/
structure Mki (u : Value) (o : Obj) (c : Heap → Prop) : Prop where
  run : ∀ (prog : Program) (w : World) (A : Around) (E : Value → Shared → Prop) (s : Shared) (Q : Value → Shared → Prop), c s.heap → Q (.ref s.heap.objs.size) { s with heap := s.heap.push o } → wpAny (model prog w) A (pyIter u) Q E s
  push : ∀ h o', c h → c (h.push o')
  nf : o.isFreed = false
theorem mki_str {x : Str} {t : Tok} : ∃ ty, (ty = "str_ascii_iterator" ∨ ty = "str_iterator") ∧ Mki (.str x t) { cls := .type ty, data := .fields #[.str x t, .int 0 0] } (fun _ => True) := by
  cases ha : x.cps.all (· < 128)
  · exact ⟨"str_iterator", .inr rfl, ⟨fun prog w A E s Q _ h => wpAny_pyIter_wide ha h, fun _ _ _ => trivial, rfl⟩⟩
  · exact ⟨"str_ascii_iterator", .inl rfl, ⟨fun prog w A E s Q _ h => wpAny_pyIter_ascii ha h, fun _ _ _ => trivial, rfl⟩⟩
theorem mki_list {l : Addr} {items : Array Value} : Mki (.ref l) { cls := .type "list_iterator", data := .fields #[.ref l, .int 0 0] } (fun h => h.IsList l items) :=
  ⟨fun prog w A E s Q c h => wpAny_pyIter_list c h, fun h o c => c.push o, rfl⟩
theorem mki_tup {l : Addr} {items : Array Value} : Mki (.ref l) { cls := .type "tuple_iterator", data := .fields #[.ref l, .int 0 0] } (fun h => h.IsTuple l items) :=
  ⟨fun prog w A E s Q c h => wpAny_pyIter_tuple c h, fun h o c => by
    obtain ⟨ob, e, r⟩ := c
    exact ⟨ob, Heap.get?_push_of_some _ e, r⟩, rfl⟩
abbrev zH2 (h : Heap) (o1 o2 : Obj) : Heap := (h.push o1).push o2
abbrev zH3 (h : Heap) (o1 o2 : Obj) : Heap := (zH2 h o1 o2).push { cls := .type "tuple", data := .seq #[.ref h.objs.size, .ref (h.push o1).objs.size] }
abbrev zH4 (h : Heap) (o1 o2 : Obj) : Heap := (zH3 h o1 o2).push { cls := .type "tuple", data := .seq #[.none, .none] }
abbrev zH5 (h : Heap) (o1 o2 : Obj) : Heap := (zH4 h o1 o2).push { cls := .type "zip", data := .fields #[.none, .bool false, .bool false, .ref (zH2 h o1 o2).objs.size, .ref (zH3 h o1 o2).objs.size] }
theorem meets_zipG {u1 u2 : Value} {o1 o2 : Obj} {c1 c2 : Heap → Prop} (m1 : Mki u1 o1 c1) (m2 : Mki u2 o2 c2) :
    Meets (Builtin.«zip.__new__» ⟨[.type "zip", u1, u2], []⟩) (fun _ R s => c1 s.heap ∧ c2 s.heap ∧ R (.ok (.ret (.ref (zH4 s.heap o1 o2).objs.size))) { s with heap := zH5 s.heap o1 o2 }) :=
  .of_wp fun prog w A R s h => by
    obtain ⟨hp, g, d, tk, os⟩ := s
    obtain ⟨hl1, hl2, h⟩ := h
    have hsub := sub_zip
    have hL2 : c2 (hp.push o1) := m2.push _ _ hl2
    wp_walk using m1.run _ _ _ _ _ _ hl1, m2.run _ _ _ _ _ _ hL2
    exact ⟨_, rfl, h⟩
end
end Dl
set_option Elab.async false
set_option linter.all false
set_option maxRecDepth 100000
set_option maxHeartbeats 4000000
set_option autoImplicit false
namespace Dl
open PySem PySem.Spec PyProof.Rows L2
theorem dep_ne {X : Cx} {pins : List (Addr × Obj)} {σ : L2.St} {H : Hp} {sh : Shared} {l b : Addr} {vs : List V} (I : Inv X pins σ H sh) (h : SqT X.K H l vs) (f : FpOk X pins H b) : l ≠ b := by
  rintro rfl
  rcases h with h | ⟨o, its, n, hk, _⟩
  · rcases h with h | ⟨o, h⟩ <;> (rw [f.1] at h; cases h)
  · have e := I.mod.kin l o hk
    have e0 := (I.ok.bs l o e).1
    rcases f.2.2.2.1 with q | q
    · exact I.ok.noex l o e q
    · exact absurd (Nat.lt_of_lt_of_le (Heap.lt_size e0) q) (Nat.lt_irrefl _)
/-- one side of a zip: the iterator at it, over the items ds -/
structure Src (K : PySem.W.Frag) (F : Hp) (it : Addr) (ds : List D) (st : Nat → Heap → Prop) : Prop where
  obj : ∀ i h, st i h → ∃ o, h.get? it = some o ∧ ∀ v, o.data ≠ .cell v
  keep : ∀ i h h', st i h → (∀ o, h.get? it = some o → h'.get? it = some o) → st i h'
  here : ∀ (X : Cx) (pins : List (Addr × Obj)) (σ : L2.St) (H : Hp) (s : Shared), X.K = K → Inv X pins σ H s → Same F H → ∃ (dep : List Addr) (val : Nat → Value → Prop) (c : Heap → Prop), c s.heap ∧ ItC it dep ds.length val (fun i h => st i h ∧ c h) ∧
    (∀ b ∈ dep, ∀ b', FpOk X pins H b' → b ≠ b') ∧ ∀ i x, val i x → ∃ v d, RelV v x ∧ ds[i]? = some d ∧ Rep K F v d
theorem src_str {K : PySem.W.Frag} {F : Hp} {it : Addr} {z : Str} {t : Tok} {ty : String} (hty : ty = "str_ascii_iterator" ∨ ty = "str_iterator") : Src K F it (chars z) (fun i h => h.IsStrIter it ty z t i) where
  obj := (itc_str hty).obj
  keep := fun i h h' st k => let ⟨o, ho, r⟩ := st; ⟨o, k o ho, r⟩
  here := fun X pins σ H s hK I sm => by
    have C := itc_str (it := it) (z := z) (t := t) hty
    refine ⟨[], fun i x => ∃ c u, z.cps[i]? = some c ∧ x = .str ⟨#[c]⟩ u, fun _ => True, trivial, ⟨fun i h st => C.obj i h st.1, fun i h h' st k => ⟨C.keep i h h' st.1 k, trivial⟩, ?_, ?_⟩, (fun b hb => nomatch hb), fun i x ⟨c, u, h1, h2⟩ => ⟨.str ⟨#[c]⟩, .str ⟨#[c]⟩, ⟨u, h2⟩, ?_, .str _⟩⟩
    · intro prog w A E s Q i hi st hq
      exact C.item prog w A E s Q i (by simpa [chars] using hi) st.1 fun x h' tk hv st' sb => hq x h' tk hv ⟨st', trivial⟩ sb
    · intro prog w A E s Q hh st he
      refine C.stop prog w A E s Q hh ?_ he
      have := st.1
      rwa [show (chars z).length = z.cps.size from by simp [chars]] at this
    · rw [chars, List.getElem?_map, Array.getElem?_toList, h1]; rfl
theorem src_tup {K : PySem.W.Frag} {F : Hp} {it l : Addr} {vs : List V} {ds : List D} (h1 : SqT K F l vs) (h2 : Reps K F vs ds) : Src K F it ds (fun i h => h.IsTupleIter it l i) where
  obj := fun i h ⟨o, e, _, d⟩ => ⟨o, e, fun v z => by rw [d] at z; cases z⟩
  keep := fun i h h' st k => st.at fun o e => k o e
  here := fun X pins σ H s hK I sm => by
    subst hK
    have h3 := same_sqT sm h1
    obtain ⟨its, rv, p, _⟩ := I.tuple h3
    have hl : its.length = ds.length := by rw [← h2.length, ← rv.length]
    have C := itc_tup (it := it) (l := l) (its := its)
    refine ⟨[l], fun i x => its[i]? = some x, fun h => h.IsTuple l its.toArray, p, ?_, fun b hb b' hf => ?_, fun i x hx => ?_⟩
    · rw [← hl]; exact C
    · rw [List.mem_singleton] at hb; subst hb; exact dep_ne I h3 hf
    · have hi := (List.getElem?_eq_some_iff.mp hx).1
      have hv : i < vs.length := by rw [rv.length]; exact hi
      obtain ⟨u, hu, ru⟩ := rv.get (List.getElem?_eq_getElem hv)
      rw [hx] at hu; cases hu
      obtain ⟨d, hd, rd⟩ := h2.get' (List.getElem?_eq_getElem hv)
      exact ⟨vs[i], d, ru, hd, rd⟩
theorem src_lst {K : PySem.W.Frag} {F : Hp} {it l : Addr} {vs : List V} {ds : List D} (h1 : F l = some (.lst vs)) (h2 : Reps K F vs ds) : Src K F it ds (fun i h => h.IsListIter it l i) where
  obj := fun i h ⟨o, e, _, d⟩ => ⟨o, e, fun v z => by rw [d] at z; cases z⟩
  keep := fun i h h' st k => st.at fun o e => k o e
  here := fun X pins σ H s hK I sm => by
    subst hK
    have h3 := sm _ _ h1
    obtain ⟨its, rv, p, _⟩ := I.list (SqL.of h3)
    have hl : its.length = ds.length := by rw [← h2.length, ← rv.length]
    have C := itc_list (it := it) (l := l) (its := its)
    refine ⟨[l], fun i x => its[i]? = some x, fun h => h.IsList l its.toArray, p.isList, ?_, fun b hb b' hf => ?_, fun i x hx => ?_⟩
    · rw [← hl]; exact C
    · rw [List.mem_singleton] at hb; subst hb
      rintro rfl
      rw [hf.1] at h3; cases h3
    · have hi := (List.getElem?_eq_some_iff.mp hx).1
      have hv : i < vs.length := by rw [rv.length]; exact hi
      obtain ⟨u, hu, ru⟩ := rv.get (List.getElem?_eq_getElem hv)
      rw [hx] at hu; cases hu
      obtain ⟨d, hd, rd⟩ := h2.get' (List.getElem?_eq_getElem hv)
      exact ⟨vs[i], d, ru, hd, rd⟩
/-- pairs of the items of both -/
def ItzG (K : PySem.W.Frag) (F : Hp) (ds es : List D) : It :=
  ⟨fun i H => Same F H ∧ i < ds.length ∧ i < es.length,
   fun i H v H' => ∃ T x y d e, v = .ref T ∧ H T = none ∧ H' = upd H T (.tup [x, y]) ∧ ds[i]? = some d ∧ es[i]? = some e ∧ Rep K F x d ∧ Rep K F y e,
   fun i H => Same F H ∧ (i = ds.length ∨ (i < ds.length ∧ i = es.length))⟩
theorem turn_zipG {P : Program} {w : World} {K : PySem.W.Frag} {F : Hp} {ds es : List D} {elts : List Expr} {kk : Nat} {tpos : Pos} {z TI TO i1 i2 : Addr} {st1 st2 : Nat → Heap → Prop} (hTIz : TI ≠ z) (hTOz : TO ≠ z) (hi1z : i1 ≠ z) (hi2z : i2 ≠ z) (hTITO : TI ≠ TO) (hTIi1 : TI ≠ i1) (hTIi2 : TI ≠ i2) (hTOi1 : TO ≠ i1) (hTOi2 : TO ≠ i2) (hi12 : i1 ≠ i2)
    (S1 : Src K F i1 ds st1) (S2 : Src K F i2 es st2) :
    Turn P w K (.Tuple elts kk tpos) (ItzG K F ds es) [z, TI, TO, i1, i2] z (fun i h => IsZip h z TI TO .none ∧ IsPair h TI (.ref i1) (.ref i2) ∧ (∃ x y, IsPair h TO x y) ∧ st1 i h ∧ st2 i h) where
  mem := by simp
  obj := fun i h st c hc => by
    obtain ⟨hz, hTI, ⟨x, y, hTO⟩, h1, h2⟩ := st
    have e' : c = z ∨ c = TI ∨ c = TO ∨ c = i1 ∨ c = i2 := by simpa using hc
    rcases e' with q | q | q | q | q
    · rw [q]; exact ⟨_, hz, fun v q => nomatch q⟩
    · rw [q]; exact ⟨_, hTI, fun v q => nomatch q⟩
    · rw [q]; exact ⟨_, hTO, fun v q => nomatch q⟩
    · rw [q]; exact S1.obj i h h1
    · rw [q]; exact S2.obj i h h2
  keep := fun i h h' st k => by
    obtain ⟨hz, hTI, ⟨x, y, hTO⟩, h1, h2⟩ := st
    exact ⟨k z (by simp) _ hz, k TI (by simp) _ hTI, ⟨x, y, k TO (by simp) _ hTO⟩, S1.keep i h h' h1 fun o q => k i1 (by simp) o q, S2.keep i h h' h2 fun o q => k i2 (by simp) o q⟩
  item := by
    intro X hP hw hK hc i pins s σ H E I hf st hg
    subst hP hw hK
    obtain ⟨hz, hTI, ⟨x0, y0, hTO⟩, h1, h2⟩ := st
    obtain ⟨sm, l1, l2⟩ := hg
    obtain ⟨dep1, val1, c1, hc1, C1, n1, r1⟩ := S1.here X pins σ H s rfl I sm
    obtain ⟨dep2, val2, c2, hc2, C2, n2, r2⟩ := S2.here X pins σ H s rfl I sm
    have Dz : ZAp z TI TO i1 i2 dep1 dep2 := ⟨hTIz, hTOz, hi1z, hi2z, hTITO, hTIi1, hTIi2, hTOi1, hTOi2, hi12, fun b hb => by
      have key : ∀ b', FpOk X pins H b' → b ≠ b' := fun b' hf' => (List.mem_append.mp hb).elim (fun q => n1 b q b' hf') fun q => n2 b q b' hf'
      exact ⟨key z (hf z (by simp)), key TO (hf TO (by simp)), key i1 (hf i1 (by simp)), key i2 (hf i2 (by simp))⟩⟩
    have hzl : z < s.heap.objs.size := Heap.lt_size hz
    refine pyNext_zipG Dz C1 C2 hz hTI hTO ⟨h1, hc1⟩ ⟨h2, hc2⟩ l1 l2 fun h' tk x y hx hy z' TO' h1' h2' hT hsz hk => ?_
    obtain ⟨v1, d1, rv1, hd1, rp1⟩ := r1 i x hx
    obtain ⟨v2, d2, rv2, hd2, rp2⟩ := r2 i y hy
    refine ⟨_, rfl, wpAny_letOwnedTupleGo_zip (s := { s with heap := h', toks := tk }) z' fun h'' z'' sb => ?_⟩
    have hT2 : h''.get? s.heap.objs.size = some { cls := .type "tuple", data := .seq #[x, y] } := (sb.2 _ (Nat.ne_of_gt hzl)).trans hT
    have new : ObjOk X.prog X.w (upd H s.heap.objs.size (.tup [v1, v2])) h'' s.heap.objs.size (.tup [v1, v2]) :=
      ⟨by show 2 ≤ sizeLine; decide, [x, y], .cons rv1 (.cons rv2 .nil), ⟨_, hT2, rfl, _, rfl⟩⟩
    have I1 : Inv X pins σ (upd H s.heap.objs.size (.tup [v1, v2])) { s with heap := h'', toks := tk } :=
      I.turnedNew (t' := tk) (ch := [z, TI, TO, i1, i2]) (fun c o hb q => (sb.2 c (fun q' => hb (by simp [q']))).trans (hk c o (fun q' => hb (by simp [q'])) (fun q' => hb (by simp [q'])) (fun q' => hb (by simp [q'])) (fun q' => hb (by simp [q'])) q)) hf (Nat.le_refl _) new
    refine ⟨.ref s.heap.objs.size, _, I1, rfl, ⟨_, v1, v2, d1, d2, rfl, I.hok.fresh (Nat.le_refl _), rfl, hd1, hd2, rp1, rp2⟩, ⟨z'', ?_, ⟨x, y, ?_⟩, ?_, ?_⟩, fun c hcm => ?_⟩
    · exact (sb.2 _ hTIz).trans (hk _ _ hTIz hTITO hTIi1 hTIi2 hTI)
    · exact (sb.2 _ hTOz).trans TO'
    · exact S1.keep _ _ _ h1'.1 fun o q => (sb.2 _ hi1z).trans q
    · exact S2.keep _ _ _ h2'.1 fun o q => (sb.2 _ hi2z).trans q
    · have hlt : c < s.heap.objs.size := by
        have e' : c = z ∨ c = TI ∨ c = TO ∨ c = i1 ∨ c = i2 := by simpa using hcm
        rcases e' with q | q | q | q | q
        · rw [q]; exact hzl
        · rw [q]; exact Heap.lt_size hTI
        · rw [q]; exact Heap.lt_size hTO
        · rw [q]; obtain ⟨_, e1, _⟩ := S1.obj i _ h1; exact Heap.lt_size e1
        · rw [q]; obtain ⟨_, e2, _⟩ := S2.obj i _ h2; exact Heap.lt_size e2
      rw [upd_ne (Nat.ne_of_lt hlt)]
      exact (hf c hcm).1
  done := by
    intro X hP hw hK hc i pins s σ H E I hf st hg
    subst hP hw hK
    obtain ⟨hz, hTI, ⟨x0, y0, hTO⟩, h1, h2⟩ := st
    obtain ⟨sm, hend⟩ := hg
    obtain ⟨dep1, val1, c1, hc1, C1, n1, r1⟩ := S1.here X pins σ H s rfl I sm
    obtain ⟨dep2, val2, c2, hc2, C2, n2, r2⟩ := S2.here X pins σ H s rfl I sm
    have Dz : ZAp z TI TO i1 i2 dep1 dep2 := ⟨hTIz, hTOz, hi1z, hi2z, hTITO, hTIi1, hTIi2, hTOi1, hTOi2, hi12, fun b hb => by
      have key : ∀ b', FpOk X pins H b' → b ≠ b' := fun b' hf' => (List.mem_append.mp hb).elim (fun q => n1 b q b' hf') fun q => n2 b q b' hf'
      exact ⟨key z (hf z (by simp)), key TO (hf TO (by simp)), key i1 (hf i1 (by simp)), key i2 (hf i2 (by simp))⟩⟩
    exact pyNext_zipG_end (I.ok.hd hc) Dz C1 C2 hz hTI hTO ⟨h1, hc1⟩ ⟨h2, hc2⟩ hend fun h' tk hk => ⟨rfl, I.turnedL (t' := tk) (ch := [z, TI, TO, i1, i2]) (fun c o hb q =>
      hk c o (fun q' => hb (by simp [q'])) (fun q' => hb (by simp [q'])) (fun q' => hb (by simp [q'])) (fun q' => hb (by simp [q'])) q) hf⟩
  self := fun A i s Q E st h => wpAny_pyIter_zip st.1 h
/-- what may stand in a zip: its items -/
inductive ZSrc : D → List D → Prop
  | str (z) : ZSrc (.str z) (chars z)
  | tup (ds) : ZSrc (.tup ds) ds
  | lst (ds) : ZSrc (.lst ds) ds
theorem zsrc_here {X : Cx} {pins : List (Addr × Obj)} {σ : L2.St} {H F : Hp} {sh : Shared} {d : D} {ds : List D} {v : V} {u : Value} (zs : ZSrc d ds) (I : Inv X pins σ H sh) (sm : Same F H) (rp : Rep X.K F v d) (ru : RelV v u) :
    ∃ (o : Obj) (c : Heap → Prop), Mki u o c ∧ c sh.heap ∧ ∀ it : Addr, ∃ st, Src X.K F it ds st ∧ ∀ h : Heap, h.get? it = some o → st 0 h := by
  cases zs with
  | str z =>
    cases rp
    obtain ⟨t, rfl⟩ := ru
    obtain ⟨ty, hty, m⟩ := mki_str (x := z) (t := t)
    exact ⟨_, _, m, trivial, fun it => ⟨_, src_str hty, fun h e => ⟨_, e, rfl, rfl⟩⟩⟩
  | tup ds =>
    obtain ⟨a, vs, rfl, h1, h2⟩ := rep_tup rp
    cases ru
    obtain ⟨its, _, p, _⟩ := I.tuple (same_sqT sm h1)
    exact ⟨_, _, mki_tup (l := a) (items := its.toArray), p, fun it => ⟨_, src_tup h1 h2, fun h e => ⟨_, e, rfl, rfl⟩⟩⟩
  | lst ds =>
    obtain ⟨a, vs, rfl, h1, h2⟩ := rep_lst rp
    cases ru
    obtain ⟨its, _, p, _⟩ := I.list (SqL.of (sm _ _ h1))
    exact ⟨_, _, mki_list (l := a) (items := its.toArray), p.isList, fun it => ⟨_, src_lst h1 h2, fun h e => ⟨_, e, rfl, rfl⟩⟩⟩
theorem yl_zip {K : PySem.W.Frag} {F : Hp} {ds es : List D} : Yl K (ItzG K F ds es) F (ds.zipWith (fun a b => .tup [a, b]) es) := by
  refine ⟨fun i H hi h => ⟨h, ?_⟩, fun H h => ⟨h, ?_⟩, fun i H x H' hi h y => ?_⟩
  · rw [List.length_zipWith] at hi; omega
  · rw [List.length_zipWith]; omega
  · obtain ⟨T, a, b, d, e, h1, h2, h3, h4, h5, h6, h7⟩ := y
    exact ⟨.tup [d, e], by rw [List.getElem?_zipWith, h4, h5], .inr ⟨T, [a, b], [d, e], h1, h2, h3, rfl, .cons h6 (.cons h7 .nil)⟩⟩
theorem nn {a b c : Nat} (h : b ≠ c) : (a + b : Nat) ≠ a + c := fun z => h (Nat.add_left_cancel z)
theorem n0 {a c : Nat} (h : 0 ≠ c) : (a : Nat) ≠ a + c := fun z => h (Nat.add_left_cancel (n := a) (by rw [Nat.add_zero]; exact z))
theorem call_zipG {prog : Program} {w : World} {A : Around} {E : Value → Shared → Prop} {s : Shared} {u1 u2 : Value} {o1 o2 : Obj} {c1 c2 : Heap → Prop} (m1 : Mki u1 o1 c1) (m2 : Mki u2 o2 c2) {Q : Value → Shared → Prop} (hl1 : c1 s.heap) (hl2 : c2 s.heap)
    (h : ∀ h', IsZip h' (s.heap.objs.size + 4) (s.heap.objs.size + 2) (s.heap.objs.size + 3) .none → IsPair h' (s.heap.objs.size + 2) (.ref s.heap.objs.size) (.ref (s.heap.objs.size + 1)) →
      IsPair h' (s.heap.objs.size + 3) .none .none → (o1.isFreed = false → h'.get? s.heap.objs.size = some o1) → (o2.isFreed = false → h'.get? (s.heap.objs.size + 1) = some o2) → h'.objs.size = s.heap.objs.size + 5 →
      (∀ c o, s.heap.get? c = some o → h'.get? c = some o) → Q (.ref (s.heap.objs.size + 4)) { s with heap := h' }) :
    wpAny (model prog w) A (call (.type "zip") [u1, u2]) Q E s := by
  refine callType_new F.called_zip (by decide) (F.typeCall_zip_2 _ _) (F.newCall_zip_2 _ _) (fun obj => F.args_object_init_3 obj _ _) F.entry_zip_new
    (meets_zipG m1 m2) ⟨hl1, hl2, ?_⟩
  have z1 : (s.heap.push o1).objs.size = s.heap.objs.size + 1 := Heap.size_push ..
  have z2 : (zH2 s.heap o1 o2).objs.size = s.heap.objs.size + 2 := by rw [Heap.size_push, z1]
  have z3 : (zH3 s.heap o1 o2).objs.size = s.heap.objs.size + 3 := by rw [Heap.size_push, z2]
  have z4 : (zH4 s.heap o1 o2).objs.size = s.heap.objs.size + 4 := by rw [Heap.size_push, z3]
  have z5 : (zH5 s.heap o1 o2).objs.size = s.heap.objs.size + 5 := by rw [Heap.size_push, z4]
  have g5 : (zH5 s.heap o1 o2).get? (zH4 s.heap o1 o2).objs.size = some _ := Heap.get?_push_size _ rfl
  have g4 : (zH5 s.heap o1 o2).get? (zH3 s.heap o1 o2).objs.size = some _ := Heap.get?_push_of_some _ (Heap.get?_push_size _ rfl)
  have g3 : (zH5 s.heap o1 o2).get? (zH2 s.heap o1 o2).objs.size = some _ := Heap.get?_push_of_some _ (Heap.get?_push_of_some _ (Heap.get?_push_size _ rfl))
  have g2 : o2.isFreed = false → (zH5 s.heap o1 o2).get? (s.heap.push o1).objs.size = some _ := fun hf => Heap.get?_push_of_some _ (Heap.get?_push_of_some _ (Heap.get?_push_of_some _ (Heap.get?_push_size _ hf)))
  have g1 : o1.isFreed = false → (zH5 s.heap o1 o2).get? s.heap.objs.size = some _ := fun hf => Heap.get?_push_of_some _ (Heap.get?_push_of_some _ (Heap.get?_push_of_some _ (Heap.get?_push_of_some _ (Heap.get?_push_size _ hf))))
  show _ ∧ _
  rw [z2, z3, z4] at g5
  rw [z1, z2] at g3
  rw [z3] at g4
  rw [z1] at g2
  rw [z4]
  exact ⟨⟨_, g5, rfl⟩, h _ g5 g3 g4 g1 g2 z5 fun c o x => Heap.get?_push_of_some _ (Heap.get?_push_of_some _ (Heap.get?_push_of_some _ (Heap.get?_push_of_some _ (Heap.get?_push_of_some _ x))))⟩
section
variable {X : Cx} {N : En} {W : WX} {n : Nat} {δ : List (Option S)} {μ μ1 : List M} {e e2 : Expr} {d1 d2 : D} {ds es : List D} {elts : List Expr} {kk : Nat} {p pos tpos : Pos}
theorem di_zip (g : Go X N W n) (ha : DA X N W δ μ [e, e2] [.p d1, .p d2] μ1) (z1 : ZSrc d1 ds) (z2 : ZSrc d2 es) (hm : X.mg "zip" = none) (hg : Gl X "zip" := by rfl)
    (hs : starEach [e, e2] X.env = (false, eval e X.env) :: starEach [e2] X.env := by rfl) (hpl : (backTo pos (starEach [e2] X.env)).any (·.1) = false := by rfl) :
    DI X N W δ μ (.Tuple elts kk tpos) (.Call (.Name "zip" p) [e, e2] [] pos) (ds.zipWith (fun a b => .tup [a, b]) es) μ1 := by
  refine ⟨fun pins s σ H Rk I ⟨F, A, R0, k⟩ => ?_⟩
  refine Call_ (ld_blt I hg hm PyProof.Rows.boot_zip (PyProof.Rows.callWith_type1 (thn (ha.run pos pins s σ H (fun vs H' => ∃ F' A', Same F F' ∧ A <+: A' ∧ Rl N F' A' H' σ δ μ1 ∧ RepSs N.K F' A' vs [.p d1, .p d2]) I ⟨F, A, R0, fun vs F' A' H' h1 h2 h3 h4 => ⟨F', A', h1, h2, h3, h4⟩⟩) fun us s1 ⟨vs, H1, I1, r1, F1, A1, e1, p1, R1, rv⟩ => ?_) hs hpl))
  obtain ⟨v, u, rfl, rp1, rp2⟩ := two_of rv
  have hK := g.hK
  rw [hK] at rp1 rp2
  cases r1 with
  | cons ru1 rr =>
    cases rr with
    | cons ru2 rr =>
      cases rr
      obtain ⟨o1, c1, m1, h1, q1⟩ := zsrc_here z1 I1 R1.rc.sub (show Rep X.K F1 v d1 from rp1) ru1
      obtain ⟨o2, c2, m2, h2, q2⟩ := zsrc_here z2 I1 R1.rc.sub (show Rep X.K F1 u d2 from rp2) ru2
      refine call_zipG m1 m2 h1 h2 fun h' hz hTI hTO f1 f2 hsz hk => wpAny_pyIter_zip hz ?_
      have I2 : Inv X pins σ H1 { s1 with heap := h' } := I1.kept (t' := s1.toks) hk
      obtain ⟨st1, S1, b1⟩ := q1 s1.heap.objs.size
      obtain ⟨st2, S2, b2⟩ := q2 (s1.heap.objs.size + 1)
      have g1 := f1 m1.nf
      have g2 := f2 m2.nf
      have st10 := b1 h' g1
      have st20 := b2 h' g2
      have T := turn_zipG (P := X.prog) (w := X.w) (K := X.K) (F := F1) (ds := ds) (es := es) (elts := elts) (kk := kk) (tpos := tpos) (z := s1.heap.objs.size + 4) (TI := s1.heap.objs.size + 2) (TO := s1.heap.objs.size + 3) (i1 := s1.heap.objs.size) (i2 := s1.heap.objs.size + 1)
        (nn (by decide)) (nn (by decide)) (n0 (by decide)) (nn (by decide)) (nn (by decide)) (n0 (by decide)).symm (nn (by decide)) (n0 (by decide)).symm (nn (by decide)) (n0 (by decide)) S1 S2
      refine ⟨s1.heap.objs.size + 4, [s1.heap.objs.size + 4, s1.heap.objs.size + 2, s1.heap.objs.size + 3, s1.heap.objs.size, s1.heap.objs.size + 1], _, _, H1, rfl, I2, T, ⟨hz, hTI, ⟨_, _, hTO⟩, st10, st20⟩, fun c hcm => ?_, ?_⟩
      · have e' : c = s1.heap.objs.size + 4 ∨ c = s1.heap.objs.size + 2 ∨ c = s1.heap.objs.size + 3 ∨ c = s1.heap.objs.size ∨ c = s1.heap.objs.size + 1 := by simpa using hcm
        have hle : s1.heap.objs.size ≤ c := by
          rcases e' with z | z | z | z | z
          · rw [z]; exact Nat.le_add_right _ _
          · rw [z]; exact Nat.le_add_right _ _
          · rw [z]; exact Nat.le_add_right _ _
          · rw [z]; exact Nat.le_refl _
          · rw [z]; exact Nat.le_add_right _ _
        exact I1.fpOk hle (I1.hok.fresh hle)
      · have y := yl_zip (K := X.K) (F := F1) (ds := ds) (es := es)
        rw [← hK] at y ⊢
        exact k _ F1 A1 H1 e1 p1 R1 y
end
end Dl
set_option Elab.async false
set_option linter.all false
set_option maxRecDepth 100000
set_option maxHeartbeats 4000000
set_option autoImplicit false
namespace Dl
open PySem PySem.Spec PyProof.Rows L2
/-! ## isinstance -/
structure ClsI (K : PySem.W.Frag) (C : Addr) : Prop where
  cl : Cls K C
  ha : PySem.W.findIn K (.ref C) "__class__" = some (some (.builtin "object.__class__"))
  hn : PySem.W.specialIn K (.builtin "object.__class__") "__get__" = some (some (.builtin "getset_descriptor.__get__"))
  ht : PySem.W.takesIn K (.builtin "object.__class__") = some true
  hm : PySem.W.mroIn K C (.type "object") = some true
inductive TyI (K : PySem.W.Frag) : D → Value → Prop
  | non : TyI K .non (.type "NoneType")
  | bl (b) : TyI K (.bl b) (.type "bool")
  | int (i) : TyI K (.int i) (.type "int")
  | str (z) : TyI K (.str z) (.type "str")
  | tup (ds) : TyI K (.tup ds) (.type "tuple")
  | lst (ds) : TyI K (.lst ds) (.type "list")
  | dic (ks ds) : TyI K (.dic ks ds) (.type "dict")
  | ins (C ns ds) : ClsI K C → TyI K (.ins C ns ds) (.ref C)
inductive ClsD : D → Value → Prop
  | ty (n) : ClsD (.ty n) (.type n)
  | adr (C) : ClsD (.adr C) (.ref C)
theorem tyX_of {K : PySem.W.Frag} {F H : Hp} {v : V} {d : D} {t : Value} (sm : Same F H) (ty : TyI K d t) (rp : Rep K F v d) : TyX K H v t := by
  cases ty with
  | non => cases rp; exact .base .non
  | bl b => cases rp; exact .base (.bl b)
  | int b => cases rp; exact .base (.int b)
  | str b => cases rp; exact .base (.str b)
  | tup ds =>
    obtain ⟨a, vs, rfl, h1, _⟩ := rep_tup rp
    rcases same_sqT sm h1 with (h | ⟨o, h⟩) | ⟨o, its, n, hk, hc, _⟩
    · exact .base (.tup h)
    · exact .fTuple h
    · exact .kTuple hk hc
  | lst ds =>
    obtain ⟨a, vs, rfl, h1, _⟩ := rep_lst rp
    exact .base (.lst (sm _ _ h1))
  | dic ks ds =>
    generalize hd : D.dic ks ds = d' at rp
    cases rp with
    | dic h1 h2 => exact .base (.dK (sm _ _ h1))
    | _ => cases hd
  | ins C ns ds c =>
    obtain ⟨a, dx, fs, rfl, h1, _⟩ := rep_ins rp
    exact .base (.ins (sm _ _ h1) c.cl c.ha c.hn c.ht c.hm)
section
variable {X : Cx} {N : En} {W : WX} {n : Nat} {δ δ' δ1 δ2 : List (Option S)} {μ μ' μ1 μ2 μ3 : List M} {e a b c o : Expr} {es : List Expr} {ss : List S} {pos p apos : Pos} {d : D} {s s1 s2 : S} {r : Rx} {R : Rel} {k : Nat} {x m f : Str} {dd : List D} {C : Addr}
theorem c_isi (g : Go X N W n) {d c : D} {t u : Value} {q : Bool} (ty : TyI X.K d t) (cl : ClsD c u) (h : PySem.W.kitOne X.K t u = some q) : CallOk X N W (.builtin "isinstance") μ [.p d, .p c] (.v (.p (.bl q))) μ :=
  ⟨_, call_isi, fun σ δ F A H vs Q R rv k => by
    obtain ⟨v, w, rfl, h1, h2⟩ := two_of rv
    have hK := g.hK
    have h1' : Rep X.K F v d := by rw [← hK]; exact h1
    have h2' : Rep X.K F w c := by rw [← hK]; exact h2
    refine ⟨v, w, t, u, q, rfl, ?_, tyX_of R.rc.sub ty h1', h, k.here R (.bl _)⟩
    cases cl with
    | ty n => cases h2'; exact .ty n
    | adr C => cases h2'; exact .own C⟩
/-- a builtin type by its name -/
theorem de_ty {x : Str} {T : String} (hm : X.mg x = none) (hv : bootBuiltins x = some (.type T)) (hg : Gl X x := by rfl) (hn : x ≠ "__name__" := by decide) (hd : (x == ("__debug__" : Str)) = false := by decide) : DE X N W δ μ (.Name x pos) (.v (.p (.ty T))) μ :=
  de_c (pe_bltn (v := .ty T) hg hm hv rfl hn hd) fun _ _ => .ty T
/-! ## chains -/
theorem de_chn {op op' : CmpOp} {s3 : S} {k k' : Bool} (ha : DE X N W δ μ a (.v s1) μ1) (hb : DE X N W δ μ1 b (.v s2) μ2) (h : OpOk X N W (compareOp op) μ2 s1 s2 (.v (.p (.bl k))) μ2)
    (hc : k = true → DE X N W δ μ2 c (.v s3) μ2) (h' : k = true → OpOk X N W (compareOp op') μ2 s2 s3 (.v (.p (.bl k'))) μ2) (hm : lastMarks [op, op'] [b, c] = false := by with_unfolding_all rfl) : DE X N W δ μ (.Compare a [op, op'] [b, c] pos) (.v (.p (.bl (k && k')))) μ2 := by
  obtain ⟨rr, ho, hr⟩ := h
  cases k with
  | false =>
    refine PE.imp (pe_chain (op' := op') (r' := fun _ _ _ _ => False) ho (fun _ _ _ _ _ _ _ _ _ _ _ _ z => z.elim) ha hb (pe_no (X := X) (e := c)) hm) fun σ H Q ⟨F, A, R, q⟩ => ⟨F, A, R, fun x F1 A1 H1 e1 p1 R1 rx => ⟨F1, A1, R1, fun y F2 A2 H2 e2 p2 R2 ry => hr σ δ F2 A2 H2 x y _ R2 (rx.mono e2 p2) ry fun v F3 A3 H3 e3 p3 R3 rv => ?_⟩⟩
    have rv' : Rep N.K F3 v (.bl false) := rv
    cases rv'
    exact ⟨false, rfl, iteF (q _ F3 A3 H3 ((e1.trans e2).trans e3) ((p1.trans p2).trans p3) R3 (.bl _))⟩
  | true =>
    obtain ⟨rr', ho', hr'⟩ := h' rfl
    refine PE.imp (pe_chain ho ho' ha hb (hc rfl) hm) fun σ H Q ⟨F, A, R, q⟩ => ⟨F, A, R, fun x F1 A1 H1 e1 p1 R1 rx => ⟨F1, A1, R1, fun y F2 A2 H2 e2 p2 R2 ry => hr σ δ F2 A2 H2 x y _ R2 (rx.mono e2 p2) ry fun v F3 A3 H3 e3 p3 R3 rv => ?_⟩⟩
    have rv' : Rep N.K F3 v (.bl true) := rv
    cases rv'
    exact ⟨true, rfl, iteT ⟨F3, A3, R3, fun z F4 A4 H4 e4 p4 R4 rz => hr' σ δ F4 A4 H4 y z Q R4 ((ry.mono e3 p3).mono e4 p4) rz (EndE.to (((e1.trans e2).trans e3).trans e4) (((p1.trans p2).trans p3).trans p4) q)⟩⟩
theorem dt_chn {op op' : CmpOp} {s3 : S} {k k' : Bool} (ha : DE X N W δ μ a (.v s1) μ1) (hb : DE X N W δ μ1 b (.v s2) μ2) (h : OpOk X N W (compareOp op) μ2 s1 s2 (.v (.p (.bl k))) μ2)
    (hc : k = true → DE X N W δ μ2 c (.v s3) μ2) (h' : k = true → OpOk X N W (compareOp op') μ2 s2 s3 (.v (.p (.bl k'))) μ2) (hm : lastMarks [op, op'] [b, c] = false := by with_unfolding_all rfl) : DT X N W δ μ (.Compare a [op, op'] [b, c] pos) (k && k') μ2 := by
  obtain ⟨rr, ho, hr⟩ := h
  cases k with
  | false =>
    refine PT.imp (pt_chain (op' := op') (r' := fun _ _ _ _ => False) ho (fun _ _ _ _ _ _ _ _ _ _ _ _ z => z.elim) ha hb (pe_no (X := X) (e := c)) hm) fun σ H Q ⟨F, A, R, q⟩ => ⟨F, A, R, fun x F1 A1 H1 e1 p1 R1 rx => ⟨F1, A1, R1, fun y F2 A2 H2 e2 p2 R2 ry => hr σ δ F2 A2 H2 x y _ R2 (rx.mono e2 p2) ry fun v F3 A3 H3 e3 p3 R3 rv => ?_⟩⟩
    have rv' : Rep N.K F3 v (.bl false) := rv
    cases rv'
    exact ⟨false, rfl, iteF ⟨false, rfl, q F3 A3 H3 ((e1.trans e2).trans e3) ((p1.trans p2).trans p3) R3⟩⟩
  | true =>
    obtain ⟨rr', ho', hr'⟩ := h' rfl
    refine PT.imp (pt_chain ho ho' ha hb (hc rfl) hm) fun σ H Q ⟨F, A, R, q⟩ => ⟨F, A, R, fun x F1 A1 H1 e1 p1 R1 rx => ⟨F1, A1, R1, fun y F2 A2 H2 e2 p2 R2 ry => hr σ δ F2 A2 H2 x y _ R2 (rx.mono e2 p2) ry fun v F3 A3 H3 e3 p3 R3 rv => ?_⟩⟩
    have rv' : Rep N.K F3 v (.bl true) := rv
    cases rv'
    exact ⟨true, rfl, iteT ⟨F3, A3, R3, fun z F4 A4 H4 e4 p4 R4 rz => hr' σ δ F4 A4 H4 y z _ R4 ((ry.mono e3 p3).mono e4 p4) rz (EndE.bool fun F' A' H' e' p' R' => q F' A' H' ((((e1.trans e2).trans e3).trans e4).trans e') ((((p1.trans p2).trans p3).trans p4).trans p') R')⟩⟩
/-! ## written dicts with text keys -/
theorem de_kdIx {es : Array DictEntry} {m : Nat} {z : Str} {ad : Addr} {u : Value} (Dk : KDict X.K X.w ad es m) (ha : DE X N W δ μ a (.v (.p (.adr ad))) μ1) (hb : DE X N W δ μ1 b (.v (.p (.str z))) μ2) (h : PySem.W.nsIn X.K ad z = some (some u)) {v : V} (ru : RelV v u) (rp : ∀ K F, Rep K F v d) (hs : PlainIx b := by exact fun _ _ => rfl) :
    DE X N W δ μ (.Subscript a b pos) (.v (.p d)) μ2 := by
  refine ⟨fun pins s σ H Q I ⟨F, A, R0, q⟩ => ?_⟩
  refine Subscript_ (two_then ha hb I R0 (fn := fun v u => subscriptTail a b v u) fun v' u' s3 x y H2 F2 A2 I2 rx ry e2 p2 R2 h1 h2 => ?_)
  cases rs_adr h1
  cases rs_str h2
  cases rx
  obtain ⟨t, rfl⟩ := ry
  refine tail_any (kd_type Dk I2) PySem.F.slot_dict_getitem.lookup (op_item_kd Dk pins s3 σ H2 (.ref ad) (.str z) (.ref ad) (.str z t) Q I2 rfl ⟨t, rfl⟩ ⟨z, u, v, rfl, rfl, h, ru, q v F2 A2 H2 e2 p2 R2 (rp _ _)⟩) (by first | exact hs _ _ | with_unfolding_all rfl)
theorem de_kdGet {es : Array DictEntry} {m : Nat} {z : Str} {ad : Addr} {dflt : D} {u : Option Value} {e1 e2 : Expr} (Dk : KDict X.K X.w ad es m) (ho : DE X N W δ μ o (.v (.p (.adr ad))) μ1) (h1 : DE X N W δ μ1 e1 (.v (.p (.str z))) μ2) (h2 : DE X N W δ μ2 e2 (.v (.p dflt)) μ3) (h : PySem.W.nsIn X.K ad z = some u)
    (hd : match u with | some u => ∃ v, RelV v u ∧ ∀ K F, Rep K F v d | none => d = dflt) (mm : M2 X o "get" apos e1 e2 pos) : DE X N W δ μ (.Call (.Attribute o "get" apos) [e1, e2] [] pos) (.v (.p d)) μ3 := by
  refine ⟨fun pins s σ H Q I ⟨F, A, R0, q⟩ => ?_⟩
  refine wpAny_Call_method mm.base mm.few mm.line PySem.F.plainAttrs_dict PySem.F.slot_dict_get PySem.F.type_dict_get (thn (ho.run pins s σ H (fun v H' => ∃ F' A', Same F F' ∧ A <+: A' ∧ Rl N F' A' H' σ δ μ1 ∧ RepS N.K F' A' v (.p (.adr ad))) I ⟨F, A, R0, fun v F' A' H' h1 h2 h3 h4 => ⟨F', A', h1, h2, h3, h4⟩⟩) fun uo s1 ⟨x, H1, I1, rx, F1, A1, e1', p1', R1, h4⟩ => ?_)
  cases rs_adr h4
  obtain rfl : uo = Value.ref ad := rx
  refine ⟨kd_type Dk I1, fun b q => ?_, ?_⟩
  · cases q
    exact ⟨_, I1.kIn _ _ Dk.at_, rfl⟩
  rw [mm.trees]
  refine Calls.callWith_builtin rfl (Calls.evalArgs_plain (Calls.spliced_cons (thn (h1.run pins s1 σ H1 (fun v H' => ∃ F' A', Same F1 F' ∧ A1 <+: A' ∧ Rl N F' A' H' σ δ μ2 ∧ RepS N.K F' A' v (.p (.str z))) I1 ⟨F1, A1, R1, fun v F' A' H' h1 h2 h3 h4 => ⟨F', A', h1, h2, h3, h4⟩⟩) fun iv s2 ⟨y, H2, I2, ry, F2, A2, e2', p2', R2, h5⟩ =>
    Calls.spliced_cons (thn (h2.run pins s2 σ H2 (fun v H' => ∃ F' A', Same F2 F' ∧ A2 <+: A' ∧ Rl N F' A' H' σ δ μ3 ∧ RepS N.K F' A' v (.p dflt)) I2 ⟨F2, A2, R2, fun v F' A' H' h1 h2 h3 h4 => ⟨F', A', h1, h2, h3, h4⟩⟩) fun fv s3 ⟨w, H3, I3, rw', F3, A3, e3', p3', R3, h6⟩ => Calls.spliced_nil ?_))))
  cases rs_str h5
  obtain ⟨t, rfl⟩ := ry
  have mo := PySem.W.mapOf_K (prog := X.prog) (w := X.w) I3.kIn Dk.at_ Dk.lit
  refine call_meetsIn PySem.F.slot_dict_get (kd_type Dk I3) PySem.F.entry_dict_get (PySem.F.args_dict_get_3 _ _ _) (meets_dict_get_default (PySem.strKind X.prog X.w) ad (PySem.strKind_is X.prog X.w z t) Dk.low fv) ⟨_, mo, ?_⟩
  rw [PySem.W.find_K Dk.at_ h]
  cases u with
  | some u0 =>
    obtain ⟨v0, r0, rp⟩ := hd
    exact ⟨v0, H3, I3.tok _, r0, q v0 F3 A3 H3 ((e1'.trans e2').trans e3') ((p1'.trans p2').trans p3') R3 (rp _ _)⟩
  | none =>
    have hd' : d = dflt := hd
    subst hd'
    exact ⟨w, H3, I3.tok _, rw', q w F3 A3 H3 ((e1'.trans e2').trans e3') ((p1'.trans p2').trans p3') R3 h6⟩
end
end Dl
set_option Elab.async false
set_option linter.all false
set_option maxRecDepth 100000
set_option maxHeartbeats 4000000
set_option autoImplicit false
namespace Dl
open PySem PySem.Spec PyProof.Rows L2
/-! ## own errors that keep their only argument -/
/-- what __init__ of such a class does with an exception that is being made -/
def spErr (K : PySem.W.Frag) : Sp := fun vs H Q _ => ∃ (a C : Addr) (y : V), vs = [.ref a, y] ∧ OexC K C ∧ PySem.W.findIn K (.ref C) "value" = some none ∧ H a = some (exo a C none) ∧
  ∀ dx, H dx = none → dx ≠ a → Q .non (upd (upd H dx (exd dx [("value", y)])) a (exo a C (some dx)))
/-- an own error class of the text, by its name -/
structure Ce (P : Program) (w : World) (K : PySem.W.Frag) (mg : Str → Option Value) (base : Heap) (k : Nat) (C : Addr) (x : Str) : Prop where
  at_ : mg x = some (.ref C)
  oc : OexC K C
  nv : PySem.W.findIn K (.ref C) "value" = some none
  ex : ∃ (f : Addr) (fd : FuncData) (ps : List Str), FnOk P w K mg base (L2.CX P w) k f fd ps (spErr K) ∧ PySem.W.findIn K (.ref C) "__init__" = some (some (.ref f)) ∧ PySem.W.typeIn K (.ref f) = some (.type "function") ∧ Binds K fd ps []
section
variable {X : Cx} {N : En} {W : WX} {n : Nat} {δ δ' δ1 δ2 : List (Option S)} {μ μ' μ1 μ2 μ3 : List M} {e a b c o : Expr} {es : List Expr} {ss : List S} {pos p apos : Pos} {d : D} {s s1 s2 : S} {r : Rx} {R : Rel} {k : Nat} {x m f : Str} {dd : List D} {C : Addr}
theorem ds_raise (g : Go X N W n) (ce : Ce X.prog X.w X.K X.mg X.base k C x) (ha : DE X N W δ μ e (.v (.p d)) μ1) (hk : k + 1 ≤ n := by decide) (hg : Gl X x := by rfl) (hdb : (x == ("__debug__" : Str)) = false := by decide) (hs : starEach (e :: []) X.env = (false, eval e X.env) :: starEach [] X.env := by rfl) (hpl : (backTo p (starEach [] X.env)).any (·.1) = false := by rfl) :
    DS X N W δ μ (.Raise (some (.Call (.Name x apos) [e] [] p)) none pos) (.xx C d δ μ1) := by
  obtain ⟨f, fd, ps, Fo, hi, ht, hb⟩ := ce.ex
  have hx : Passes (L2.CX X.prog X.w) X (fun _ _ _ => False) := fun _ _ _ _ _ _ _ c => by
    obtain ⟨_, _, _, _, _, _, _, _, _, _, _, _, z⟩ := c
    exact z.elim
  refine PS.imp (ps_raise g.calm g.tk (pmk_oex ce.oc hi ht Fo (g.room.mono hk) hb .nil hx hg ce.at_ (da_cons ha da_nil hs) hdb hs hpl)) fun K σ H ⟨F, A, R0, q⟩ => ?_
  refine ⟨F, A, R0, fun vs F1 A1 H1 e1 p1 R1 rv => ?_⟩
  obtain ⟨v, rfl, rp⟩ := one_of rv
  refine ⟨by show 1 ≤ 1000; decide, fun a na => ?_⟩
  refine ⟨a, C, v, rfl, ce.oc, ce.nv, upd_same, fun dx ndx ne => ⟨rfl, dx, [("value", v)], upd_same, ?_, ?_, ?_⟩⟩
  · rw [upd_ne ne, upd_same]
  · rw [upd_ne ne] at ndx; exact ndx
  · have ndx' : H1 dx = none := by rw [upd_ne ne] at ndx; exact ndx
    have e : upd (del (upd (upd (upd H1 a (exo a C none)) dx (exd dx [("value", v)])) a (exo a C (some dx))) a) dx (.xd [("value", v)]) = upd H1 dx (.xd [("value", v)]) := by
      funext b
      by_cases hb : b = dx
      · subst hb; rw [upd_same, upd_same]
      · rw [upd_ne hb, upd_ne hb]
        by_cases ha : b = a
        · subst ha; rw [del_same]; exact na.symm
        · rw [del_ne ha, upd_ne ha, upd_ne hb, upd_ne ha]
    rw [e]
    have sm := same_updN (o := .xd [("value", v)]) (R1.rc.fresh ndx').2.1
    exact q σ dx v _ A1 _ (e1.trans sm) p1 (R1.to sm (List.prefix_refl _) (R1.rc.frozen ndx' _)) upd_same (Rep.mono sm rp)
/-! ## statements with an expression that raises -/
/-! ## lists that change, by their methods -/
theorem m_append {j : Nat} {ds : List D} (hj : μ[j]? = some (.lst ds)) (hj0 : μ1[j]? = some (.lst ds)) (hl : ds.length < sizeLine) : MtOk X N W "list" "list.append" μ μ1 (.l j) [.p d] (.v (.p .non)) (μ1.set j (.lst (ds ++ [d]))) :=
  ⟨_, mt_append, fun σ δ F A H x R rx => by
    obtain ⟨a, rfl, ha⟩ := rx
    obtain ⟨ws, h1, h2⟩ := R.rc.mus j a _ ha hj
    exact .inl ⟨rfl, ws, SqL.of h1⟩, fun σ δ F A H x vs Q R rx rv k => by
    obtain ⟨v, rfl, h⟩ := one_of rv
    obtain ⟨a, rfl, ha⟩ := rx
    obtain ⟨ws, h1, h2⟩ := R.rc.mus j a _ ha hj0
    refine ⟨a, ws, v, rfl, rfl, h1, by rw [h2.length]; exact hl, ?_⟩
    exact k .non F A _ (Same.refl _) (List.prefix_refl _) (R.to (Same.refl _) (List.prefix_refl _) (R.rc.write ha hj0 trivial ⟨_, upd_same, h2.snoc h⟩)) .non⟩
theorem m_extend {j : Nat} {ds es : List D} (hj : μ[j]? = some (.lst ds)) (hj0 : μ1[j]? = some (.lst ds)) (hl : ds.length + es.length ≤ sizeLine) : MtOk X N W "list" "list.extend" μ μ1 (.l j) [.p (.lst es)] (.v (.p .non)) (μ1.set j (.lst (ds ++ es))) :=
  ⟨_, mt_extend, fun σ δ F A H x R rx => by
    obtain ⟨a, rfl, ha⟩ := rx
    obtain ⟨ws, h1, h2⟩ := R.rc.mus j a _ ha hj
    exact .inl ⟨rfl, ws, SqL.of h1⟩, fun σ δ F A H x vs Q R rx rv k => by
    obtain ⟨v, rfl, h⟩ := one_of rv
    obtain ⟨a, rfl, ha⟩ := rx
    obtain ⟨ws, h1, h2⟩ := R.rc.mus j a _ ha hj0
    obtain ⟨b, us, rfl, h3, h4⟩ := rep_lst h
    refine ⟨a, b, ws, us, rfl, rfl, h1, R.rc.sub _ _ h3, by rw [h2.length, h4.length]; exact hl, ?_⟩
    exact k .non F A _ (Same.refl _) (List.prefix_refl _) (R.to (Same.refl _) (List.prefix_refl _) (R.rc.write ha hj0 trivial ⟨_, upd_same, h2.append h4⟩)) .non⟩
/-! ## lists and tuples put together -/
/-- a list is frozen from here on -/
theorem dss_freeze {j : Nat} {ds : List D} {rest : List Stmt} {o : Os} (hj : μ[j]? = some (.lst ds)) (hA : N.A0.length ≤ j) (i : Nat) (hi : δ[i]? = some (some (.l j))) (h : DSs X N W (δ.set i (some (.p (.lst ds)))) (μ.set j .gone) rest o) : DSs X N W δ μ rest o :=
  PSs.imp h fun K σ H ⟨F, A, R, k⟩ => by
    obtain ⟨v, hv, a, rfl, ha⟩ := R.sl i _ hi
    obtain ⟨ws, h1, h2⟩ := R.rc.mus j a _ ha hj
    obtain ⟨r1, sm⟩ := R.rc.freeze ha hj trivial hA h1
    refine ⟨_, A, ⟨r1, by simp [R.len], fun i' s' e => ?_⟩, k.to sm (List.prefix_refl _)⟩
    by_cases hi' : i' = i
    · subst hi'
      have hl : i' < δ.length := (List.getElem?_eq_some_iff.mp hi).1
      rw [List.getElem?_set_self hl] at e
      cases e
      exact ⟨.ref a, hv, .lst upd_same (h2.mono sm)⟩
    · rw [List.getElem?_set_ne (Ne.symm hi')] at e
      obtain ⟨w, h3, h4⟩ := R.sl i' s' e
      exact ⟨w, h3, h4.mono sm (List.prefix_refl _)⟩
end
/-! ## the one __init__ -/
theorem fn_err {P : Program} {w : World} {K : PySem.W.Frag} {mg : Str → Option Value} {base : Heap} {st : Stmt} {f : Addr} {fd : FuncData} {x qual : Str} {p1 p2 p3 p4 : Pos} (F : Fun K x qual st f fd) (Sc : FnScope ["self", "value"] ["self", "value"] (defScope st))
    (hb : defBody st = [.Assign [.Attribute (.Name "self" p1) "value" p2] (.Name "value" p3) p4]) (hv1 : (defScope st).names.lookup ("self" : Str) = some NameKind.local) (hv2 : (defScope st).names.lookup ("value" : Str) = some NameKind.local) : FnOk P w K mg base (L2.CX P w) 1 f fd ["self", "value"] (spErr K) := by
  refine F.okX Sc (fun vs H Q E h => ?_) (fun cdv A outer s H vs Q E hr h => ?_)
  · obtain ⟨a, C, y, rfl, _⟩ := h
    rfl
  · obtain ⟨a, C, y, rfl, hC, hn, ha, k⟩ := h
    rw [hb]
    refine ⟨_, pss_one (ps_ost (pv 0 rfl (.inl hv1)) (pv 1 rfl (.inl hv2))), y, rfl, .ref a, rfl, a, C, rfl, hC, hn, .inl ⟨ha, fun dx ndx ne => k dx ndx ne⟩⟩
end Dl
set_option Elab.async false
set_option linter.all false
set_option maxRecDepth 100000
set_option maxHeartbeats 4000000
set_option autoImplicit false
namespace Dl
open PySem PySem.Spec PyProof.Rows L2
/-! ## len of own objects; a text n times; list(range(n)) -/
section
variable {X : Cx} {N : En} {W : WX} {n : Nat} {δ δ' δ1 δ2 : List (Option S)} {μ μ' μ1 μ2 μ3 : List M} {e a b c o : Expr} {es : List Expr} {ss : List S} {pos p apos : Pos} {d : D} {s s1 s2 : S} {r : Rx} {R : Rel} {k : Nat} {x m f : Str} {dd : List D} {C : Addr}
theorem c_lenOwn {ns : List Str} {d1 : List D} {q : Int} (g : Go X N W n) (cm : Cm X.prog X.w X.K X.mg X.base k C "__len__" [] R) (hR : R [.p (.ins C ns d1)] μ (.v (.p (.int q))) μ') (hq : 0 ≤ q ∧ q < 2 ^ 63) (hk : k + 1 ≤ n := by decide) : CallOk X N W (.builtin "len") μ [.p (.ins C ns d1)] (.v (.p (.int q))) μ' := by
  obtain ⟨f, fd, ps, ds, dvs, Fo, hme, hb, hd, rd⟩ := cm.ex
  refine ⟨fun xs H Q => ∃ a dx fs, xs = [.ref a] ∧ H a = some (.ins C dx fs) ∧ spD X.K R (xs ++ dvs) H (fun v H' => v = .int q ∧ Q (.int q) H') (fun _ _ _ => False), fun pins s σ H xs us Q I r ⟨a, dx, fs, e, ha, h⟩ => ?_, fun σ δ F A H vs Q R0 rv k0 => ?_⟩
  · subst e
    cases r with
    | cons r1 r2 =>
      cases r2
      cases r1
      obtain ⟨od, J⟩ := inst_at I ha
      obtain ⟨m', Fr'⟩ := I.fr
      refine PySem.W.len_K Fr' I.mod.kin J hme.at_ hme.fn ?_
      have r2 : Vals ([V.ref a] ++ dvs) ([Value.ref a] ++ ds) := L2.Vals.append (show L2.Vals [V.ref a] [Value.ref a] from .cons rfl .nil) hd
      have hl : ([Value.ref a] ++ ds).length = ps.length := by rw [← r2.length]; exact Fo.len _ _ _ _ h
      refine wpAny_call (codeAny_mono (Fo.run X.A.in1 X.stack s H ⟨[.ref a], []⟩ ([.ref a] ++ ds) ([.ref a] ++ dvs) _ (WE W0 σ) (g.room.mono hk).in1 I.env0.in1 (hb s [.ref a] I.kIn hl) r2 h) fun r s' hq' => ?_)
      cases r with
      | error e => exact passAt (W := W0) takes00 σ pins H s e s' I hq'
      | ok fl =>
        cases fl with
        | ret u =>
          obtain ⟨v, H', I', rv, ev, q'⟩ := I.after hq'
          subst ev
          obtain ⟨t, rfl⟩ := rv
          exact ⟨hq, .int q, H', I'.tok _, ⟨_, rfl⟩, q'⟩
        | next => exact False.elim hq'
        | brk => exact False.elim hq'
        | cont => exact False.elim hq'
  · obtain ⟨v, rfl, h1⟩ := one_of rv
    have h1' : Rep N.K F v (.ins C ns d1) := h1
    obtain ⟨a, dx, fs, rfl, g1, g2, g3⟩ := rep_ins h1'
    refine ⟨a, dx, fs, rfl, R0.rc.sub _ _ g1, ?_⟩
    have hK := g.hK
    rw [← hK] at rd ⊢
    refine spD_in (N := N) (σ := σ) (δ := δ) (F := F) (A := A) (ss := [.p (.ins C ns d1)] ++ ([] : List D).map S.p) (r := .v (.p (.int q))) hR R0 (RepSs.append (.cons h1 .nil) (of_reps (rd F))) ?_
    intro v F' A' H' e' p' R' rv'
    have e2 : v = .int q := rs_int rv'
    subst e2
    exact ⟨rfl, k0 _ F' A' H' e' p' R' rv'⟩
theorem op_mulSn {c : Nat} : OpR X (binaryOp .Mult) (fun x y H Q => ∃ (k : Nat), x = .str ⟨#[c]⟩ ∧ y = .int (k : Int) ∧ 1 ≤ k ∧ k ≤ 4 ∧ Q (.str ⟨(List.replicate k c).toArray⟩) H) := by
  intro pins s σ H x y v u Q I rx ry h
  obtain ⟨k, rfl, rfl, h1, h2, q⟩ := h
  obtain ⟨t, rfl⟩ := rx
  obtain ⟨t', rfl⟩ := ry
  match k, h1, h2, q with
  | 1, _, _, q =>
    refine PySem.P.mul_str (by decide) (fun _ h => by simp at h) (fun _ h => by simp at h) ?_
    show (if (1 : Int) < 1 then _ else if ((1 : Int) == 1 || _ == 0) = true then _ else _ : Made).post _ _
    rw [if_neg (by decide), if_pos (by simp)]
    exact ⟨.str ⟨#[c]⟩, H, I, ⟨t, rfl⟩, q⟩
  | 2, _, _, q =>
    refine PySem.P.mul_str (by decide) (fun _ h => by show ¬ ((1 : Nat) : Int) > _; decide) (fun _ h => by with_unfolding_all rfl) ?_
    exact ⟨by show (2 : Nat) ≤ _; decide, .str _, H, I.tok _, ⟨_, rfl⟩, q⟩
  | 3, _, _, q =>
    refine PySem.P.mul_str (by decide) (fun _ h => by show ¬ ((1 : Nat) : Int) > _; decide) (fun _ h => by with_unfolding_all rfl) ?_
    exact ⟨by show (3 : Nat) ≤ _; decide, .str _, H, I.tok _, ⟨_, rfl⟩, q⟩
  | 4, _, _, q =>
    refine PySem.P.mul_str (by decide) (fun _ h => by show ¬ ((1 : Nat) : Int) > _; decide) (fun _ h => by with_unfolding_all rfl) ?_
    exact ⟨by show (4 : Nat) ≤ _; decide, .str _, H, I.tok _, ⟨_, rfl⟩, q⟩
theorem o_mulSn {c k : Nat} (h : 1 ≤ k ∧ k ≤ 4) : OpOk X N W (binaryOp .Mult) μ (.p (.str ⟨#[c]⟩)) (.p (.int (k : Int))) (.v (.p (.str ⟨(List.replicate k c).toArray⟩))) μ :=
  ⟨_, op_mulSn, fun σ δ F A H x y Q R rx ry q => ⟨k, rs_str rx, rs_int ry, h.1, h.2, q.here R (.str _)⟩⟩
theorem de_listRg {i : Int} {p2 pos2 : Pos} (g : Go X N W n) (ha : DE X N W δ μ a (.v (.p (.int i))) μ1) (hm : X.mg "list" = none) (hm2 : X.mg "range" = none) (hi : 0 ≤ i ∧ i ≤ 16777216) (hg : Gl X "list" := by rfl) (hg2 : Gl X "range" := by rfl)
    (hs : starEach [a] X.env = (false, eval a X.env) :: starEach [] X.env := by rfl) (hs2 : starEach [.Call (.Name "range" p2) [a] [] pos2] X.env = (false, eval (.Call (.Name "range" p2) [a] [] pos2) X.env) :: starEach [] X.env := by rfl) :
    DE X N W δ μ (.Call (.Name "list" p) [.Call (.Name "range" p2) [a] [] pos2] [] pos) (.v (.p (.lst (rangeD 0 i.toNat)))) μ1 :=
  PE.imp (pe_listRg g.calm hg hm (prg_1 hg2 hm2 ha hs) hs2) fun σ H Q ⟨F, A, R0, k⟩ => ⟨F, A, R0, fun x F1 A1 H1 e1 p1 R1 rx => by
    have ex : x = .int i := rs_int rx
    subst ex
    refine ⟨i, rfl, RgOk.of_le (by omega) (by omega) (by omega) (by omega), fun q nq => ?_⟩
    have sm := same_updN (o := .lst (rgV 0 i)) (R1.rc.fresh nq).2.1
    refine k (.ref q) _ A1 _ (e1.trans sm) p1 (R1.to sm (List.prefix_refl _) (R1.rc.frozen nq _)) (.lst upd_same (Reps.mono sm ?_))
    unfold rgV rangeD
    rw [Int.sub_zero]
    generalize List.range i.toNat = l
    induction l with
    | nil => exact .nil
    | cons y ys ih => exact .cons (.int _) ih⟩
end
end Dl
set_option Elab.async false
set_option linter.all false
set_option maxRecDepth 100000
set_option maxHeartbeats 4000000
set_option autoImplicit false
namespace Dl
open PySem PySem.Spec PyProof.Rows L2
section
variable {X : Cx} {N : En} {W : WX} {n : Nat} {δ δ' δ1 δ2 : List (Option S)} {μ μ' μ1 μ2 μ3 : List M} {e a b c o : Expr} {es : List Expr} {ss : List S} {pos p apos : Pos} {d d' : D} {s s1 s2 : S} {r r' : Rx} {R : Rel} {k k' : Bool} {x m f : Str} {dd : List D} {C : Addr}
theorem dt_of (h : DT X N W δ μ e k μ1) (q : k = k') : DT X N W δ μ e k' μ1 := q ▸ h
theorem de_of (h : DE X N W δ μ e (.v (.p d)) μ1) (q : d = d') : DE X N W δ μ e (.v (.p d')) μ1 := q ▸ h
theorem dss_ifT {A B rest : List Stmt} {o oa : Os} (h : DT X N W δ μ c true μ1) (ha : DSs X N W δ μ1 A oa) (ca : Cont X N W rest oa o) : DSs X N W δ μ (.If c A B pos :: rest) o :=
  dss_cons (ds_if h (fun _ => ha) nofun) ca
theorem dss_ifF {A B rest : List Stmt} {o oa : Os} (h : DT X N W δ μ c false μ1) (ha : DSs X N W δ μ1 B oa) (ca : Cont X N W rest oa o) : DSs X N W δ μ (.If c A B pos :: rest) o :=
  dss_cons (ds_if h nofun (fun _ => ha)) ca
theorem dss_skip {A rest : List Stmt} {o : Os} (h : DT X N W δ μ c false μ1) (ca : DSs X N W δ μ1 rest o) : DSs X N W δ μ (.If c A [] pos :: rest) o :=
  dss_ifF h dss_nil ca
theorem dss_ret (h : DE X N W δ μ e (.v s) μ1) {rest : List Stmt} : DSs X N W δ μ (.Return (some e) pos :: rest) (.rt s μ1) := dss_cons (ds_ret h) cr
theorem di_of {tg iter : Expr} {ds ds' : List D} (h : DI X N W δ μ tg iter ds μ1) (q : ds = ds') : DI X N W δ μ tg iter ds' μ1 := q ▸ h
theorem of_maps {α : Type} {nn : Nat} {scope : Scope} {elt : Expr} {f : As} {gd fy : α → D} : ∀ {l : List α}, (∀ a ∈ l, ∃ δt, f (gd a) δ = some δt ∧ DEB X N.K nn scope elt δt μ (fy a) μ) → CmpL (El0 X N.K nn scope elt) f δ (l.map gd) μ (l.map fy) μ
  | [], _ => .nil
  | a :: l, h => by
    obtain ⟨δt, h1, h2⟩ := h a List.mem_cons_self
    exact .keep h1 ⟨_, rfl, h2⟩ (of_maps fun d hd => h d (List.mem_cons_of_mem _ hd))
theorem c_allm {α : Type} {l : List α} {q : α → Bool} (g : Go X N W n) : CallOk X N W (.builtin "all") μ [.p (.lst (l.map fun a => .bl (q a)))] (.v (.p (.bl (l.all q)))) μ := by
  have h := c_all (μ := μ) g (ns := l.map q)
  rw [List.map_map, List.all_map] at h
  exact h
theorem c_summ {α : Type} {l : List α} {q : α → Int} (g : Go X N W n) : CallOk X N W (.builtin "sum") μ [.p (.lst (l.map fun a => .int (q a)))] (.v (.p (.int (l.map q).sum))) μ := by
  have h := c_sum (μ := μ) g (ns := l.map q)
  rw [List.map_map] at h
  exact h
theorem join_one {α : Type} {q : α → Nat} : ∀ l : List α, Str.join (Str.ofString "") (l.map fun a => (⟨#[q a]⟩ : Str)) = ⟨(l.map q).toArray⟩
  | [] => rfl
  | [_] => rfl
  | a :: b :: r => by
    show (⟨#[q a]⟩ : Str) ++ Str.ofString "" ++ Str.join (Str.ofString "") (List.map (fun a => (⟨#[q a]⟩ : Str)) (b :: r)) = _
    rw [join_one (b :: r)]
    show Str.append (Str.append _ _) _ = _
    have e0 : (Str.ofString "").cps = #[] := rfl
    simp [Str.append, e0]
theorem m_joinm {α : Type} {l : List α} {q : α → Nat} (hl : l.length ≤ 100) : MtOk X N W "str" "str.join" μ μ1 (.p (.str (Str.ofString ""))) [.p (.lst (l.map fun a => .str ⟨#[q a]⟩))] (.v (.p (.str ⟨(l.map q).toArray⟩))) μ1 := by
  have h := m_join (X := X) (N := N) (W := W) (μ := μ) (μ1 := μ1) (z := Str.ofString "") (ys := l.map fun a => (⟨#[q a]⟩ : Str)) (by
    have e0 : (Str.ofString "").length = 0 := rfl
    rw [e0, Nat.mul_zero, Nat.add_zero, List.map_map]
    have : ∀ l : List α, (l.map ((fun x : Str => x.length) ∘ fun a => (⟨#[q a]⟩ : Str))).sum = l.length := by
      intro l
      induction l with
      | nil => rfl
      | cons a l ih => rw [List.map_cons, List.sum_cons, ih, List.length_cons]; show 1 + _ = _; omega
    rw [this]; omega)
  rw [List.map_map] at h
  have e : Txt.join (Str.ofString "") (l.map fun a => (⟨#[q a]⟩ : Str)) = ⟨(l.map q).toArray⟩ := by
    rw [TL.join_eq]
    exact join_one l
  rw [e] at h
  exact h
end
/-! ## words, in plain terms -/
def st (L : List Nat) : Str := ⟨L.toArray⟩
def IXYZ : List Nat := [73, 88, 89, 90]
def third (a b : Nat) : Nat := if a = b then 73 else if a = 73 then b else if b = 73 then a else if a + b = 177 then 90 else if a + b = 178 then 89 else 88
def qt (a b : Nat) : Int := if (a = 88 ∧ b = 89) ∨ (a = 89 ∧ b = 90) ∨ (a = 90 ∧ b = 88) then 1 else if (a = 89 ∧ b = 88) ∨ (a = 90 ∧ b = 89) ∨ (a = 88 ∧ b = 90) then -1 else 0
def mk (a b : List Nat) : List Nat := List.zipWith third a b
def qs (a b : List Nat) : Int := (List.zipWith qt a b).sum
structure okL (L : List Nat) : Prop where
  one : 1 ≤ L.length
  four : L.length ≤ 4
  all : ∀ c ∈ L, c ∈ IXYZ
def sgn (L : List Nat) (s : Int) : Str := st (if s < 0 then 45 :: L else L)
def wd (C : Addr) (L : List Nat) (s : Int) : D := .ins C ["letters", "sign"] [.str (st L), .int s]
def bes (s t q : Int) : Int := if q % 4 ≠ 0 then -(s * t) else s * t
theorem st_len (L : List Nat) : (st L).length = L.length := by simp [st, Str.length]
theorem chars_st (L : List Nat) : chars (st L) = L.map fun c => D.str ⟨#[c]⟩ := by simp [chars, st]
theorem st_inj {L M : List Nat} : st L = st M ↔ L = M := by
  constructor
  · intro h
    have := congrArg (fun z : Str => z.cps.toList) h
    simpa [st] using this
  · rintro rfl; rfl
theorem st_app (L M : List Nat) : st L ++ st M = st (L ++ M) := by
  show Str.append _ _ = _
  simp [Str.append, st]
theorem size4 {n : Nat} (h : n ≤ 100) : n ≤ sizeLine := by rw [sizeLine_eq]; omega
theorem size4' {n : Nat} (h : n ≤ 100) : n < sizeLine := by rw [sizeLine_eq]; omega
theorem th_ok {a b : Nat} (ha : a ∈ IXYZ) (hb : b ∈ IXYZ) : third a b ∈ IXYZ := by
  simp only [IXYZ, List.mem_cons, List.not_mem_nil, or_false] at ha hb ⊢
  rcases ha with rfl | rfl | rfl | rfl <;> rcases hb with rfl | rfl | rfl | rfl <;> decide
theorem mk_len {a b : List Nat} (h : a.length = b.length) : (mk a b).length = a.length := by simp [mk, h]
theorem mk_all : ∀ {a b : List Nat}, (∀ c ∈ a, c ∈ IXYZ) → (∀ c ∈ b, c ∈ IXYZ) → ∀ c ∈ mk a b, c ∈ IXYZ
  | [], _, _, _, c, h => by simp [mk] at h
  | _ :: _, [], _, _, c, h => by simp [mk] at h
  | x :: xs, y :: ys, h1, h2, c, h => by
    simp only [mk, List.zipWith_cons_cons, List.mem_cons] at h
    rcases h with rfl | h
    · exact th_ok (h1 x (by simp)) (h2 y (by simp))
    · exact mk_all (fun c hc => h1 c (by simp [hc])) (fun c hc => h2 c (by simp [hc])) c h
theorem mk_ok {a b : List Nat} (ha : okL a) (hb : okL b) (h : a.length = b.length) : okL (mk a b) :=
  ⟨by rw [mk_len h]; exact ha.one, by rw [mk_len h]; exact ha.four, mk_all ha.all hb.all⟩
theorem bes_pm {s t q : Int} (hs : s = 1 ∨ s = -1) (ht : t = 1 ∨ t = -1) : bes s t q = 1 ∨ bes s t q = -1 := by
  unfold bes
  rcases hs with rfl | rfl <;> rcases ht with rfl | rfl <;> split <;> simp
end Dl
set_option Elab.async false
set_option linter.all false
set_option maxRecDepth 100000
set_option maxHeartbeats 4000000
set_option autoImplicit false
namespace Dl
/-! ## letters by threes -/
theorem t1 : ∀ a ∈ IXYZ, third 73 a = a ∧ qt 73 a = 0 := by decide
theorem t2 : ∀ a ∈ IXYZ, ∀ b ∈ IXYZ, third (third a b) b = a ∧ qt (third a b) b = -qt a b := by decide
theorem t3 : ∀ a ∈ IXYZ, ∀ b ∈ IXYZ, ∀ c ∈ IXYZ, third (third a b) c = third a (third b c) ∧ (qt a b + qt (third a b) c - qt b c - qt a (third b c)) % 4 = 0 ∧ (qt (third a b) c - qt a c - qt b c) % 2 = 0 := by decide +kernel
/-! ## signs -/
def sg (q : Int) : Int := if q % 4 = 0 then 1 else -1
theorem bes_eq (s t q : Int) : bes s t q = s * t * sg q := by
  unfold bes sg
  by_cases h : q % 4 = 0
  · rw [if_neg (fun z => z h), if_pos h, Int.mul_one]
  · rw [if_pos h, if_neg h, Int.mul_neg, Int.mul_one]
end Dl
set_option Elab.async false
set_option linter.all false
set_option maxRecDepth 100000
set_option maxHeartbeats 4000000
set_option autoImplicit false
namespace Dl
open PySem PySem.Spec PyProof.Rows L2
/-! ## the script itself -/
theorem rep_sc {K : PySem.W.Frag} {F : Hp} {v : V} {ns : List Int} (h : Rep K F v (.sc ns)) : ∃ a, v = .ref a ∧ SqL K F a (ns.map V.int) := by
  generalize hd : D.sc ns = d at h
  cases h with
  | sc h1 => cases hd; exact ⟨_, rfl, h1⟩
  | _ => cases hd
section
variable {X : Cx} {N : En} {W : WX} {n : Nat} {δ : List (Option S)} {μ : List M} {ns : List Int}
theorem c_lenSc (g : Go X N W n) : CallOk X N W (.builtin "len") μ [.p (.sc ns)] (.v (.p (.int ns.length))) μ :=
  ⟨_, call_len_seq, fun σ δ F A H vs Q R rv k => by
    obtain ⟨v, rfl, h⟩ := one_of rv
    have h' : Rep N.K F v (.sc ns) := h
    obtain ⟨a, rfl, h1⟩ := rep_sc h'
    refine ⟨a, ns.map V.int, rfl, .inl (by rw [← g.hK]; exact same_sqL R.rc.sub h1), ?_⟩
    rw [List.length_map]
    exact k.here R (.int _)⟩
theorem i_sc (g : Go X N W n) {i : Nat} {c : Int} (h : ns[i]? = some c) : IxOk X N W μ (.p (.sc ns)) (.p (.int (i : Int))) (.v (.p (.int c))) μ :=
  ⟨_, ix_list, fun σ δ F A H x y Q R rx ry k => by
    have rx' : Rep N.K F x (.sc ns) := rx
    obtain ⟨a, rfl, h1⟩ := rep_sc rx'
    exact ⟨a, ns.map V.int, (i : Int), .int c, rfl, rs_int ry, by rw [← g.hK]; exact same_sqL R.rc.sub h1, atI_nat (by rw [List.getElem?_map, h]; rfl), k.here R (.int _)⟩⟩
end
end Dl
set_option Elab.async false
set_option linter.all false
set_option maxRecDepth 100000
set_option maxHeartbeats 4000000
set_option autoImplicit false
namespace Dl
open PySem PySem.Spec PyProof.Rows L2
/-! ## == and != of own objects, as tests -/
section
variable {X : Cx} {N : En} {W : WX} {n : Nat} {δ δ' δ1 δ2 : List (Option S)} {μ μ' μ1 μ2 μ3 : List M} {e a b c o : Expr} {es : List Expr} {ss : List S} {pos p apos : Pos} {d : D} {s s1 s2 : S} {r : Rx} {R : Rel} {k : Nat} {x m f : Str} {dd : List D} {C : Addr}
theorem dt_eqOwn {ns : List Str} {d1 : List D} {d2 : D} {t : Value} {q : Bool} (g : Go X N W n) (cm : Cm X.prog X.w X.K X.mg X.base k C "__eq__" [] R) (ty : TyD X.K d2 t) (nf : PySem.W.notFirst X.K C t = true)
    (ha : DE X N W δ μ a (.v (.p (.ins C ns d1))) μ1) (hb : DE X N W δ μ1 b (.v (.p d2)) μ2) (hR : R [.p (.ins C ns d1), .p d2] μ2 (.v (.p (.bl q))) μ3) (hk : k ≤ n := by decide) : DT X N W δ μ (.Compare a [.Eq] [b] pos) q μ3 := by
  obtain ⟨f, fd, ps, ds, dvs, Fo, hme, hbi, hd, rd⟩ := cm.ex
  refine ⟨fun pins s σ H Q I ⟨F, A, R0, qq⟩ => wpAny_isTrue_Compare1 (two_then ha hb I R0 fun v u s3 x y H2 F2 A2 I2 rx ry e2 p2 R2 h1 h2 => ?_) (nomark _)⟩
  obtain ⟨a1, dx1, fs1, rfl, g1, g2, g3⟩ := rep_ins h1
  cases rx
  obtain ⟨od1, J1⟩ := inst_at I2 (R2.rc.sub _ _ g1)
  obtain ⟨m', Fr'⟩ := I2.fr
  refine PySem.W.cmp_ofEq (PySem.W.cmp_K (g.room.units0) Fr' I2.mod.kin J1 (type_of I2 R2.rc.sub ty (by rw [← g.hK]; exact h2) ry) nf hme.at_ hme.fn ?_)
  refine wpAny_mono (call_fnD (us := [.ref a1, u]) (vs := [.ref a1, y]) (ss := [.p (.ins C ns d1), .p d2]) (Q := fun v H' => v = .bl q ∧ Q q H') g hk Fo hbi hd rd I2 R2 (.cons h1 (.cons h2 .nil)) (.cons rfl (.cons ry .nil)) hR (fun v F' A' H' e' p' R' rv => ?_)) (fun v s' h => ?_) fun _ _ h => h
  · have rv' : Rep N.K F' v (.bl q) := rv
    cases rv'
    exact ⟨rfl, qq F' A' H' (e2.trans e') (p2.trans p') R'⟩
  · obtain ⟨w, H', I', rw', rfl, hq⟩ := h
    cases rw'
    exact wpAny_truthy_bool ⟨H', I', hq⟩
theorem dt_neOwn {ns : List Str} {d1 : List D} {d2 : D} {t : Value} {q : Bool} (g : Go X N W n) (cm : Cm X.prog X.w X.K X.mg X.base k C "__eq__" [] R) (nk : NeOk X.K C) (ty : TyD X.K d2 t) (nf : PySem.W.notFirst X.K C t = true)
    (ha : DE X N W δ μ a (.v (.p (.ins C ns d1))) μ1) (hb : DE X N W δ μ1 b (.v (.p d2)) μ2) (hR : R [.p (.ins C ns d1), .p d2] μ2 (.v (.p (.bl q))) μ3) (hk : k + 1 ≤ n := by decide) : DT X N W δ μ (.Compare a [.NotEq] [b] pos) (!q) μ3 := by
  obtain ⟨f, fd, ps, ds, dvs, Fo, hme, hbi, hd, rd⟩ := cm.ex
  refine ⟨fun pins s σ H Q I ⟨F, A, R0, qq⟩ => wpAny_isTrue_Compare1 (two_then ha hb I R0 fun v u s3 x y H2 F2 A2 I2 rx ry e2 p2 R2 h1 h2 => ?_) (nomark _)⟩
  obtain ⟨a1, dx1, fs1, rfl, g1, g2, g3⟩ := rep_ins h1
  cases rx
  obtain ⟨od1, J1⟩ := inst_at I2 (R2.rc.sub _ _ g1)
  have hun := g.room.units
  refine rich_ne g.room.units0 (by show X.A.units + 1 + 1 < _; omega) I2.kIn J1 (type_of I2 R2.rc.sub ty (by rw [← g.hK]; exact h2) ry) nf nk.ne nk.mro hme.at_ hme.fn ?_
  refine wpAny_mono (call_in1 (us := [.ref a1, u]) (vs := [.ref a1, y]) (ss := [.p (.ins C ns d1), .p d2]) (Q := fun v H' => v = .bl q ∧ Q (!q) H') g hk Fo hbi hd rd I2 R2 (.cons h1 (.cons h2 .nil)) (.cons rfl (.cons ry .nil)) hR (fun v F' A' H' e' p' R' rv => ?_)) (fun v s' h => ?_) fun _ _ h => h
  · have rv' : Rep N.K F' v (.bl q) := rv
    cases rv'
    exact ⟨rfl, qq F' A' H' (e2.trans e') (p2.trans p') R'⟩
  · obtain ⟨w, H', I', rw', rfl, hq⟩ := h
    cases rw'
    exact ⟨q, rfl, wpAny_truthy_bool ⟨H', I', hq⟩⟩
end
end Dl
set_option Elab.async false
set_option linter.all false
set_option maxRecDepth 100000
set_option maxHeartbeats 4000000
set_option autoImplicit false
namespace Dl
open PySem PySem.Spec PyProof.Rows L2
/-! ## an exception that is caught and kept -/
end Dl
set_option Elab.async false
set_option linter.all false
set_option maxRecDepth 100000
set_option maxHeartbeats 4000000
set_option autoImplicit false
namespace Dl
open PySem PySem.Spec PyProof.Rows L2
/-! ## a lambda without parameters, handed to a def -/
end Dl
set_option Elab.async false
set_option linter.all false
set_option maxRecDepth 100000
set_option maxHeartbeats 4000000
set_option autoImplicit false
namespace Dl
open PySem PySem.Spec PyProof.Rows L2
end Dl
set_option Elab.async false
set_option linter.all false
set_option maxRecDepth 100000
set_option maxHeartbeats 4000000
set_option autoImplicit false
namespace Dl
open PySem PySem.Spec PyProof.Rows L2
/-! ## a def whose code object is named: a maker of lambdas -/
/-! ## what was heard: (None, what came back) or (the error, None) -/
theorem EndE.imp {N : En} {W W' : WX} {σ : L2.St} {δ : List (Option S)} {F : Hp} {A : List Addr} {μ : List M} {Q Q' : VK} {r : Rx} (k : EndE N W σ δ F A μ Q r) (hW : ∀ c d σ H, W c d σ H → W' c d σ H) (hQ : ∀ v H, Q v H → Q' v H) : EndE N W' σ δ F A μ Q' r := by
  cases r with
  | v s => exact fun v F' A' H' e p R' rv => hQ _ _ (k v F' A' H' e p R' rv)
  | x C d => exact fun dx v F' A' H' e p R' h1 h2 => hW _ _ _ _ (k dx v F' A' H' e p R' h1 h2)
end Dl
set_option Elab.async false
set_option linter.all false
set_option maxRecDepth 100000
set_option maxHeartbeats 4000000
set_option autoImplicit false
namespace Dl
open PySem PySem.Spec PyProof.Rows L2
/-! ## kept exceptions: their class, their value -/
structure XC (K : PySem.W.Frag) (C : Addr) : Prop where
  hga : PySem.W.findIn K (.ref C) "__getattribute__" = some (some (.builtin "BaseException.__getattribute__"))
  hgt : PySem.W.findIn K (.ref C) "__getattr__" = some none
  hsub : PySem.W.subIn K (.ref C) (.type "BaseException") = some true
  hd : PySem.W.hasDictIn K C = true
  ha : PySem.W.findIn K (.ref C) "__class__" = some (some (.builtin "object.__class__"))
  hn : PySem.W.specialIn K (.builtin "object.__class__") "__get__" = some (some (.builtin "getset_descriptor.__get__"))
  htk : PySem.W.takesIn K (.builtin "object.__class__") = some true
  hm : PySem.W.mroIn K C (.type "object") = some true
  nv : PySem.W.findIn K (.ref C) "value" = some none
theorem XC.cl {K : PySem.W.Frag} {C : Addr} (c : XC K C) : (PySem.W.clsIn K C).isSome = true := by
  have h := c.hd
  unfold PySem.W.hasDictIn at h
  cases e : PySem.W.clsIn K C with
  | none => rw [e] at h; cases h
  | some x => rfl
/-! ## == at depth -/
mutual
inductive PyD : D → PyData → Prop
  | non : PyD .non .none
  | bl (b) : PyD (.bl b) (.bool b)
  | int (i) : PyD (.int i) (.int i)
  | str (z) : PyD (.str z) (.str z)
  | tup {ds ps} : PyDs ds ps → PyD (.tup ds) (.tuple ps)
  | lst {ds ps} : PyDs ds ps → PyD (.lst ds) (.list ps)
inductive PyDs : List D → List PyData → Prop
  | nil : PyDs [] []
  | cons {d q ds qs} : PyD d q → PyDs ds qs → PyDs (d :: ds) (q :: qs)
end
mutual
theorem PyD.dp {K : PySem.W.Frag} {F H : Hp} (sm : Same F H) : ∀ {d : D} {q : PyData} {v : V}, PyD d q → Rep K F v d → Dp K H v q
  | _, _, _, .non, h => by cases h; exact .non
  | _, _, _, .bl b, h => by cases h; exact .bl b
  | _, _, _, .int i, h => by cases h; exact .int i
  | _, _, _, .str z, h => by cases h; exact .str z
  | _, _, _, .tup hs, h => by
    obtain ⟨a, ws, rfl, h1, h2⟩ := rep_tup h
    exact .tup (same_sqT sm h1) (PyDs.dp sm hs h2)
  | _, _, _, .lst hs, h => by
    obtain ⟨a, ws, rfl, h1, h2⟩ := rep_lst h
    exact .lst (SqL.of (sm _ _ h1)) (PyDs.dp sm hs h2)
theorem PyDs.dp {K : PySem.W.Frag} {F H : Hp} (sm : Same F H) : ∀ {ds : List D} {qs : List PyData} {vs : List V}, PyDs ds qs → Reps K F vs ds → DpAll K H vs qs
  | _, _, _, .nil, h => by cases h; exact .nil
  | _, _, _, .cons h1 h2, h => by
    cases h with
    | cons r1 r2 => exact .cons (PyD.dp sm h1 r1) (PyDs.dp sm h2 r2)
end
section
variable {X : Cx} {N : En} {W : WX} {n : Nat} {δ δ' δ1 δ2 : List (Option S)} {μ μ' μ1 μ2 μ3 : List M} {e a b c o : Expr} {es : List Expr} {ss : List S} {pos p apos : Pos} {d : D} {s s1 s2 : S} {r : Rx} {R : Rel} {k : Nat} {x m f : Str} {dd : List D} {C : Addr}
/-! ## is None -/
def isNon : D → Bool
  | .non => true
  | _ => false
theorem rep_isNon {K : PySem.W.Frag} {F : Hp} {v : V} (h : Rep K F v d) : decide (v = .non) = isNon d := by
  cases h <;> first | rfl | simp [isNon]
theorem o_isN : OpOk X N W (compareOp .Is) μ (.p d) (.p .non) (.v (.p (.bl (isNon d)))) μ :=
  ⟨_, op_isN, fun σ δ F A H x y Q R rx ry k => ⟨rs_non ry, by rw [rep_isNon (show Rep N.K F x d from rx)]; exact k.here R (.bl _)⟩⟩
theorem o_notN : OpOk X N W (compareOp .IsNot) μ (.p d) (.p .non) (.v (.p (.bl (!isNon d)))) μ :=
  ⟨_, op_notN, fun σ δ F A H x y Q R rx ry k => ⟨rs_non ry, by rw [rep_isNon (show Rep N.K F x d from rx)]; exact k.here R (.bl _)⟩⟩
/-! ## tuples and lists -/
theorem c_tupL {ds : List D} : CallOk X N W (.type "tuple") μ [.p (.lst ds)] (.v (.p (.tup ds))) μ :=
  ⟨_, call_tuple_of, fun σ δ F A H vs Q R rv k => by
    obtain ⟨v, rfl, h⟩ := one_of rv
    obtain ⟨a, ws, rfl, h1, h2⟩ := rep_lst (show Rep N.K F v (.lst ds) from h)
    refine ⟨a, ws, rfl, .inl ⟨SqL.of (R.rc.sub _ _ h1), fun p np => ?_⟩⟩
    have sm := same_updN (o := .tup ws) (R.rc.fresh np).2.1
    exact k (.ref p) _ A _ sm (List.prefix_refl _) (R.to sm (List.prefix_refl _) (R.rc.frozen np _)) (.tup (.inl (.inl upd_same)) (h2.mono sm))⟩
theorem o_eqD (g : Go X N W n) {d1 d2 : D} {p1 p2 : PyData} {q : Bool} (h1 : PyD d1 p1) (h2 : PyD d2 p2) (s1 : SeqAt.shaped p1 = true) (s2 : SeqAt.shaped p2 = true) (hq : PyData.eqv p1 p2 = q) : OpOk X N W (compareOp .Eq) μ (.p d1) (.p d2) (.v (.p (.bl q))) μ :=
  ⟨_, op_eqD (by have := g.room.un; omega), fun σ δ F A H x y Q R rx ry k => ⟨p1, p2, by rw [← g.hK]; exact h1.dp R.rc.sub rx, by rw [← g.hK]; exact h2.dp R.rc.sub ry, s1, s2, by rw [hq]; exact k.here R (.bl _)⟩⟩
end
end Dl
set_option Elab.async false
set_option linter.all false
set_option maxRecDepth 100000
set_option maxHeartbeats 4000000
set_option autoImplicit false
namespace Dl
open PySem PySem.Spec PyProof.Rows L2
/-! ## a text cut: x[:i], x[i:] -/
end Dl
set_option Elab.async false
set_option linter.all false
set_option maxRecDepth 100000
set_option maxHeartbeats 4000000
set_option autoImplicit false
namespace Dl
open PySem PySem.Spec PyProof.Rows L2
/-! ## enumerate(list) -/
def enumD : Nat → List D → List D
  | _, [] => []
  | k, d :: ds => .tup [.int (k : Int), d] :: enumD (k + 1) ds
theorem enumD_len : ∀ {ds : List D} {k : Nat}, (enumD k ds).length = ds.length
  | [], _ => rfl
  | _ :: ds, k => congrArg Nat.succ (enumD_len (ds := ds))
theorem enumD_at : ∀ {ds : List D} {k i : Nat} {d : D}, ds[i]? = some d → (enumD k ds)[i]? = some (.tup [.int ((k + i : Nat) : Int), d])
  | [], _, i, _, h => by simp at h
  | d0 :: ds, k, 0, d, h => by
    have : d0 = d := by simpa using h
    subst this
    rfl
  | d0 :: ds, k, i + 1, d, h => by
    have h' : ds[i]? = some d := by simpa using h
    have := enumD_at (k := k + 1) h'
    rw [show k + 1 + i = k + (i + 1) by omega] at this
    simpa [enumD] using this
section
variable {X : Cx} {N : En} {W : WX} {n : Nat} {δ : List (Option S)} {μ μ1 μ2 μ3 : List M} {e a b o iter tg : Expr} {es : List Expr} {pos p p2 tpos : Pos} {ds : List D} {elts : List Expr} {kk : Nat} {d : D}
theorem yl_enum {K : PySem.W.Frag} {F : Hp} {a : Addr} {vs : List V} (h : F a = some (.lst vs)) (r : Reps K F vs ds) : Yl K (Ite K a) F (enumD 0 ds) := by
  unfold Yl
  rw [enumD_len, ← r.length]
  refine Walk.mono (walk_enum (xs := vs)) (fun H e => SqL.of (e _ _ h)) fun i H x H' _ _ ⟨T, u, v, h1, h2, h3, h4, h5⟩ => ?_
  obtain ⟨d, h6, h7⟩ := r.get' h5
  have h4' : V.int (i : Nat) = u := by simpa using h4
  subst h4'
  refine ⟨_, enumD_at h6, .inr ⟨T, _, _, h1, h2, h3, rfl, .cons ?_ (.cons h7 .nil)⟩⟩
  rw [Nat.zero_add]
  exact .int _
theorem di_enum (g : Go X N W n) (ha : DA X N W δ μ [e] [.p (.lst ds)] μ1) (hm : X.mg "enumerate" = none) (hg : Gl X "enumerate" := by rfl) (hs : starEach [e] X.env = [(false, eval e X.env)] := by rfl) :
    DI X N W δ μ (.Tuple elts kk tpos) (.Call (.Name "enumerate" p) [e] [] pos) (enumD 0 ds) μ1 :=
  PI.imp (pi_enum hg hm ha hs) fun σ H Rk ⟨F, A, R, k⟩ => ⟨F, A, R, fun vs F1 A1 H1 e1 p1 R1 rv => by
    cases rv with
    | cons r1 r2 =>
      cases r2
      have hK := g.hK
      rw [← hK]
      obtain ⟨a, ws, rfl, h1, h2⟩ := rep_lst (show Rep N.K F1 _ (.lst ds) from r1)
      exact ⟨a, ws, rfl, SqL.of (R1.rc.sub _ _ h1), k _ F1 A1 H1 e1 p1 R1 (yl_enum h1 h2)⟩⟩
/-! ## a list taken apart -/
def asLst (fs : List As) : As := fun d δ => match d with
  | .lst ds => asAll fs ds δ
  | _ => none
theorem dg_lst {ts : List Expr} {kk : Nat} {fs : List As} {ix : List Nat} (h : DGs X N ts fs ix) (hK : N.K = X.K) (hc : X.calm = true) (hn : (assignEach ts X.env).length = fs.length := by rfl) (hst : (assignEach ts X.env).findIdx? (·.1) = none := by rfl) : DG X N (.Tuple ts kk pos) (asLst fs) ix :=
  PG.imp (pg_unl hc h hn hst) fun v σ H Q ⟨F, A, δ, μ, d, δ', R, rv, hf, k⟩ => by
    cases d with
    | lst ds =>
      obtain ⟨a, vs, rfl, h1, h2⟩ := rep_lst rv
      refine ⟨a, vs, rfl, SqL.of (R.rc.sub _ _ h1), ?_, F, A, δ, μ, ds, δ', R, h2, hf, k⟩
      rw [h2.length]
      exact asAll_len hf
    | _ => cases hf
/-! ## a dict of the module with text keys -/
theorem rep_adr {K : PySem.W.Frag} {F : Hp} {v : V} {a : Addr} (h : Rep K F v (.adr a)) : v = .ref a := by
  generalize hd : D.adr a = d at h
  cases h with
  | adr a => cases hd; rfl
  | _ => cases hd
theorem o_inKd {dt : Addr} {ents : Array DictEntry} {m : Nat} {z : Str} {r : Option Value} (D : KDict X.K X.w dt ents m) (h : PySem.W.nsIn X.K dt z = some r) : OpOk X N W (compareOp .In) μ (.p (.str z)) (.p (.adr dt)) (.v (.p (.bl r.isSome))) μ :=
  ⟨_, op_in_kd D, fun σ δ F A H x y Q R rx ry k => by
    cases (show Rep N.K F x (.str z) from rx)
    exact ⟨z, r, rfl, rep_adr ry, h, k.here R (.bl _)⟩⟩
theorem o_notInKd {dt : Addr} {ents : Array DictEntry} {m : Nat} {z : Str} {r : Option Value} (D : KDict X.K X.w dt ents m) (h : PySem.W.nsIn X.K dt z = some r) : OpOk X N W (compareOp .NotIn) μ (.p (.str z)) (.p (.adr dt)) (.v (.p (.bl (!r.isSome)))) μ :=
  ⟨_, op_notIn_kd D, fun σ δ F A H x y Q R rx ry k => by
    cases (show Rep N.K F x (.str z) from rx)
    exact ⟨z, r, rfl, rep_adr ry, h, k.here R (.bl _)⟩⟩
theorem reps_all {K : PySem.W.Frag} {F : Hp} {A : List Addr} : ∀ {vs : List V} {ds : List D}, Reps K F vs ds → RepSs K F A vs (ds.map S.p)
  | _, _, .nil => .nil
  | _, _, .cons h t => .cons h (reps_all t)
/-! ## [*xs, ..] -/
theorem dp_star {ds es' : List D} {es : List Expr} (h : DE X N W δ μ e (.v (.p (.lst ds))) μ1) (h' : DP X N W δ μ1 es es' μ2) (hK : N.K = X.K) (hs : starEach (.Starred e p :: es) X.env = (true, eval e X.env) :: starEach es X.env := by rfl) : DP X N W δ μ (.Starred e p :: es) (ds ++ es') μ2 :=
  PA.imp (StX.pa_star h h' hs) fun σ H Q ⟨F, A, R, k⟩ => ⟨F, A, R, fun v F1 A1 H1 e1 p1 R1 rv => by
    obtain ⟨a, vs, rfl, h1, h2⟩ := rep_lst rv
    have hK' := hK
    rw [← hK]
    refine ⟨a, vs, rfl, .inr (SqL.of (R1.rc.sub _ _ h1)), F1, A1, R1, fun ws F2 A2 H2 e2 p2 R2 rw2 => ?_⟩
    exact k (vs ++ ws) F2 A2 H2 (e1.trans e2) (p1.trans p2) R2 (by rw [List.map_append]; exact RepSs.append (reps_all (h2.mono e2)) rw2)⟩
end
end Dl
set_option Elab.async false
set_option linter.all false
set_option maxRecDepth 100000
set_option maxHeartbeats 4000000
set_option autoImplicit false
namespace Dl
open PySem PySem.Spec PyProof.Rows L2
/-! ## a, .., *rest = a list -/
theorem unp_rest {P : Program} {w : World} {A : Around} {E : Value → Shared → Prop} {s : Shared} {l : Addr} {its : Array Value} {i : Nat} {Q : List Value → Shared → Prop} (hL : s.heap.IsList l its) (hd : A.handled = none) (hi : i ≤ its.size) (few : its.size ≤ sizeLine)
    (h : ∀ (h2 : Heap) (tk : Nat), (∀ b o, s.heap.get? b = some o → h2.get? b = some o) → Q (its.toList.take i ++ [.ref h2.objs.size]) { s with heap := h2.push { cls := .type "list", data := .seq (its.toList.drop i).toArray }, toks := tk }) :
    wpAny (model P w) A (unpackItems (.ref l) (i + 1) (some i)) Q E s := by
  obtain ⟨ol, atl, rest⟩ := hL
  have hL : s.heap.IsList l its := ⟨ol, atl, rest⟩
  have old := Heap.lt_size atl
  have apart : l ≠ s.heap.objs.size := Nat.ne_of_lt old
  have cnt : (its.toList.take i).length = i := by rw [List.length_take, Array.length_toList]; omega
  unfold unpackItems notIterableAtAll
  refine wpAny_bind (wpAny_bind (wpAny_specialOf (hL.typeIs) (PySem.F.slot_list_iter.lookup) (wpAny_pure ?_)))
  rw [if_neg (by decide)]
  refine wpAny_bind (wpAny_holding (wpAny_pyIter_list hL ?_))
  refine wpAny_bind (wpAny_holding (PySem.W.kun_draw (items := its) apart i 0 _ _ ⟨_, Heap.get?_push_size _ rfl, rfl, rfl⟩ (hL.push _) (by omega) fun g1 it1 sb1 => ?_))
  rw [Nat.zero_add] at it1
  rw [List.drop_zero, if_neg (by rw [cnt]; omega)]
  have lst1 : g1.IsList l its := (hL.push _).extBut sb1.extBut apart
  have lt1 : s.heap.objs.size < g1.objs.size := by obtain ⟨o, q, _⟩ := it1; exact Heap.lt_size q
  have lt2 : l < g1.objs.size := by obtain ⟨o, q, _⟩ := lst1; exact Heap.lt_size q
  refine wpAny_bind (wpAny_holding (PySem.W.kun_collect (s := { s with heap := g1 }) (T := "list_iterator") (.inr (.inr (.inl rfl))) (Walks.list (A := A.in1) hd s.heap.objs.size l apart its) (fun j u st => st.1.typeIs) (k := i) hi ⟨it1, lst1⟩ lt1 lt2 (fun g2 tk k2 => ?_) few))
  rw [show i + 1 - 1 - i = 0 by omega, if_neg (Nat.not_lt_zero _)]
  refine wpAny_bind (wpAny_newList ?_)
  refine wpAny_pure ?_
  rw [Nat.sub_zero, List.take_of_length_le (Nat.le_refl _), List.drop_of_length_le (Nat.le_refl _), List.append_nil]
  exact h g2 tk fun b o q => k2 b o (Nat.ne_of_lt (Heap.lt_size q)) (sb1.extBut b o (Nat.ne_of_lt (Heap.lt_size q)) (Heap.get?_push_of_some _ q))
def gStr (K : PySem.W.Frag) (i : Nat) (t : TGs) : TG := fun v σ H Q => ∃ a xs, v = .ref a ∧ SqL K H a xs ∧ i ≤ xs.length ∧ ∀ p, H p = none → t (xs.take i ++ [.ref p]) σ (upd H p (.lst (xs.drop i))) Q
theorem pg_star {X : Cx} {es : List Expr} {k i : Nat} {t : TGs} {pos : Pos} (hc : X.calm = true) (h : PGs X es t) (hn : (assignEach es X.env).length = i + 1 := by rfl) (hst : (assignEach es X.env).findIdx? (·.1) = some i := by rfl) : PG X (.Tuple es k pos) (gStr X.K i t) := by
  refine ⟨fun pins s σ H v u Q I r ⟨a, xs, ev, hq, hl, hw⟩ => ?_⟩
  subst ev
  cases r
  obtain ⟨its, rv, pl, hz⟩ := I.list hq
  have hsz : its.toArray.size = xs.length := by rw [List.size_toArray, rv.length]
  rw [PyProof.Rows.assign_Tuple]
  refine wpAny_bind (wpAny_standAt ?_)
  unfold unpack
  rw [hn, hst]
  refine wpAny_bind (wpAny_holding (unp_rest pl.isList (I.ok.hd hc) (by rw [hsz]; exact hl) (by rw [hsz]; exact hz) fun h2 tk k2 => ?_))
  have I2 : Inv X pins σ H { s with heap := h2, toks := tk } := I.kept (t' := tk) k2
  have fr := I2.hok.fresh (Nat.le_refl _)
  have I3 := I2.laid (a := h2.objs.size) (o := .lst (xs.drop i)) (t' := tk) (h' := h2.push { cls := .type "list", data := .seq (its.drop i).toArray }) (fun b u q => Heap.get?_push_of_some _ q) (Nat.le_refl _) ⟨by rw [List.length_drop]; omega, _, 0, rv.drop i, Heap.get?_push_size _ rfl⟩
  exact h.run pins _ σ _ _ _ Q I3 (by
    have := rv.take i
    simpa using Vals.append this (Paired.cons (a := V.ref h2.objs.size) (b := Value.ref h2.objs.size) rfl .nil)) (hw h2.objs.size fr)
section
variable {X : Cx} {N : En} {W : WX} {n : Nat} {δ δ1 : List (Option S)} {μ μ1 μ2 μ3 : List M} {pos tpos : Pos} {e : Expr}
/-- a, .., *rest = e, e a list -/
theorem ds_star (i : Nat) {ts : List Expr} {kk : Nat} {fs : List As} {ix : List Nat} {ds : List D} (g : Go X N W n) (he : DE X N W δ μ e (.v (.p (.lst ds))) μ1) (h : DGs X N ts fs ix) (hl : i ≤ ds.length) (hf : asAll fs (ds.take i ++ [.lst (ds.drop i)]) δ = some δ1) (hn : (assignEach ts X.env).length = i + 1 := by rfl) (hst : (assignEach ts X.env).findIdx? (·.1) = some i := by rfl)
    (hs : swapsWithSole [.Tuple ts kk tpos] e pos.line X.env = pure false := by rfl) (hw : swappedStores [.Tuple ts kk tpos] e X.env = pure none := by rfl)
    (h1 : (assignEach [.Tuple ts kk tpos] X.env).map (·.2) = [assign (.Tuple ts kk tpos) X.env] := by rfl) : DS X N W δ μ (.Assign [.Tuple ts kk tpos] e pos) (.nx δ1 μ1) :=
  PS.imp (ps_asg he (pg_star g.calm h hn hst) hs hw h1) fun K σ H ⟨F, A, R, k⟩ => ⟨F, A, R, fun v F1 A1 H1 e1 p1 R1 rv => by
    obtain ⟨a, vs, rfl, h1, h2⟩ := rep_lst rv
    refine ⟨a, vs, rfl, ?_, by rw [h2.length]; exact hl, fun p np => ?_⟩
    · rw [← g.hK]; exact SqL.of (R1.rc.sub _ _ h1)
    have sm := same_updN (o := .lst (vs.drop i)) (R1.rc.fresh np).2.1
    have R2 := R1.to sm (List.prefix_refl _) (R1.rc.frozen np (.lst (vs.drop i)))
    refine ⟨_, A1, δ, μ1, _, δ1, R2, Reps.append ((h2.take i).mono sm) (.cons (.lst upd_same ((h2.drop i).mono sm)) .nil), hf, fun σ' hw R3 => ?_⟩
    exact k σ' _ A1 _ (e1.trans sm) p1 R3⟩
end
end Dl
set_option Elab.async false
set_option linter.all false
set_option maxRecDepth 100000
set_option maxHeartbeats 4000000
set_option autoImplicit false
namespace Dl
open PySem PySem.Spec PyProof.Rows L2
/-! ## lists cut: xs[lo:hi], xs[lo:hi:step] -/
def cutX {α : Type} (xs : List α) (lo hi : Option Int) : List α := (xs.drop (HT.sIx xs.length 0 lo)).take (HT.sIx xs.length xs.length hi - HT.sIx xs.length 0 lo)
theorem Reps.cut {K : PySem.W.Frag} {F : Hp} {vs : List V} {ds : List D} (r : Reps K F vs ds) (lo hi : Option Int) : Reps K F (cutV vs lo hi) (cutX ds lo hi) := by
  unfold cutV cutX
  rw [r.length]
  exact (r.drop _).take _
theorem sIx_nat (n d i : Nat) : HT.sIx n d (some (i : Int)) = min i n := by
  show (if (i : Int) < 0 then ((i : Int) + (n : Int)).toNat else min (i : Int).toNat n) = _
  rw [if_neg (by omega), Int.toNat_natCast]
theorem sIx_no (n d : Nat) : HT.sIx n d none = d := rfl
theorem cutX_from {α : Type} (xs : List α) (i : Nat) : cutX xs (some (i : Int)) none = xs.drop i := by
  unfold cutX
  rw [sIx_nat, sIx_no]
  rcases Nat.le_total i xs.length with h | h
  · rw [Nat.min_eq_left h, List.take_of_length_le (by simp)]
  · rw [Nat.min_eq_right h, List.drop_of_length_le (Nat.le_refl _), List.drop_of_length_le h]
    simp
theorem cutX_to {α : Type} (xs : List α) (i : Nat) : cutX xs none (some (i : Int)) = xs.take i := by
  unfold cutX
  rw [sIx_nat, sIx_no, List.drop_zero, Nat.sub_zero]
  rcases Nat.le_total i xs.length with h | h
  · rw [Nat.min_eq_left h]
  · rw [Nat.min_eq_right h, List.take_of_length_le (Nat.le_refl _), List.take_of_length_le h]
theorem cutX_mid {α : Type} (xs : List α) (i j : Nat) : cutX xs (some (i : Int)) (some (j : Int)) = (xs.drop i).take (j - i) := by
  unfold cutX
  rw [sIx_nat, sIx_nat]
  rcases Nat.le_total i xs.length with h | h
  · rw [Nat.min_eq_left h]
    rcases Nat.le_total j xs.length with h2 | h2
    · rw [Nat.min_eq_left h2]
    · rw [Nat.min_eq_right h2, List.take_of_length_le (by simp), List.take_of_length_le (by simp; omega)]
  · rw [Nat.min_eq_right h, List.drop_of_length_le (Nat.le_refl _), List.drop_of_length_le h]
    simp
section
variable {X : Cx} {N : En} {W : WX} {n : Nat} {δ : List (Option S)} {μ μ1 μ2 μ3 : List M} {e a b o iter tg : Expr} {es : List Expr} {pos p p2 tpos : Pos} {ds : List D} {d : D} {i j : Int} {lo hi : Option Int}
theorem end_cut {σ : L2.St} {F : Hp} {A : List Addr} {H : Hp} {Q : VK} {v : V} (g : Go X N W n) (R : Rl N F A H σ δ μ) (rv : Rep N.K F v (.lst ds)) (k : EndE N W σ δ F A μ Q (.v (.p (.lst (cutX ds lo hi))))) : rSlL X.K v lo hi H Q := by
  obtain ⟨a, vs, rfl, h1, h2⟩ := rep_lst rv
  refine ⟨a, vs, rfl, by rw [← g.hK]; exact SqL.of (R.rc.sub _ _ h1), fun p np => ?_⟩
  have sm := same_updN (o := .lst (cutV vs lo hi)) (R.rc.fresh np).2.1
  exact k (.ref p) _ A _ sm (List.prefix_refl _) (R.to sm (List.prefix_refl _) (R.rc.frozen np _)) (.lst upd_same ((h2.cut lo hi).mono sm))
/-- xs[i:] -/
theorem de_cutLf (g : Go X N W n) (he : DE X N W δ μ e (.v (.p (.lst ds))) μ1) (ha : DE X N W δ μ1 a (.v (.p (.int i))) μ2) : DE X N W δ μ (.Subscript e (.Slice (some a) none none p2) pos) (.v (.p (.lst (cutX ds (some i) none)))) μ2 :=
  PE.imp (pe_slice sl_list he (po_some ha) po_none) fun σ H Q ⟨F, A, R0, k⟩ => ⟨F, A, R0, fun v F1 A1 H1 e1 a1 R1 rv => by
    refine ⟨F1, A1, R1, fun v2 F2 A2 H2 e2 a2 R2 rv2 => ?_⟩
    cases (show Rep N.K F2 v2 (.int i) from rv2)
    exact ⟨i, rfl, end_cut g R2 (Rep.mono e2 rv) (k.to (e1.trans e2) (a1.trans a2))⟩⟩
/-- xs[:i] -/
theorem de_cutLt (g : Go X N W n) (he : DE X N W δ μ e (.v (.p (.lst ds))) μ1) (ha : DE X N W δ μ1 a (.v (.p (.int i))) μ2) : DE X N W δ μ (.Subscript e (.Slice none (some a) none p2) pos) (.v (.p (.lst (cutX ds none (some i))))) μ2 :=
  PE.imp (pe_slice sl_list he po_none (po_some ha)) fun σ H Q ⟨F, A, R0, k⟩ => ⟨F, A, R0, fun v F1 A1 H1 e1 a1 R1 rv => by
    refine ⟨F1, A1, R1, fun v2 F2 A2 H2 e2 a2 R2 rv2 => ?_⟩
    cases (show Rep N.K F2 v2 (.int i) from rv2)
    exact ⟨i, rfl, end_cut g R2 (Rep.mono e2 rv) (k.to (e1.trans e2) (a1.trans a2))⟩⟩
/-- xs[i:j] -/
theorem de_cutLm (g : Go X N W n) (he : DE X N W δ μ e (.v (.p (.lst ds))) μ1) (ha : DE X N W δ μ1 a (.v (.p (.int i))) μ2) (hb : DE X N W δ μ2 b (.v (.p (.int j))) μ3) : DE X N W δ μ (.Subscript e (.Slice (some a) (some b) none p2) pos) (.v (.p (.lst (cutX ds (some i) (some j))))) μ3 :=
  PE.imp (pe_slice sl_list he (po_some ha) (po_some hb)) fun σ H Q ⟨F, A, R0, k⟩ => ⟨F, A, R0, fun v F1 A1 H1 e1 a1 R1 rv => by
    refine ⟨F1, A1, R1, fun v2 F2 A2 H2 e2 a2 R2 rv2 => ?_⟩
    cases (show Rep N.K F2 v2 (.int i) from rv2)
    refine ⟨i, rfl, F2, A2, R2, fun v3 F3 A3 H3 e3 a3 R3 rv3 => ?_⟩
    cases (show Rep N.K F3 v3 (.int j) from rv3)
    exact ⟨j, rfl, end_cut g R3 (Rep.mono (e2.trans e3) rv) (k.to ((e1.trans e2).trans e3) ((a1.trans a2).trans a3))⟩⟩
end
/-! ## .. with a step -/
def pickX {α : Type} (xs : List α) (lo hi st : Option Int) : List α := (sliceRange (sliceBounds lo hi st xs.length).1 (sliceBounds lo hi st xs.length).2.1 (sliceBounds lo hi st xs.length).2.2).filterMap (xs[·]?)
theorem pick_arr (its : List Value) (lo hi st : Option Int) : slicePick its.toArray lo hi st = (pickX its lo hi st).toArray := by
  unfold slicePick pickX
  simp
theorem pick_rel {xs : List V} {ys : List Value} (r : Vals xs ys) (is : List Nat) : Vals (is.filterMap (xs[·]?)) (is.filterMap (ys[·]?)) := by
  induction is with
  | nil => exact .nil
  | cons i is ih =>
    rw [List.filterMap_cons, List.filterMap_cons]
    cases hx : xs[i]? with
    | none =>
      have hy : ys[i]? = none := by
        rw [List.getElem?_eq_none_iff] at hx ⊢
        rw [← r.length]
        exact hx
      simp only [hy]
      exact ih
    | some x =>
      obtain ⟨y, hy, hr⟩ := r.get hx
      simp only [hy]
      exact .cons hr ih
theorem Vals.pick {vs : List V} {us : List Value} (r : Vals vs us) (lo hi st : Option Int) : Vals (pickX vs lo hi st) (pickX us lo hi st) := by
  unfold pickX
  rw [r.length]
  exact pick_rel r _
theorem Reps.pick {K : PySem.W.Frag} {F : Hp} {vs : List V} {ds : List D} (r : Reps K F vs ds) (lo hi st : Option Int) : Reps K F (pickX vs lo hi st) (pickX ds lo hi st) := by
  unfold pickX
  rw [r.length]
  generalize sliceRange (sliceBounds lo hi st ds.length).1 (sliceBounds lo hi st ds.length).2.1 (sliceBounds lo hi st ds.length).2.2 = is
  induction is with
  | nil => exact .nil
  | cons i is ih =>
    rw [List.filterMap_cons, List.filterMap_cons]
    cases hx : vs[i]? with
    | none =>
      have hy : ds[i]? = none := by
        rw [List.getElem?_eq_none_iff] at hx ⊢
        rw [← r.length]
        exact hx
      simp only [hy]
      exact ih
    | some x =>
      obtain ⟨y, hy, hr⟩ := r.get' hx
      simp only [hy]
      exact .cons hr ih
def evens {α : Type} : List α → List α
  | [] => []
  | [a] => [a]
  | a :: _ :: r => a :: evens r
theorem evens_at {α : Type} : ∀ (xs : List α), (List.range ((xs.length + 1) / 2)).filterMap (fun k => xs[2 * k]?) = evens xs
  | [] => by simp [evens]
  | [a] => by simp [evens, List.range_succ]
  | a :: b :: r => by
    have e : ((a :: b :: r).length + 1) / 2 = (r.length + 1) / 2 + 1 := by simp; omega
    rw [e, List.range_succ_eq_map, List.filterMap_cons]
    show a :: _ = a :: evens r
    rw [List.filterMap_map]
    congr 1
    rw [← evens_at r]
    congr 1
theorem pick_even {α : Type} (xs : List α) : pickX xs none none (some 2) = evens xs := by
  unfold pickX sliceBounds sliceRange
  simp only [Option.getD_some, show (2 : Int) > 0 by decide, if_true]
  rw [← evens_at xs]
  rw [List.filterMap_map]
  have e : (if (0 : Int) < (xs.length : Int) then ((xs.length : Int) - 0 + 2 - 1) / 2 else 0).toNat = (xs.length + 1) / 2 := by
    split
    · omega
    · omega
  rw [e]
  congr 1
  funext k
  show xs[((0 : Int) + 2 * (k : Int)).toNat]? = xs[2 * k]?
  rw [show ((0 : Int) + 2 * (k : Int)).toNat = 2 * k by omega]
theorem pick_odd {α : Type} (xs : List α) : pickX xs (some 1) none (some 2) = evens (xs.drop 1) := by
  unfold pickX sliceBounds sliceRange
  simp only [Option.getD_some, show (2 : Int) > 0 by decide, if_true, show ¬ (1 : Int) < 0 by decide, if_false]
  rw [← evens_at (xs.drop 1)]
  rw [List.filterMap_map, List.length_drop]
  cases xs with
  | nil => simp
  | cons a r =>
    have m : max (0 : Int) (min 1 ((a :: r).length : Int)) = 1 := by simp; omega
    rw [m]
    have e : (if (1 : Int) < ((a :: r).length : Int) then (((a :: r).length : Int) - 1 + 2 - 1) / 2 else 0).toNat = ((a :: r).length - 1 + 1) / 2 := by
      simp only [List.length_cons]
      split
      · omega
      · omega
    rw [e]
    congr 1
    funext k
    show (a :: r)[((1 : Int) + 2 * (k : Int)).toNat]? = r[2 * k]?
    rw [show ((1 : Int) + 2 * (k : Int)).toNat = 2 * k + 1 by omega, List.getElem?_cons_succ]
section
variable {X : Cx} {e st : Expr} {te : TE} {lo hi : Option Expr} {tl th tc : TO} {pos p2 : Pos}
theorem pe_slice3 (he : PE X e te) (hl : PO X lo tl) (hu : PO X hi th) (hc : PO X (some st) tc) : PE X (.Subscript e (.Slice lo hi (some st) p2) pos) (fun σ H Q => te σ H fun x H1 => tl σ H1 fun l H2 => th σ H2 fun u H3 => tc σ H3 fun c H4 => ∃ a xs, x = .ref a ∧ SqL X.K H4 a xs ∧ c ≠ some 0 ∧ (pickX xs l u c).length ≤ sizeLine ∧ ∀ p, H4 p = none → Q (.ref p) (upd H4 p (.lst (pickX xs l u c)))) := by
  refine ⟨fun pins s σ H Q I h => ?_⟩
  refine Subscript_ (thn (he.run pins s σ H _ I h) fun v s1 ⟨x, H1, I1, r1, q1⟩ => ?_)
  refine wpAny_Slice (thn (hl.run pins s1 σ H1 _ I1 q1) fun vl s2 ⟨l, H2, I2, pl, q2⟩ => thn (hu.run pins s2 σ H2 _ I2 q2) fun vu s3 ⟨u, H3, I3, pu, q3⟩ => thn (hc.run pins s3 σ H3 _ I3 q3) fun vc s4 ⟨c, H4, I4, pc, q4⟩ => ?_)
  have I5 : Inv X pins σ H4 { s4 with heap := s4.heap.push { cls := .type "slice", data := .fields #[vl, vu, vc] } } := I4.kept (t' := s4.toks) fun b ob q => Heap.get?_push_of_some _ q
  obtain ⟨a, xs, rfl, hx, h0, hz2, q⟩ := q4
  cases r1
  obtain ⟨its, r, ht, hz⟩ := I5.list hx
  have hlen := r.length
  have z : wpAny (model X.prog X.w) X.A (getItem (.ref a) (.ref s4.heap.objs.size)) (EP X pins σ Q) X.xe { s4 with heap := s4.heap.push { cls := .type "slice", data := .fields #[vl, vu, vc] } } := by
    refine wpAny_getItem_list_slice ht.isList (Heap.IsSliceOf.new ..) pl pu pc h0 ?_ (by rw [List.size_toArray] <;> omega)
    rw [pick_arr]
    exact ⟨.ref (s4.heap.push { cls := .type "slice", data := .fields #[vl, vu, vc] }).objs.size, _, I5.laid (t' := s4.toks) (o := .lst (pickX xs l u c)) (fun b ob q => Heap.get?_push_of_some _ q) (Nat.le_refl _) ⟨hz2, _, 0, Vals.pick r l u c, Heap.get?_push_size _ rfl⟩, rfl, q _ (I5.hok.fresh (Nat.le_refl _))⟩
  show wpAny (model X.prog X.w) X.A (subscriptTail e (.Slice lo hi (some st) p2) (.ref a) (.ref s4.heap.objs.size)) (EP X pins σ Q) X.xe { s4 with heap := s4.heap.push { cls := .type "slice", data := .fields #[vl, vu, vc] } }
  exact tail_any (ops := [.ref a, .ref s4.heap.objs.size]) ht.isList.typeIs PySem.F.slot_list_getitem.lookup z (by with_unfolding_all rfl)
end
section
variable {X : Cx} {N : En} {W : WX} {n : Nat} {δ : List (Option S)} {μ μ1 : List M} {e : Expr} {pos p2 p3 p4 : Pos} {ds : List D} {k3 k4 : Nat}
theorem evens_len {α : Type} : ∀ xs : List α, (evens xs).length ≤ xs.length
  | [] => Nat.le_refl _
  | [_] => Nat.le_refl _
  | _ :: _ :: r => by
    have := evens_len r
    simp [evens]
    omega
/-- xs[::2] -/
theorem de_even (g : Go X N W n) (he : DE X N W δ μ e (.v (.p (.lst ds))) μ1) (hl : ds.length ≤ 100000) : DE X N W δ μ (.Subscript e (.Slice none none (some (.Constant (.int 2) k3 p3)) p2) pos) (.v (.p (.lst (evens ds)))) μ1 :=
  PE.imp (pe_slice3 he po_none po_none (po_some pe_int)) fun σ H Q ⟨F, A, R0, k⟩ => ⟨F, A, R0, fun v F1 A1 H1 e1 a1 R1 rv => by
    obtain ⟨a, vs, rfl, h1, h2⟩ := rep_lst rv
    have hv := evens_len vs
    have hv2 := h2.length
    refine ⟨2, rfl, a, vs, rfl, by rw [← g.hK]; exact SqL.of (R1.rc.sub _ _ h1), by decide, by rw [pick_even, sizeLine_eq]; omega, fun p np => ?_⟩
    have sm := same_updN (o := .lst (pickX vs none none (some 2))) (R1.rc.fresh np).2.1
    refine k (.ref p) _ A1 _ (e1.trans sm) a1 (R1.to sm (List.prefix_refl _) (R1.rc.frozen np _)) (.lst upd_same ?_)
    have := (Reps.pick h2 none none (some 2)).mono sm
    rw [pick_even ds] at this
    exact this⟩
/-- xs[1::2] -/
theorem de_odd (g : Go X N W n) (he : DE X N W δ μ e (.v (.p (.lst ds))) μ1) (hl : ds.length ≤ 100000) : DE X N W δ μ (.Subscript e (.Slice (some (.Constant (.int 1) k4 p4)) none (some (.Constant (.int 2) k3 p3)) p2) pos) (.v (.p (.lst (evens (ds.drop 1))))) μ1 :=
  PE.imp (pe_slice3 he (po_some pe_int) po_none (po_some pe_int)) fun σ H Q ⟨F, A, R0, k⟩ => ⟨F, A, R0, fun v F1 A1 H1 e1 a1 R1 rv => by
    obtain ⟨a, vs, rfl, h1, h2⟩ := rep_lst rv
    have hv := evens_len (vs.drop 1)
    have hv2 := h2.length
    refine ⟨1, rfl, 2, rfl, a, vs, rfl, by rw [← g.hK]; exact SqL.of (R1.rc.sub _ _ h1), by decide, by rw [pick_odd, sizeLine_eq]; rw [List.length_drop] at hv; omega, fun p np => ?_⟩
    have sm := same_updN (o := .lst (pickX vs (some 1) none (some 2))) (R1.rc.fresh np).2.1
    refine k (.ref p) _ A1 _ (e1.trans sm) a1 (R1.to sm (List.prefix_refl _) (R1.rc.frozen np _)) (.lst upd_same ?_)
    have := (Reps.pick h2 (some 1) none (some 2)).mono sm
    rw [pick_odd ds] at this
    exact this⟩
end
end Dl
set_option Elab.async false
set_option linter.all false
set_option maxRecDepth 100000
set_option maxHeartbeats 4000000
set_option autoImplicit false
namespace Dl
open PySem PySem.Spec PyProof.Rows L2
/-! ## one < other: texts, pairs of a text and an int; in a tuple of texts; range with a step -/
def sltB (a b : Str) : Bool := decide (a.cps.toList < b.cps.toList)
def pltB (p q : Str × Int) : Bool := PySem.W.DatumOrd.lt p q
theorem op_ltP {X : Cx} (hu : X.A.units + 64 < cLine) : OpR X (compareOp .Lt) (fun x y H Q => ∃ (p q : Str × Int), Dp X.K H x (.tuple [.str p.1, .int p.2]) ∧ Dp X.K H y (.tuple [.str q.1, .int q.2]) ∧ Q (.bl (pltB p q)) H) := by
  intro pins s σ H x y v u Q I rx ry ⟨p, q, h1, h2, k⟩
  obtain ⟨as, r1⟩ := Dp.reads I _ x v h1 rx
  obtain ⟨bs, r2⟩ := Dp.reads I _ y u h2 ry
  exact PySem.W.lt_datum (x := p) (y := q) ⟨as, r1⟩ ⟨bs, r2⟩ (Nat.lt_of_le_of_lt (Nat.add_le_add_left (by decide) _) hu) ⟨.bl _, H, I, rfl, k⟩
section
variable {X : Cx} {N : En} {W : WX} {n : Nat} {δ : List (Option S)} {μ μ1 : List M} {a b c tg : Expr} {p pos : Pos}
theorem o_ltS {i j : Str} : OpOk X N W (compareOp .Lt) μ (.p (.str i)) (.p (.str j)) (.v (.p (.bl (sltB i j)))) μ :=
  ⟨_, op_lt_str, fun σ δ F A H x y Q R rx ry k => by
    cases (show Rep N.K F x (.str i) from rx)
    cases (show Rep N.K F y (.str j) from ry)
    exact ⟨i, j, rfl, rfl, k.here R (.bl _)⟩⟩
def pairD (p : Str × Int) : D := .tup [.str p.1, .int p.2]
theorem o_ltP (g : Go X N W n) {p q : Str × Int} : OpOk X N W (compareOp .Lt) μ (.p (pairD p)) (.p (pairD q)) (.v (.p (.bl (pltB p q)))) μ :=
  ⟨_, op_ltP (by have := g.room.un; omega), fun σ δ F A H x y Q R rx ry k => by
    have pd : ∀ p : Str × Int, PyD (pairD p) (.tuple [.str p.1, .int p.2]) := fun p => .tup (.cons (.str _) (.cons (.int _) .nil))
    exact ⟨p, q, by rw [← g.hK]; exact (pd p).dp R.rc.sub rx, by rw [← g.hK]; exact (pd q).dp R.rc.sub ry, k.here R (.bl _)⟩⟩
/-- a text in a tuple of texts -/
theorem strs_vals {K : PySem.W.Frag} {F : Hp} : ∀ {zs : List Str} {vs : List V}, Reps K F vs (zs.map D.str) → vs = zs.map V.str
  | [], _, h => by cases h; rfl
  | z :: zs, _, h => by
    cases h with
    | cons r t =>
      cases (show Rep K F _ (.str z) from r)
      rw [strs_vals t]
      rfl
theorem inV_strs (z : Str) : ∀ zs : List Str, inV (.str z) (zs.map V.str) = decide (z ∈ zs)
  | [] => rfl
  | y :: zs => by
    have := inV_strs z zs
    unfold inV at *
    rw [List.map_cons, List.any_cons, this]
    show ((y == z) || decide (z ∈ zs)) = decide (z ∈ y :: zs)
    by_cases h : z = y
    · subst h; simp
    · have h' : ¬ y = z := fun q => h q.symm
      simp [h, h']
theorem o_inStrT (g : Go X N W n) {z : Str} {zs : List Str} : OpOk X N W (compareOp .In) μ (.p (.str z)) (.p (.tup (zs.map D.str))) (.v (.p (.bl (decide (z ∈ zs))))) μ :=
  ⟨_, op_in_seq, fun σ δ F A H x y Q R rx ry k => by
    cases (show Rep N.K F x (.str z) from rx)
    obtain ⟨a, vs, rfl, h1, h2⟩ := rep_tup (show Rep N.K F y (.tup (zs.map D.str)) from ry)
    have e := strs_vals h2
    subst e
    refine ⟨a, _, rfl, .inr (by rw [← g.hK]; exact same_sqT R.rc.sub h1), rfl, by simp [flatV], ?_⟩
    rw [inV_strs]
    exact k.here R (.bl _)⟩
def stepD (lo c : Int) (n : Nat) : List D := (List.range n).map fun i => D.int (lo + (i : Nat) * c)
theorem yl_rangeC {K : PySem.W.Frag} {F : Hp} {lo c : Int} {n : Nat} : Yl K (Itc lo c n) F (stepD lo c n) := by
  unfold Yl
  rw [show (stepD lo c n).length = n from by simp [stepD]]
  exact Walk.mono (walk_rangeC (lo := lo) (c := c) (n := n)) (fun _ _ => trivial) fun i H x H' hi _ ⟨e, hx⟩ => by
    refine ⟨.int (lo + i * c), ?_, .inl ⟨e, by rw [hx]; exact .int _⟩⟩
    rw [stepD, List.getElem?_map, List.getElem?_range hi]
    rfl
theorem di_range3 {i j k : Int} {m : Nat} (h : DA X N W δ μ [a, b, c] [.p (.int i), .p (.int j), .p (.int k)] μ1) (hm : X.mg "range" = none) (h1 : RgC i j k m) (hg : Gl X "range" := by rfl) (hs : starEach [a, b, c] X.env = (false, eval a X.env) :: starEach [b, c] X.env := by rfl) (hpl : (backTo pos (starEach [b, c] X.env)).any (·.1) = false := by rfl) : DI X N W δ μ tg (.Call (.Name "range" p) [a, b, c] [] pos) (stepD i k m) μ1 :=
  PI.imp (pi_range3 hg hm h hs hpl) fun σ H Rk ⟨F, A, R, kk⟩ => ⟨F, A, R, fun vs F1 A1 H1 e1 p1 R1 rv => by
    cases rv with
    | cons r1 r2 =>
      cases r2 with
      | cons r2 r3 =>
        cases r3 with
        | cons r3 r4 =>
          cases r4
          have r1' : Rep N.K F1 _ (.int i) := r1
          have r2' : Rep N.K F1 _ (.int j) := r2
          have r3' : Rep N.K F1 _ (.int k) := r3
          cases r1'
          cases r2'
          cases r3'
          exact ⟨i, j, k, m, rfl, h1, kk _ F1 A1 H1 e1 p1 R1 yl_rangeC⟩⟩
end
end Dl
set_option Elab.async false
set_option linter.all false
set_option maxRecDepth 100000
set_option maxHeartbeats 4000000
set_option autoImplicit false
namespace Cq
open PySem PySem.Spec PyProof.Rows L2 Dl
/-! # merging runs -/
section
variable {T : Type} [DecidableEq T] (lt : T → T → Bool)
def mrg : List T → List T → List T
  | [], ys => ys
  | x :: xs, [] => x :: xs
  | x :: xs, y :: ys => if lt x y then x :: mrg xs (y :: ys) else if x = y then y :: mrg xs ys else y :: mrg (x :: xs) ys
termination_by a b => a.length + b.length
def pairUp : List (List T) → List (List T)
  | [] => []
  | [a] => [a]
  | a :: b :: r => mrg lt a b :: pairUp r
theorem pairUp_len : ∀ l : List (List T), (pairUp lt l).length = (l.length + 1) / 2
  | [] => by simp [pairUp]
  | [_] => by simp [pairUp]
  | a :: b :: r => by
    show (pairUp lt r).length + 1 = _
    rw [pairUp_len r]
    simp only [List.length_cons]
    omega
def ascR (l : List (List T)) : List (List T) := if h : 1 < l.length then ascR (pairUp lt l) else l
termination_by l.length
decreasing_by rw [pairUp_len]; omega
def ascF (xs : List T) : List T := (ascR lt (xs.map fun x => [x])).flatten
theorem mem_mrg (z : T) : ∀ xs ys : List T, z ∈ mrg lt xs ys ↔ z ∈ xs ∨ z ∈ ys
  | [], ys => by unfold mrg; simp
  | x :: xs, [] => by unfold mrg; simp
  | x :: xs, y :: ys => by
    unfold mrg
    split
    · rw [List.mem_cons, mem_mrg z xs (y :: ys), List.mem_cons, List.mem_cons]
      constructor
      · rintro (h | h | h) <;> simp [h]
      · rintro ((h | h) | h) <;> simp [h]
    · split
      · rename_i e
        subst e
        rw [List.mem_cons, mem_mrg z xs ys, List.mem_cons, List.mem_cons]
        constructor
        · rintro (h | h | h) <;> simp [h]
        · rintro ((h | h) | h | h) <;> simp [h]
      · rw [List.mem_cons, mem_mrg z (x :: xs) ys, List.mem_cons, List.mem_cons]
        constructor
        · rintro (h | h | h) <;> simp [h]
        · rintro (h | h | h) <;> simp [h]
termination_by a b => a.length + b.length
theorem mem_pairUp (z : T) : ∀ l : List (List T), z ∈ (pairUp lt l).flatten ↔ z ∈ l.flatten
  | [] => Iff.rfl
  | [_] => Iff.rfl
  | a :: b :: r => by
    show z ∈ (mrg lt a b :: pairUp lt r).flatten ↔ _
    rw [List.flatten_cons, List.mem_append, mem_mrg, mem_pairUp z r, List.flatten_cons, List.flatten_cons, List.mem_append, List.mem_append, or_assoc]
theorem mrg_len : ∀ xs ys : List T, (mrg lt xs ys).length ≤ xs.length + ys.length
  | [], ys => by unfold mrg; simp
  | x :: xs, [] => by unfold mrg; simp
  | x :: xs, y :: ys => by
    unfold mrg
    split
    · have := mrg_len xs (y :: ys)
      simp only [List.length_cons] at *
      omega
    · split
      · have := mrg_len xs ys
        simp only [List.length_cons] at *
        omega
      · have := mrg_len (x :: xs) ys
        simp only [List.length_cons] at *
        omega
termination_by a b => a.length + b.length
theorem pairUp_sum : ∀ l : List (List T), (pairUp lt l).flatten.length ≤ l.flatten.length
  | [] => Nat.le_refl _
  | [_] => Nat.le_refl _
  | a :: b :: r => by
    have h1 := mrg_len lt a b
    have h2 := pairUp_sum r
    show (mrg lt a b :: pairUp lt r).flatten.length ≤ _
    simp only [List.flatten_cons, List.length_append]
    omega
theorem ascR_sum (l : List (List T)) : (ascR lt l).flatten.length ≤ l.flatten.length := by
  unfold ascR
  split
  · rename_i h
    have hl := pairUp_len lt l
    exact Nat.le_trans (ascR_sum (pairUp lt l)) (pairUp_sum lt l)
  · exact Nat.le_refl _
termination_by l.length
decreasing_by omega
theorem ascF_len (xs : List T) : (ascF lt xs).length ≤ xs.length := by
  refine Nat.le_trans (ascR_sum lt _) ?_
  induction xs with
  | nil => exact Nat.le_refl _
  | cons x xs ih => simp only [List.map_cons, List.flatten_cons, List.length_append, List.length_cons, List.length_nil] at *; omega
/-! ## ascending -/
variable {lt}
end
/-! ## texts in order -/
end Cq
set_option Elab.async false
set_option linter.all false
set_option maxRecDepth 100000
set_option maxHeartbeats 4000000
set_option autoImplicit false
namespace Cq
open PySem PySem.Spec PyProof.Rows L2 Dl
/-! # lines of circuits, as words of signs -/
inductive Ln where
  | ab (q : Bool) (s : Int) (L : List Nat)
  | h (a : Nat)
  | pr (k a b : Nat)
  | tn (s : Int) (L : List Nat) (ps : List (List Nat × Int))
deriving DecidableEq
abbrev wFlip : List Nat := [102, 108, 105, 112]
abbrev wQuarter : List Nat := [113, 117, 97, 114, 116, 101, 114]
abbrev wTurn : List Nat := [116, 117, 114, 110]
abbrev wBy : List Nat := [98, 121]
def pn (k : Nat) : List Nat := if k = 0 then [99, 122] else if k = 1 then [99, 120] else [115, 119, 97, 112]
def sgL (L : List Nat) (s : Int) : List Nat := if s < 0 then 45 :: L else L
def mt (i : Int) : List Nat := if i < 0 then [45, 48 + (-i).toNat] else [48 + i.toNat]
def lw : Ln → List (List Nat)
  | .ab q s L => [if q then wQuarter else wFlip, sgL L s]
  | .h a => [[104], [48 + a]]
  | .pr k a b => [pn k, [48 + a], [48 + b]]
  | .tn s L ps => wTurn :: sgL L s :: wBy :: ps.flatMap fun p => [mt p.2, p.1]
def lt (l : Ln) : List Nat := TL.joinL [32] (lw l)
def wT (w : Nat) : List Nat := [119, 105, 114, 101, 115, 32, 48 + w]
def ct (w : Nat) (ls : List Ln) : List Nat := TL.joinL [10] (wT w :: ls.map lt)
structure okNm (k : List Nat) : Prop where
  one : 1 ≤ k.length
  eight : k.length ≤ 8
  az : ∀ c ∈ k, 97 ≤ c ∧ c ≤ 122
def manys : List Int := [1, 2, 3, 4, -1, -2, -3, -4]
structure okWd (w : Nat) (s : Int) (L : List Nat) : Prop where
  okL : Dl.okL L
  pm : s = 1 ∨ s = -1
  len : L.length = w
  ne : L ≠ List.replicate w 73
def okLn (w : Nat) : Ln → Prop
  | .ab _ s L => okWd w s L
  | .h a => a < w
  | .pr k a b => k < 3 ∧ a < w ∧ b < w ∧ a ≠ b
  | .tn s L ps => okWd w s L ∧ 1 ≤ ps.length ∧ ps.length ≤ 3 ∧ (ps.map (·.1)).Nodup ∧ ∀ p ∈ ps, okNm p.1 ∧ p.2 ∈ manys
def isT : Ln → Bool
  | .tn _ _ _ => true
  | _ => false
structure okC (w : Nat) (ls : List Ln) : Prop where
  w1 : 1 ≤ w
  w4 : w ≤ 4
  ok : ∀ l ∈ ls, okLn w l
  len : ls.length ≤ 40
  six : (ls.filter isT).length ≤ 6
/-! ## signs in them -/
theorem in_IXYZ {c : Nat} (h : c ∈ IXYZ) : c = 73 ∨ c = 88 ∨ c = 89 ∨ c = 90 := by
  simpa [IXYZ] using h
def gd (c : Nat) : Prop := 33 ≤ c ∧ c ≤ 122
theorem gd_sgL {L : List Nat} {s : Int} (h : okL L) : ∀ c ∈ sgL L s, gd c := by
  intro c hc
  have hx : ∀ d ∈ L, gd d := fun d hd => by
    rcases in_IXYZ (h.all d hd) with rfl | rfl | rfl | rfl <;> exact ⟨by decide, by decide⟩
  unfold sgL at hc
  split at hc
  · rcases List.mem_cons.mp hc with rfl | hc
    · exact ⟨by decide, by decide⟩
    · exact hx c hc
  · exact hx c hc
theorem gd_mt {i : Int} (h : i ∈ manys) : ∀ c ∈ mt i, gd c := by
  have : ∀ j ∈ manys, ∀ c ∈ mt j, 33 ≤ c ∧ c ≤ 122 := by decide
  exact this i h
theorem gd_lw {w : Nat} {l : Ln} (hw : w ≤ 4) (h : okLn w l) : ∀ p ∈ lw l, p ≠ [] ∧ ∀ c ∈ p, gd c := by
  have fixed : ∀ p ∈ [wFlip, wQuarter, wTurn, wBy, [104], pn 0, pn 1, pn 2, [48], [49], [50], [51]], p ≠ [] ∧ ∀ c ∈ p, 33 ≤ c ∧ c ≤ 122 := by decide
  have dig : ∀ a, a < w → ([48 + a] : List Nat) ≠ [] ∧ ∀ c ∈ [48 + a], gd c := fun a ha => ⟨by simp, fun c hc => by
    rw [List.mem_singleton.mp hc]
    exact ⟨by omega, by omega⟩⟩
  have sg : ∀ {s : Int} {L : List Nat}, okWd w s L → sgL L s ≠ [] ∧ ∀ c ∈ sgL L s, gd c := fun {s L} o => ⟨fun e => by
    have := o.okL.one
    unfold sgL at e
    split at e
    · cases e
    · rw [e] at this; simp at this, gd_sgL o.okL⟩
  cases l with
  | ab q s L =>
    intro p hp
    rcases List.mem_cons.mp (show p ∈ [if q then wQuarter else wFlip, sgL L s] from hp) with rfl | hp
    · cases q
      · exact fixed wFlip (by simp)
      · exact fixed wQuarter (by simp)
    · rw [List.mem_singleton.mp hp]
      exact sg h
  | h a =>
    intro p hp
    rcases List.mem_cons.mp (show p ∈ [[104], [48 + a]] from hp) with rfl | hp
    · exact fixed [104] (by simp)
    · rw [List.mem_singleton.mp hp]
      exact dig a h
  | pr k a b =>
    intro p hp
    rcases List.mem_cons.mp (show p ∈ [pn k, [48 + a], [48 + b]] from hp) with rfl | hp
    · have h1 : k < 3 := h.1
      match k, h1 with
      | 0, _ => exact fixed (pn 0) (by simp)
      | 1, _ => exact fixed (pn 1) (by simp)
      | 2, _ => exact fixed (pn 2) (by simp)
    · rcases List.mem_cons.mp hp with rfl | hp
      · exact dig a h.2.1
      · rw [List.mem_singleton.mp hp]
        exact dig b h.2.2.1
  | tn s L ps =>
    intro p hp
    rcases List.mem_cons.mp (show p ∈ wTurn :: sgL L s :: wBy :: _ from hp) with rfl | hp
    · exact fixed wTurn (by simp)
    rcases List.mem_cons.mp hp with rfl | hp
    · exact sg h.1
    rcases List.mem_cons.mp hp with rfl | hp
    · exact fixed wBy (by simp)
    obtain ⟨x, hx, hp⟩ := List.mem_flatMap.mp hp
    obtain ⟨o1, o2⟩ := h.2.2.2.2 x hx
    rcases List.mem_cons.mp hp with rfl | hp
    · refine ⟨fun e => ?_, gd_mt o2⟩
      unfold mt at e
      split at e <;> cases e
    · rw [List.mem_singleton.mp hp]
      refine ⟨fun e => ?_, fun c hc => ?_⟩
      · have := o1.one
        rw [e] at this; simp at this
      · have := o1.az c hc
        exact ⟨by omega, this.2⟩
theorem mem_joinL {c : Nat} {S : List Nat} : ∀ {ps : List (List Nat)}, c ∈ TL.joinL S ps → c ∈ S ∨ ∃ p ∈ ps, c ∈ p
  | [], h => by cases h
  | [p], h => .inr ⟨p, by simp, h⟩
  | p :: q :: r, h => by
    rcases List.mem_append.mp (show c ∈ p ++ (S ++ TL.joinL S (q :: r)) from h) with h | h
    · exact .inr ⟨p, by simp, h⟩
    · rcases List.mem_append.mp h with h | h
      · exact .inl h
      · rcases mem_joinL h with h | ⟨z, h1, h2⟩
        · exact .inl h
        · exact .inr ⟨z, by simp [h1], h2⟩
theorem lt_signs {w : Nat} {l : Ln} (hw : w ≤ 4) (h : okLn w l) : ∀ c ∈ lt l, 32 ≤ c ∧ c ≤ 122 := by
  intro c hc
  rcases mem_joinL hc with h1 | ⟨p, h1, h2⟩
  · rw [List.mem_singleton.mp h1]; decide
  · have := (gd_lw hw h p h1).2 c h2
    exact ⟨by have := this.1; omega, this.2⟩
theorem lw_ne (l : Ln) : lw l ≠ [] := by cases l <;> simp [lw]
theorem split_lt {w : Nat} {l : Ln} (hw : w ≤ 4) (h : okLn w l) : TL.spl [32] 0 [] (lt l) = lw l :=
  TL.spl_join (lw_ne l) fun p hp hc => by
    have := ((gd_lw hw h p hp).2 32 hc).1
    omega
theorem split_ct {w : Nat} {ls : List Ln} (h : okC w ls) : TL.spl [10] 0 [] (ct w ls) = wT w :: ls.map lt :=
  TL.spl_join (by simp) fun p hp hc => by
    rcases List.mem_cons.mp hp with rfl | hp
    · have hw := h.w4
      simp only [wT, List.mem_cons, List.not_mem_nil, or_false] at hc
      omega
    · obtain ⟨l, hl, rfl⟩ := List.mem_map.mp hp
      have := (lt_signs h.w4 (h.ok l hl) 10 hc).1
      omega
/-! ## lengths -/
theorem joinL_len {S : List Nat} {m : Nat} : ∀ {ps : List (List Nat)}, (∀ p ∈ ps, p.length ≤ m) → (TL.joinL S ps).length ≤ ps.length * (m + S.length)
  | [], _ => Nat.zero_le _
  | [p], h => by
    show p.length ≤ 1 * (m + S.length)
    have := h p (by simp)
    omega
  | p :: q :: r, h => by
    show (p ++ (S ++ TL.joinL S (q :: r))).length ≤ _
    have h1 := h p (by simp)
    have h2 := joinL_len (S := S) (ps := q :: r) fun z hz => h z (by simp [hz])
    rw [List.length_append, List.length_append, List.length_cons, Nat.succ_mul]
    omega
theorem sgL_len {w : Nat} {s : Int} {L : List Nat} (h : okWd w s L) : (sgL L s).length ≤ 5 := by
  have := h.okL.four
  unfold sgL
  split <;> simp <;> omega
theorem lw_len {w : Nat} {l : Ln} (h : okLn w l) : (lw l).length ≤ 9 ∧ ∀ p ∈ lw l, p.length ≤ 8 := by
  have fixed : ∀ p ∈ [wFlip, wQuarter, wTurn, wBy, [104], pn 0, pn 1, pn 2], p.length ≤ 8 := by decide
  cases l with
  | ab q s L =>
    refine ⟨show 2 ≤ 9 by decide, fun p hp => ?_⟩
    rcases List.mem_cons.mp (show p ∈ [if q then wQuarter else wFlip, sgL L s] from hp) with rfl | hp
    · cases q <;> decide
    · rw [List.mem_singleton.mp hp]
      have := sgL_len h
      omega
  | h a => exact ⟨show 2 ≤ 9 by decide, fun p hp => by
      rcases List.mem_cons.mp (show p ∈ [[104], [48 + a]] from hp) with rfl | hp
      · decide
      · rw [List.mem_singleton.mp hp]; show 1 ≤ 8; decide⟩
  | pr k a b =>
    refine ⟨show 3 ≤ 9 by decide, fun p hp => ?_⟩
    rcases List.mem_cons.mp (show p ∈ [pn k, [48 + a], [48 + b]] from hp) with rfl | hp
    · unfold pn; split
      · decide
      · split <;> decide
    · rcases List.mem_cons.mp hp with rfl | hp
      · show 1 ≤ 8; decide
      · rw [List.mem_singleton.mp hp]; show 1 ≤ 8; decide
  | tn s L ps =>
    refine ⟨?_, fun p hp => ?_⟩
    · show (ps.flatMap fun p => [mt p.2, p.1]).length + 1 + 1 + 1 ≤ 9
      have e : ∀ qs : List (List Nat × Int), (qs.flatMap fun p => [mt p.2, p.1]).length = 2 * qs.length := fun qs => by
        induction qs with
        | nil => rfl
        | cons x xs ih => rw [List.flatMap_cons, List.length_append, ih, List.length_cons]; simp; omega
      rw [e]
      have := h.2.2.1
      omega
    · rcases List.mem_cons.mp (show p ∈ wTurn :: sgL L s :: wBy :: _ from hp) with rfl | hp
      · decide
      rcases List.mem_cons.mp hp with rfl | hp
      · have := sgL_len h.1
        omega
      rcases List.mem_cons.mp hp with rfl | hp
      · decide
      obtain ⟨x, hx, hp⟩ := List.mem_flatMap.mp hp
      rcases List.mem_cons.mp hp with rfl | hp
      · unfold mt; split <;> simp
      · rw [List.mem_singleton.mp hp]
        exact (h.2.2.2.2 x hx).1.eight
theorem lt_len {w : Nat} {l : Ln} (h : okLn w l) : (lt l).length ≤ 81 := by
  obtain ⟨h1, h2⟩ := lw_len h
  have := joinL_len (S := [32]) h2
  have e : (lw l).length * (8 + ([32] : List Nat).length) ≤ 9 * 9 := Nat.mul_le_mul h1 (Nat.le_refl _)
  unfold lt
  omega
theorem ct_len {w : Nat} {ls : List Ln} (h : okC w ls) : (ct w ls).length ≤ 3500 := by
  have := joinL_len (S := [10]) (m := 81) (ps := wT w :: ls.map lt) fun p hp => by
    rcases List.mem_cons.mp hp with rfl | hp
    · show 7 ≤ 81; decide
    · obtain ⟨l, hl, rfl⟩ := List.mem_map.mp hp
      exact lt_len (h.ok l hl)
  have e : (wT w :: ls.map lt).length * (81 + ([10] : List Nat).length) ≤ 41 * 82 := Nat.mul_le_mul (by have := h.len; simp; omega) (Nat.le_refl _)
  unfold ct
  omega
/-! ## what they are read as -/
abbrev pairS (p : List Nat × Int) : Str × Int := (st p.1, p.2)
def formF (ps : List (List Nat × Int)) : List (Str × Int) := ascF pltB (ps.map pairS)
def stpD : Ln → D
  | .ab q s L => .tup [.str (st (if q then wQuarter else wFlip)), .str (st L), .int s]
  | .h a => .tup [.str (st [104]), .int (a : Nat)]
  | .pr k a b => .tup [.str (st (pn k)), .int (a : Nat), .int (b : Nat)]
  | .tn s L ps => .tup [.str (st wTurn), .str (st L), .int s, .tup ((formF ps).map pairD)]
def formK : Ln → List Str
  | .tn _ _ ps => (formF ps).map (·.1)
  | _ => []
def knobsF (ls : List Ln) : List Str := ascF sltB (ls.flatMap formK)
def turnsG : Nat → List Ln → List Nat
  | _, [] => []
  | k, l :: r => if isT l then k :: turnsG (k + 1) r else turnsG (k + 1) r
def turnsF (ls : List Ln) : List Nat := turnsG 0 ls
abbrev cF : List Str := ["_text", "_lines", "steps", "wires", "knobs", "turns"]
def circD (C : Addr) (w : Nat) (ls : List Ln) : D :=
  .ins C cF [.str (st (ct w ls)), .tup (ls.map fun l => .str (st (lt l))), .tup (ls.map stpD), .int (w : Nat), .tup ((knobsF ls).map D.str), .tup ((turnsF ls).map fun i => .int ((i : Nat) : Int))]
theorem formF_len (ps : List (List Nat × Int)) : (formF ps).length ≤ ps.length := by
  have := ascF_len pltB (ps.map pairS)
  rw [List.length_map] at this
  exact this
end Cq
set_option Elab.async false
set_option linter.all false
set_option maxRecDepth 100000
set_option maxHeartbeats 4000000
set_option autoImplicit false
namespace Dl
open PySem PySem.Spec PyProof.Rows L2
section
variable {X : Cx} {N : En} {W : WX} {n k : Nat} {δ : List (Option S)} {μ μ1 μ2 μ3 : List M} {e a b o c : Expr} {es : List Expr} {pos p p2 tpos : Pos} {ds : List D} {d : D} {i j : Int} {lo hi : Option Int} {C : Addr} {R : Rel} {r : Rx}
/-! ## x += e, of ints -/
theorem ds_augI (q : Nat) {x : Str} {pos' : Pos} {op : Operator} {f : Int → Int → Int} (h : DE X N W δ μ e (.v (.p (.int j))) μ1) (ip : PIp X op (ipI f)) (hs : δ[q]? = some (some (.p (.int i)))) (hN : X.N.Nodup) (hi : X.N[q]? = some x := by rfl) (hx : Loc X.env.scope x := by first | exact Or.inl rfl | exact Or.inr rfl)
    (hf : X.fn x = true ∨ X.env.scope.names.lookup x = some .local := by first | exact .inl rfl | exact .inr rfl) : DS X N W δ μ (.AugAssign (.Name x pos') op e pos) (.nx (δ.set q (some (.p (.int (f i j))))) μ1) :=
  PS.imp (ps_aug hN hi hx h ip hf) fun K σ H ⟨F, A, R0, kk⟩ => by
    obtain ⟨v, h1, h2⟩ := R0.sl q _ hs
    cases (show Rep N.K F v (.int i) from h2)
    refine ⟨.int i, h1, F, A, R0, fun y F1 A1 H1 e1 p1 R1 ry => ?_⟩
    cases (show Rep N.K F1 y (.int j) from ry)
    exact ⟨i, j, rfl, rfl, kk _ F1 A1 H1 e1 p1 (R1.set (.int _))⟩
theorem ds_inc (q : Nat) {x : Str} {pos' : Pos} (h : DE X N W δ μ e (.v (.p (.int j))) μ1) (hs : δ[q]? = some (some (.p (.int i)))) (hN : X.N.Nodup) (hi : X.N[q]? = some x := by rfl) (hx : Loc X.env.scope x := by first | exact Or.inl rfl | exact Or.inr rfl)
    (hf : X.fn x = true ∨ X.env.scope.names.lookup x = some .local := by first | exact .inl rfl | exact .inr rfl) : DS X N W δ μ (.AugAssign (.Name x pos') .Add e pos) (.nx (δ.set q (some (.p (.int (i + j))))) μ1) :=
  ds_augI q h ip_add hs hN hi hx hf
/-! ## ~a, by its own method -/
theorem de_invOwn {ns : List Str} {d1 : List D} (g : Go X N W n) (cm : Cm X.prog X.w X.K X.mg X.base k C "__invert__" [] R) (ha : DE X N W δ μ a (.v (.p (.ins C ns d1))) μ1) (hR : R [.p (.ins C ns d1)] μ1 r μ2) (hk : k ≤ n := by decide) : DE X N W δ μ (.UnaryOp .Invert a pos) r μ2 := by
  obtain ⟨f, fd, ps, ds, dvs, Fo, hme, hbi, hd, rd⟩ := cm.ex
  refine ⟨fun pins s σ H Q I ⟨F, A, R0, q⟩ => UnaryOp_ (thn (ha.run pins s σ H (fun v H' => ∃ F' A', Same F F' ∧ A <+: A' ∧ Rl N F' A' H' σ δ μ1 ∧ RepS N.K F' A' v (.p (.ins C ns d1))) I ⟨F, A, R0, fun v F' A' H' h1 h2 h3 h4 => ⟨F', A', h1, h2, h3, h4⟩⟩) fun u s2 ⟨x, H2, I2, rx, F2, A2, e2, p2, R2, h1⟩ => ?_)⟩
  obtain ⟨a1, dx1, fs1, rfl, g1, g2, g3⟩ := rep_ins h1
  cases rx
  obtain ⟨od1, J1⟩ := inst_at I2 (R2.rc.sub _ _ g1)
  obtain ⟨m', Fr'⟩ := I2.fr
  refine PySem.W.ksp_inv Fr' I2.mod.kin J1 hme.at_ hme.fn ?_
  exact call_fnD (us := [.ref a1]) (vs := [.ref a1]) (ss := [.p (.ins C ns d1)]) g hk Fo hbi hd rd I2 R2 (.cons h1 .nil) (.cons rfl .nil) hR (q.to e2 p2)
/-! ## slices of tuples -/
theorem cut_whole {α : Type} (xs : List α) (h : HT.sIx xs.length 0 lo = 0 ∧ HT.sIx xs.length xs.length hi = xs.length) : cutX xs lo hi = xs := by
  unfold cutX
  rw [h.1, h.2]
  simp
theorem end_cutT {σ : L2.St} {F : Hp} {A : List Addr} {H : Hp} {Q : VK} {v : V} (g : Go X N W n) (R : Rl N F A H σ δ μ) (rv : Rep N.K F v (.tup ds)) (k : EndE N W σ δ F A μ Q (.v (.p (.tup (cutX ds lo hi))))) : rSlA X.K v lo hi H Q := by
  obtain ⟨a, vs, rfl, h1, h2⟩ := rep_tup rv
  have hl := h2.length
  refine ⟨a, vs, rfl, by rw [← g.hK]; exact same_sqT R.rc.sub h1, fun hw => ?_, fun hw p np => ?_⟩
  · rw [hl] at hw
    rw [cut_whole ds hw] at k
    exact k.here R (show Rep N.K F (.ref a) (.tup ds) from rv)
  · have sm := same_updN (o := .tup (cutV vs lo hi)) (R.rc.fresh np).2.1
    exact k (.ref p) _ A _ sm (List.prefix_refl _) (R.to sm (List.prefix_refl _) (R.rc.frozen np _)) (.tup (SqT.of upd_same) ((h2.cut lo hi).mono sm))
theorem de_cutTf (g : Go X N W n) (he : DE X N W δ μ e (.v (.p (.tup ds))) μ1) (ha : DE X N W δ μ1 a (.v (.p (.int i))) μ2) : DE X N W δ μ (.Subscript e (.Slice (some a) none none p2) pos) (.v (.p (.tup (cutX ds (some i) none)))) μ2 :=
  PE.imp (pe_slice sl_tupA he (po_some ha) po_none) fun σ H Q ⟨F, A, R0, k⟩ => ⟨F, A, R0, fun v F1 A1 H1 e1 a1 R1 rv => by
    refine ⟨F1, A1, R1, fun v2 F2 A2 H2 e2 a2 R2 rv2 => ?_⟩
    cases (show Rep N.K F2 v2 (.int i) from rv2)
    exact ⟨i, rfl, end_cutT g R2 (Rep.mono e2 rv) (k.to (e1.trans e2) (a1.trans a2))⟩⟩
theorem de_cutTt (g : Go X N W n) (he : DE X N W δ μ e (.v (.p (.tup ds))) μ1) (ha : DE X N W δ μ1 a (.v (.p (.int i))) μ2) : DE X N W δ μ (.Subscript e (.Slice none (some a) none p2) pos) (.v (.p (.tup (cutX ds none (some i))))) μ2 :=
  PE.imp (pe_slice sl_tupA he po_none (po_some ha)) fun σ H Q ⟨F, A, R0, k⟩ => ⟨F, A, R0, fun v F1 A1 H1 e1 a1 R1 rv => by
    refine ⟨F1, A1, R1, fun v2 F2 A2 H2 e2 a2 R2 rv2 => ?_⟩
    cases (show Rep N.K F2 v2 (.int i) from rv2)
    exact ⟨i, rfl, end_cutT g R2 (Rep.mono e2 rv) (k.to (e1.trans e2) (a1.trans a2))⟩⟩
theorem de_cutTm (g : Go X N W n) (he : DE X N W δ μ e (.v (.p (.tup ds))) μ1) (ha : DE X N W δ μ1 a (.v (.p (.int i))) μ2) (hb : DE X N W δ μ2 b (.v (.p (.int j))) μ3) : DE X N W δ μ (.Subscript e (.Slice (some a) (some b) none p2) pos) (.v (.p (.tup (cutX ds (some i) (some j))))) μ3 :=
  PE.imp (pe_slice sl_tupA he (po_some ha) (po_some hb)) fun σ H Q ⟨F, A, R0, k⟩ => ⟨F, A, R0, fun v F1 A1 H1 e1 a1 R1 rv => by
    refine ⟨F1, A1, R1, fun v2 F2 A2 H2 e2 a2 R2 rv2 => ?_⟩
    cases (show Rep N.K F2 v2 (.int i) from rv2)
    refine ⟨i, rfl, F2, A2, R2, fun v3 F3 A3 H3 e3 a3 R3 rv3 => ?_⟩
    cases (show Rep N.K F3 v3 (.int j) from rv3)
    exact ⟨j, rfl, end_cutT g R3 (Rep.mono (e2.trans e3) rv) (k.to ((e1.trans e2).trans e3) ((a1.trans a2).trans a3))⟩⟩
/-! ## [*t, ..], t a tuple -/
theorem dp_starT {ds es' : List D} {es : List Expr} (h : DE X N W δ μ e (.v (.p (.tup ds))) μ1) (h' : DP X N W δ μ1 es es' μ2) (hK : N.K = X.K) (hs : starEach (.Starred e p :: es) X.env = (true, eval e X.env) :: starEach es X.env := by rfl) : DP X N W δ μ (.Starred e p :: es) (ds ++ es') μ2 :=
  PA.imp (StX.pa_star h h' hs) fun σ H Q ⟨F, A, R, k⟩ => ⟨F, A, R, fun v F1 A1 H1 e1 p1 R1 rv => by
    obtain ⟨a, vs, rfl, h1, h2⟩ := rep_tup rv
    have hK' := hK
    rw [← hK]
    refine ⟨a, vs, rfl, .inl (same_sqT R1.rc.sub h1), F1, A1, R1, fun ws F2 A2 H2 e2 p2 R2 rw2 => ?_⟩
    exact k (vs ++ ws) F2 A2 H2 (e1.trans e2) (p1.trans p2) R2 (by rw [List.map_append]; exact RepSs.append (reps_all (h2.mono e2)) rw2)⟩
/-! ## not in, lists times ints, str of an int -/
theorem Reps.rep {K : PySem.W.Frag} {F : Hp} {vs : List V} {ds : List D} (h : Reps K F vs ds) : ∀ m : Nat, Reps K F (List.replicate m vs).flatten (List.replicate m ds).flatten
  | 0 => .nil
  | m + 1 => by
    rw [List.replicate_succ, List.replicate_succ, List.flatten_cons, List.flatten_cons]
    exact h.append (Reps.rep h m)
theorem o_timesL {ds : List D} {i : Int} (h1 : -(2 ^ 63) ≤ i) (h2 : i < 2 ^ 63) (hl : ds.length * i.toNat ≤ sizeLine) : OpOk X N W (binaryOp .Mult) μ (.p (.lst ds)) (.p (.int i)) (.v (.p (.lst (List.replicate i.toNat ds).flatten))) μ :=
  ⟨_, op_rep, fun σ δ F A H x y Q R rx ry k => by
    cases (show Rep N.K F y (.int i) from ry)
    obtain ⟨a, vs, rfl, g1, g2⟩ := rep_lst (show Rep N.K F x (.lst ds) from rx)
    refine ⟨a, i, vs, rfl, rfl, R.rc.sub _ _ g1, h1, h2, by rw [g2.length]; exact hl, fun p np => ?_⟩
    have sm := same_updN (o := .lst (List.replicate i.toNat vs).flatten) (R.rc.fresh np).2.1
    exact k (.ref p) _ A _ sm (List.prefix_refl _) (R.to sm (List.prefix_refl _) (R.rc.frozen np _)) (.lst upd_same ((g2.rep i.toNat).mono sm))⟩
/-! ## a tuple of the module by its name -/
theorem de_globT {x : Str} {u : Addr} (g : Go X N W n) (hm : X.mg x = some (.ref u)) (sq : ∀ H, ∃ vs, SqT X.K H u vs ∧ ∀ F, Reps X.K F vs ds) (hg : Gl X x := by rfl) (hd : (x == ("__debug__" : Str)) = false := by decide) : DE X N W δ μ (.Name x pos) (.v (.p (.tup ds))) μ :=
  PE.imp (pe_glob (v := .ref u) hg hm rfl hd) fun σ H Q ⟨F, A, R, k⟩ => by
    obtain ⟨vs, h1, h2⟩ := sq F
    refine k.here R (show Rep N.K F (.ref u) (.tup ds) from ?_)
    rw [g.hK]
    exact .tup h1 (h2 F)
/-! ## xs[f()] = e: the place is told by a call -/
end
end Dl
set_option Elab.async false
set_option linter.all false
set_option maxRecDepth 100000
set_option maxHeartbeats 4000000
set_option autoImplicit false
namespace Dl
open PySem PySem.Spec PyProof.Rows L2
/-! ## xs[::-1] -/
theorem fm_congr {α β : Type} {f h : α → Option β} : ∀ {l : List α}, (∀ a ∈ l, f a = h a) → l.filterMap f = l.filterMap h
  | [], _ => rfl
  | a :: l, e => by
    rw [List.filterMap_cons, List.filterMap_cons, e a List.mem_cons_self, fm_congr fun b hb => e b (List.mem_cons_of_mem _ hb)]
theorem rev_atN {α : Type} : ∀ (n : Nat) (xs : List α), xs.length = n → (List.range n).filterMap (fun k => xs[n - 1 - k]?) = xs.reverse
  | 0, xs, h => by
    rw [List.length_eq_zero_iff.mp h]
    rfl
  | n + 1, xs, h => by
    obtain ⟨ys, a, rfl⟩ : ∃ ys a, xs = ys ++ [a] := ⟨xs.dropLast, xs.getLast (by intro e; rw [e] at h; cases h), (List.dropLast_concat_getLast _).symm⟩
    have hy : ys.length = n := by simp at h; exact h
    rw [List.range_succ_eq_map, List.filterMap_cons, List.filterMap_map, List.reverse_append]
    have e0 : (ys ++ [a])[n + 1 - 1 - 0]? = some a := by
      rw [List.getElem?_append_right (by omega), show n + 1 - 1 - 0 - ys.length = 0 by omega]
      rfl
    simp only [e0]
    show a :: _ = a :: ys.reverse
    congr 1
    rw [← rev_atN n ys hy]
    refine fm_congr fun k hk => ?_
    have hk : k < n := List.mem_range.mp hk
    show (ys ++ [a])[n + 1 - 1 - (k + 1)]? = ys[n - 1 - k]?
    rw [List.getElem?_append_left (by omega), show n + 1 - 1 - (k + 1) = n - 1 - k by omega]
theorem rev_at {α : Type} (xs : List α) : (List.range xs.length).filterMap (fun k => xs[xs.length - 1 - k]?) = xs.reverse := rev_atN _ xs rfl
theorem pick_rev {α : Type} (xs : List α) : pickX xs none none (some (-1)) = xs.reverse := by
  unfold pickX sliceBounds sliceRange
  simp only [Option.getD_some, show ¬ (-1 : Int) > 0 by decide, if_false]
  rw [← rev_at xs, List.filterMap_map]
  have e : (if (xs.length : Int) - 1 > -1 then ((xs.length : Int) - 1 - -1 - -1 - 1) / (- -1) else 0).toNat = xs.length := by
    rw [show (- -1 : Int) = 1 by decide, Int.ediv_one]
    split <;> omega
  rw [e]
  refine fm_congr fun k hk => ?_
  have hk : k < xs.length := List.mem_range.mp hk
  show xs[((xs.length : Int) - 1 + -1 * (k : Int)).toNat]? = _
  rw [show ((xs.length : Int) - 1 + -1 * (k : Int)).toNat = xs.length - 1 - k by omega]
section
variable {X : Cx} {N : En} {W : WX} {n : Nat} {δ : List (Option S)} {μ μ1 : List M} {e : Expr} {pos p2 p3 p4 : Pos} {ds : List D} {k3 : Option String}
theorem de_revL {kk} (g : Go X N W n) (he : DE X N W δ μ e (.v (.p (.lst ds))) μ1) (hl : ds.length ≤ 100000) : DE X N W δ μ (.Subscript e (.Slice none none (some (.UnaryOp .USub (.Constant (.int 1) kk p3) p4)) p2) pos) (.v (.p (.lst ds.reverse))) μ1 :=
  PE.imp (pe_slice3 he po_none po_none (po_some (de_un (N := N) (W := W) (δ := δ) (μ := μ1) de_int u_neg))) fun σ H Q ⟨F, A, R, k⟩ => ⟨F, A, R, fun v F1 A1 H1 e1 a1 R1 rv => by
    obtain ⟨a, vs, rfl, h1, h2⟩ := rep_lst rv
    have hv2 := h2.length
    refine ⟨F1, A1, R1, fun z F2 A2 H2 e2 a2 R2 rz => ?_⟩
    cases (show Rep N.K F2 z (.int (-1)) from rz)
    refine ⟨-1, rfl, a, vs, rfl, by rw [← g.hK]; exact SqL.of (R2.rc.sub _ _ (e2 _ _ h1)), by decide, by rw [pick_rev, List.length_reverse, sizeLine_eq]; omega, fun p np => ?_⟩
    have sm := same_updN (o := .lst (pickX vs none none (some (-1)))) (R2.rc.fresh np).2.1
    refine k (.ref p) _ A2 _ ((e1.trans e2).trans sm) (a1.trans a2) (R2.to sm (List.prefix_refl _) (R2.rc.frozen np _)) (.lst upd_same ?_)
    have := ((Reps.pick h2 none none (some (-1))).mono e2).mono sm
    rw [pick_rev ds] at this
    exact this⟩
end
/-! ## t[::-1], t a tuple -/
end Dl
set_option Elab.async false
set_option linter.all false
set_option maxRecDepth 100000
set_option maxHeartbeats 4000000
set_option autoImplicit false
namespace Dl
open PySem PySem.Spec PyProof.Rows L2
/-! ## enumerate(t), t a tuple -/
abbrev enO (it : Addr) : Obj := { cls := .type "enumerate", data := .fields #[.none, .bool false, .ref it, rawInt 0, .none, .none] }
open AutoSeq1 (wpAny_loadPart') in
theorem meets_enT {v : Value} {o : Obj} {Hc : Heap → Prop} (B : PySem.Begins v o Hc) : Meets (Builtin.«enumerate.__new__» ⟨[.type "enumerate", v], []⟩) (fun _ R s => Hc s.heap ∧ R (.ok (.ret (.ref (s.heap.push o).objs.size))) { s with heap := (s.heap.push o).push (enO s.heap.objs.size) }) :=
  .of_wp fun prog w A R s h => by
    obtain ⟨hp, g, d, tk, os⟩ := s; obtain ⟨h1, h⟩ := h
    have hsub := sub_enumerate
    have q1 : ∀ {A' : Around} {E : Value → Shared → Prop} {Q : Value → Shared → Prop}, Q (.ref hp.objs.size) ⟨hp.push o, g, d, tk, os⟩ → wpAny (model prog w) A' (pyIter v) Q E ⟨hp, g, d, tk, os⟩ := fun q => B.iter prog w _ _ ⟨hp, g, d, tk, os⟩ _ h1 q
    wp_walk using q1
    refine wpAny_stack_any fun st => wpAny_pure ?_
    split
    · rename_i c _ _ _ _ _
      cases (c == Value.type "enumerate") <;> (wp_walk using q1; exact ⟨_, rfl, h⟩)
    · wp_walk using q1; exact ⟨_, rfl, h⟩
section
variable {prog : Program} {w : World} {A : Around} {E : Value → Shared → Prop} {s : Shared}
theorem call_enT {v : Value} {o : Obj} {Hc : Heap → Prop} {Q : Value → Shared → Prop} (B : PySem.Begins v o Hc) (h1 : Hc s.heap)
    (h : ∀ h', IsEnum h' (s.heap.objs.size + 1) s.heap.objs.size 0 .none → h'.get? s.heap.objs.size = some o → (∀ b ob, s.heap.get? b = some ob → h'.get? b = some ob) → Q (.ref (s.heap.objs.size + 1)) { s with heap := h' }) : wpAny (model prog w) A (call (.type "enumerate") [v]) Q E s := by
  refine callType_new F.called_enumerate (by decide) (F.typeCall_enumerate_1 _) (F.newCall_enumerate_1 _) (fun obj => F.args_object_init_2 obj _) F.entry_enumerate_new (meets_enT B) ⟨h1, ?_⟩
  have hz : (s.heap.push o).objs.size = s.heap.objs.size + 1 := Heap.size_push ..
  show _ ∧ _; rw [hz]
  have he : IsEnum ((s.heap.push o).push (enO s.heap.objs.size)) (s.heap.objs.size + 1) s.heap.objs.size 0 .none := by
    have := Heap.get?_push_size (s.heap.push o) (o := enO s.heap.objs.size) rfl
    rw [hz] at this; exact this
  exact ⟨⟨_, he, rfl⟩, h _ he (Heap.get?_push_of_some _ (Heap.get?_push_size _ B.free)) fun b ob x => Heap.get?_push_of_some _ (Heap.get?_push_of_some _ x)⟩
end
/-- the items of the tuple at a, each in a new pair behind its number -/
def ItuT (K : PySem.W.Frag) (a : Addr) : It :=
  ⟨fun i H => ∃ (xs : List V) (x : V), SqT K H a xs ∧ xs[i]? = some x, fun i H v H' => ∃ T x, v = .ref T ∧ H T = none ∧ H' = upd H T (.tup [.int (i : Nat), x]) ∧ ∀ xs, SqT K H a xs → xs[i]? = some x, fun i H => ∃ xs : List V, SqT K H a xs ∧ i = xs.length⟩
theorem turn_enT {P : Program} {w : World} {K : PySem.W.Frag} {elts : List Expr} {kk : Nat} {tpos : Pos} (a e it : Addr) (hae : e ≠ a) (hai : a ≠ it) (hei : e ≠ it) :
    Turn P w K (.Tuple elts kk tpos) (ItuT K a) [e, it] e (fun i h => (∃ old, IsEnum h e it ((i : Nat) : Int) old) ∧ h.IsTupleIter it a i) where
  mem := by simp
  obj := fun i h st b hb => by
    obtain ⟨⟨old, he⟩, o, ho, hc, hd⟩ := st
    have e' : b = e ∨ b = it := by simpa using hb
    rcases e' with z | z
    · rw [z]; exact ⟨_, he, fun v q => nomatch q⟩
    · rw [z]; exact ⟨o, ho, fun v q => by rw [hd] at q; cases q⟩
  keep := fun i h h' st k => let ⟨⟨old, he⟩, hi⟩ := st; ⟨⟨old, k e (by simp) _ he⟩, hi.at fun o q => k it (by simp) o q⟩
  item := by
    intro X hP hw hK hc i pins s σ H E I hf st hg
    subst hP hw hK
    obtain ⟨⟨old, he⟩, hit⟩ := st
    obtain ⟨xs, x, hq, hx⟩ := hg
    obtain ⟨its, rv, p, hz⟩ := I.tuple hq
    obtain ⟨u, hu, ru⟩ := rv.get hx
    have hel : e < s.heap.objs.size := Heap.lt_size he
    have hil : it < s.heap.objs.size := by obtain ⟨_, q, _⟩ := hit; exact Heap.lt_size q
    have hlt : i < its.toArray.size := by have := (List.getElem?_eq_some_iff.mp hu).1; simpa using this
    refine wpAny_pyNext_enum_itemD (Draws.tuple (A := X.A.in1) (I.ok.hd hc) it a hai its.toArray) he ⟨hit, p⟩ hlt hei (by simp only [List.mem_cons, List.not_mem_nil, or_false, not_or]; exact ⟨hei, hae⟩) fun y h' tk hy ho hst' hT hsz hk => ?_
    have ey : y = u := by
      have hy : its.toArray[i]? = some y := hy
      rw [List.getElem?_toArray, hu] at hy
      exact (Option.some.inj hy).symm
    subst ey
    refine ⟨_, rfl, wpAny_letOwnedTupleGo_enum (s := { s with heap := h', toks := tk + 1 }) ho fun h'' he' sb => ?_⟩
    have hT2 : h''.get? s.heap.objs.size = some { cls := .type "tuple", data := .seq #[.int i tk, y] } := (sb.2 _ (Nat.ne_of_gt hel)).trans hT
    have new : ObjOk X.prog X.w (upd H s.heap.objs.size (.tup [.int (i : Nat), x])) h'' s.heap.objs.size (.tup [.int (i : Nat), x]) := ⟨by show 2 ≤ sizeLine; decide, [.int i tk, y], .cons ⟨_, rfl⟩ (.cons ru .nil), ⟨_, hT2, rfl, _, rfl⟩⟩
    have I1 : Inv X pins σ (upd H s.heap.objs.size (.tup [.int (i : Nat), x])) { s with heap := h'', toks := tk + 1 } := I.turnedNew (ch := [e, it]) (fun b ob hb q => (sb.2 b (fun z => hb (by simp [z]))).trans (hk b ob (fun z => hb (by simp [z])) (fun z => hb (by simp [z])) q)) hf (Nat.le_refl _) new
    refine ⟨.ref s.heap.objs.size, _, I1, rfl, ⟨_, x, rfl, I.hok.fresh (Nat.le_refl _), rfl, fun ys hy => by rw [I.tuple_inj hy hq]; exact hx⟩, ⟨⟨y, ?_⟩, hst'.1.at fun o q => (sb.2 it (Ne.symm hei)).trans q⟩, fun b hb => ?_⟩
    · rw [show ((i + 1 : Nat) : Int) = (i : Int) + 1 by omega]; exact he'
    · have hb' : b < s.heap.objs.size := by
        rcases (show b = e ∨ b = it by simpa using hb) with z | z <;> rw [z] <;> assumption
      rw [upd_ne (Nat.ne_of_lt hb')]; exact (hf b hb).1
  done := by
    intro X hP hw hK hc i pins s σ H E I hf st hg
    subst hP hw hK
    obtain ⟨⟨old, he⟩, hit⟩ := st
    obtain ⟨xs, hq, hx⟩ := hg
    obtain ⟨its, rv, p, hz⟩ := I.tuple hq
    obtain ⟨f0, f1, f2, f3, f4, f5⟩ := hf it (by simp)
    have hl := rv.length
    have D := Draws.tuple (prog := X.prog) (w := X.w) (A := X.A.in1) (I.ok.hd hc) it a hai its.toArray
    have hi : i = its.toArray.size := by rw [List.size_toArray]; omega
    subst hi
    exact wpAny_pyNext_enum_endD D he ⟨hit, p⟩ fun h' eb => ⟨rfl, I.turned (t' := s.toks) (fun b o hb q => eb b o hb q) f0 f1 f3 f4 f5⟩
  self := fun A i s Q E st h => let ⟨⟨_, he⟩, _⟩ := st; wpAny_pyIter_enum he h
theorem pi_enT {X : Cx} {e : Expr} {ta : TA} {p pos tpos : Pos} {elts : List Expr} {kk : Nat} (hg : Gl X "enumerate") (hm : X.mg "enumerate" = none) (ha : PA X [e] ta) (hs : starEach [e] X.env = [(false, eval e X.env)] := by rfl) :
    PI X (.Tuple elts kk tpos) (.Call (.Name "enumerate" p) [e] [] pos) (fun σ H R => ta σ H fun vs H1 => ∃ a xs, vs = [.ref a] ∧ SqT X.K H1 a xs ∧ R (ItuT X.K a) H1) := by
  refine ⟨fun pins s σ H R I h => Call_ (ld_blt I hg hm boot_enumerate (PyProof.Rows.callWith_type1 (thn (ha.run pos pins s σ H _ I h) fun us s1 ⟨vs, H1, I1, r1, a, xs, ex, hq, q⟩ => ?_) hs rfl))⟩
  subst ex
  cases r1 with
  | cons r rr =>
    cases rr; cases r
    obtain ⟨its, rv, p', hz⟩ := I1.tuple hq
    have hal : a < s1.heap.objs.size := by obtain ⟨_, q, _⟩ := p'; exact Heap.lt_size q
    refine call_enT (begins_tuple a its.toArray) p' fun h' he hit hk => wpAny_pyIter_enum he ?_
    have I2 : Inv X pins σ H1 { s1 with heap := h' } := I1.kept (t' := s1.toks) hk
    refine ⟨s1.heap.objs.size + 1, [s1.heap.objs.size + 1, s1.heap.objs.size], _, _, H1, rfl, I2, turn_enT a (s1.heap.objs.size + 1) s1.heap.objs.size (Nat.ne_of_gt (Nat.lt_succ_of_lt hal)) (Nat.ne_of_lt hal) (Nat.succ_ne_self _), ⟨⟨.none, he⟩, _, hit, rfl, rfl⟩, fun b hb => ?_, q⟩
    have hle : s1.heap.objs.size ≤ b := by
      rcases (show b = s1.heap.objs.size + 1 ∨ b = s1.heap.objs.size by simpa using hb) with z | z <;> rw [z] <;> first | exact Nat.le_refl _ | exact Nat.le_add_right _ _
    exact I1.fpOk hle (I1.hok.fresh hle)
theorem yl_enT {K : PySem.W.Frag} {F : Hp} {a : Addr} {vs : List V} {ds : List D} (h : SqT K F a vs) (r : Reps K F vs ds) : Yl K (ItuT K a) F (enumD 0 ds) := by
  unfold Yl
  rw [enumD_len, ← r.length]
  refine ⟨fun i H hi e => ⟨vs, vs[i], same_sqT e h, by simp [hi]⟩, fun H e => ⟨vs, same_sqT e h, rfl⟩, fun i H x H' hi e ⟨T, u, h1, h2, h3, h4⟩ => ?_⟩
  obtain ⟨d, h6, h7⟩ := r.get' (h4 vs (same_sqT e h))
  refine ⟨_, enumD_at h6, .inr ⟨T, _, _, h1, h2, h3, rfl, .cons ?_ (.cons h7 .nil)⟩⟩
  rw [Nat.zero_add]
  exact .int _
section
variable {X : Cx} {N : En} {W : WX} {n : Nat} {δ : List (Option S)} {μ μ1 : List M} {e : Expr} {pos p tpos : Pos} {ds : List D} {elts : List Expr} {kk : Nat}
theorem di_enumT (g : Go X N W n) (ha : DA X N W δ μ [e] [.p (.tup ds)] μ1) (hm : X.mg "enumerate" = none) (hg : Gl X "enumerate" := by rfl) (hs : starEach [e] X.env = [(false, eval e X.env)] := by rfl) :
    DI X N W δ μ (.Tuple elts kk tpos) (.Call (.Name "enumerate" p) [e] [] pos) (enumD 0 ds) μ1 :=
  PI.imp (pi_enT hg hm ha hs) fun σ H Rk ⟨F, A, R, k⟩ => ⟨F, A, R, fun vs F1 A1 H1 e1 p1 R1 rv => by
    obtain ⟨v, rfl, r1⟩ := one_of rv
    have hK := g.hK
    rw [← hK]
    obtain ⟨a, ws, rfl, h1, h2⟩ := rep_tup (show Rep N.K F1 v (.tup ds) from r1)
    exact ⟨a, ws, rfl, same_sqT R1.rc.sub h1, k _ F1 A1 H1 e1 p1 R1 (yl_enT h1 h2)⟩⟩
end
end Dl
set_option Elab.async false
set_option linter.all false
set_option maxRecDepth 100000
set_option maxHeartbeats 4000000
set_option autoImplicit false
namespace Dl
open PySem PySem.Spec PyProof.Rows L2
/-! ## an int before an own object: the reflected method -/
end Dl
set_option Elab.async false
set_option linter.all false
set_option maxRecDepth 100000
set_option maxHeartbeats 4000000
set_option autoImplicit false
namespace Dl
open PySem PySem.Spec PyProof.Rows L2
end Dl
set_option Elab.async false
set_option linter.all false
set_option maxRecDepth 100000
set_option maxHeartbeats 4000000
set_option autoImplicit false
namespace Dl
open PySem PySem.Spec PyProof.Rows L2
/-! ## a def's promise where no guard stands around the call: for defs that write out containers -/
structure FnG (P : Program) (w : World) (K : PySem.W.Frag) (mg : Str → Option Value) (base : Heap) (CX : CXT) (k : Nat) (f : Addr) (fd : FuncData) (ps : List Str) (sp : Sp) : Prop where
  len : ∀ vs H Q E, sp vs H Q E → vs.length = ps.length
  go : ∀ (A : Around) (outer : List Env) (s : Shared) (H : Hp) (args : Args) (us : List Value) (vs : List V) (Q : VK) (E : XK), A.guards = some [] → Room k A → Env0 P w K mg base A outer s H → BindsTo s fd args (ps.zip us) → Vals vs us → sp vs H Q E →
    codeAny (model P w) A (.call (.ref f) args) (CR CX outer P w H s Q E) s
section
variable {P : Program} {w : World} {K : PySem.W.Frag} {mg : Str → Option Value} {base : Heap} {CX : CXT} {k j : Nat} {f : Addr} {fd : FuncData} {ps : List Str} {sp : Sp}
theorem FnG.of (F : FnOk P w K mg base CX k f fd ps sp) : FnG P w K mg base CX k f fd ps sp := ⟨F.len, fun A outer s H args us vs Q E _ => F.run A outer s H args us vs Q E⟩
end
/-- a def of the module by its name, called where no guard stands -/
structure Cg (P : Program) (w : World) (K : PySem.W.Frag) (mg : Str → Option Value) (base : Heap) (k : Nat) (x : Str) (dd : List D) (R : Rel) : Prop where
  ex : ∃ (f : Addr) (fd : FuncData) (ps : List Str) (ds : List Value) (dvs : List V), FnG P w K mg base (L2.CX P w) k f fd ps (spD K R) ∧ mg x = some (.ref f) ∧ PySem.W.keepIn K (.ref f) = true ∧ Binds K fd ps ds ∧ Vals dvs ds ∧ ∀ F, Reps K F dvs dd
theorem Cg.of {P : Program} {w : World} {K : PySem.W.Frag} {mg : Str → Option Value} {base : Heap} {k : Nat} {x : Str} {dd : List D} {R : Rel} (c : Cf P w K mg base k x dd R) : Cg P w K mg base k x dd R := by
  obtain ⟨f, fd, ps, ds, dvs, Fo, r⟩ := c.ex
  exact ⟨f, fd, ps, ds, dvs, .of Fo, r⟩
end Dl
set_option Elab.async false
set_option linter.all false
set_option maxRecDepth 100000
set_option maxHeartbeats 4000000
set_option autoImplicit false
namespace Dl
open PySem PySem.Spec PyProof.Rows L2
section
variable {X : Cx} {N : En} {W : WX} {n : Nat} {δ δ' δ1 δ2 : List (Option S)} {μ μ' μ1 μ2 μ3 : List M} {e a b c o : Expr} {es : List Expr} {ss : List S} {pos p apos : Pos} {d : D} {s s1 s2 : S} {r : Rx} {R : Rel} {k : Nat} {x m f : Str} {dd : List D} {C : Addr} {i : Int}
/-! ### // by any int but 0 -/
/-! ### math.gcd -/
/-! ### while, without break -/
inductive Wl (X : Cx) (N : En) (W : WX) (c : Expr) (body : List Stmt) : Nat → List (Option S) → List M → Os → Prop
  | stop {q : Nat} {u : List (Option S)} {v v1 : List M} : DT X N W u v c false v1 → Wl X N W c body q u v (.nx u v1)
  | turn {q : Nat} {u u1 : List (Option S)} {v v1 v2 : List M} {oo : Os} : DT X N W u v c true v1 → DSs X N W u v1 body (.nx u1 v2) → Wl X N W c body q u1 v2 oo → Wl X N W c body (q + 1) u v oo
theorem ds_while {body : List Stmt} {m : Nat} {o : Os} (g : Go X N W n) (h : Wl X N W c body m δ μ o) : DS X N W δ μ (.While c body [] pos) o := by
  have hc : PT X c (fun σ H Q => ∃ δt μt b μ1, DT X N W δt μt c b μ1 ∧ tDT N W δt μt b μ1 σ H Q) := ⟨fun p s σ H Q I ⟨δt, μt, b, μ1, hd, q⟩ => hd.run p s σ H Q I q⟩
  have hb : PSs X body (fun K σ H => ∃ δt μt o1, DSs X N W δt μt body o1 ∧ tDS N W δt μt o1 K σ H) := ⟨fun p s σ H K I ⟨δt, μt, o1, hd, q⟩ => hd.run p s σ H K I q⟩
  refine PS.imp (ps_while g.po hc hb) fun K σ H ⟨F, A, R, k⟩ => ?_
  refine ⟨fun m σ' H' => ∃ F' A' δ' μ', Same F F' ∧ A <+: A' ∧ Rl N F' A' H' σ' δ' μ' ∧ Wl X N W c body m δ' μ' o, ⟨m, F, A, δ, μ, Same.refl _, List.prefix_refl _, R, h⟩, ?_⟩
  rintro m σ' H' ⟨F', A', δ', μ', e', p', R', hL⟩
  have k' := k.to e' p'
  cases hL with
  | stop ht =>
    refine ⟨_, _, false, _, ht, F', A', R', fun F2 A2 H2 e2 p2 R2 => ?_⟩
    exact iteF (k' σ' F2 A2 H2 e2 p2 R2)
  | @turn m' _ δ1 _ μ1 μ2 _ ht hd hL =>
    refine ⟨_, _, true, _, ht, F', A', R', fun F2 A2 H2 e2 p2 R2 => ?_⟩
    refine iteT ⟨fun σ3 H3 => ∃ F3 A3, Same F F3 ∧ A <+: A3 ∧ Rl N F3 A3 H3 σ3 δ1 μ2, fun σ3 H3 ⟨F3, A3, a, b, c⟩ => ⟨m', Nat.lt_succ_self _, F3, A3, δ1, μ2, a, b, c, hL⟩, _, _, _, hd, F2, A2, R2, fun σ4 F4 A4 H4 e4 p4 R4 => ⟨F4, A4, (e'.trans e2).trans e4, (p'.trans p2).trans p4, R4⟩⟩
/-! ### int of a text -/
theorem c_intT {z : Str} {i : Int} (h : PySem.intText? z = some i) (hl : z.length ≤ 640) : CallOk X N W (.type "int") μ [.p (.str z)] (.v (.p (.int i))) μ :=
  ⟨_, call_int_str, fun σ δ F A H vs Q R rv k => by
    cases rv with
    | cons r1 rv =>
      cases rv
      cases rs_str r1
      exact ⟨z, i, rfl, h, hl, k.here R (.int _)⟩⟩
/-! ### f-texts -/
theorem de_fmtI {i : Int} (h : DE X N W δ μ e (.v (.p (.int i))) μ1) (hi : i.natAbs.log2 < 1920) : DE X N W δ μ (.FormattedValue e (-1) none pos) (.v (.p (.str (toString i)))) μ1 :=
  PE.imp (pe_fmt h) fun σ H Q ⟨F, A, R, k⟩ => ⟨F, A, R, fun v F1 A1 H1 e1 p1 R1 rv => .inr ⟨i, rs_int rv, hi, k _ F1 A1 H1 e1 p1 R1 (.str _)⟩⟩
inductive DJ (X : Cx) (N : En) (W : WX) (δ : List (Option S)) (μ : List M) : List Expr → List Str → Prop
  | nil : DJ X N W δ μ [] []
  | cons {e1 : Expr} {y : Str} {es1 : List Expr} {ys : List Str} : DE X N W δ μ e1 (.v (.p (.str y))) μ → DJ X N W δ μ es1 ys → DJ X N W δ μ (e1 :: es1) (y :: ys)
def catS : Str → List Str → Str
  | acc, [] => acc
  | acc, y :: ys => catS (acc ++ y) ys
theorem catS_le : ∀ (ys : List Str) (acc : Str), acc.length ≤ (catS acc ys).length
  | [], _ => Nat.le_refl _
  | y :: ys, acc => Nat.le_trans (by rw [strLen_append]; omega) (catS_le ys (acc ++ y))
theorem dj_ts {es : List Expr} {ys : List Str} (h : DJ X N W δ μ es ys) : ∃ ts, PJ X es ts ∧ ∀ (acc : Str) (σ : L2.St) (F : Hp) (A : List Addr) (H : Hp) (Q : Str → Hp → Prop), (catS acc ys).length ≤ sizeLine → Rl N F A H σ δ μ → (∀ F' A' H', Same F F' → A <+: A' → Rl N F' A' H' σ δ μ → Q (catS acc ys) H') → tJs ts acc σ H Q := by
  induction h with
  | nil => exact ⟨[], .nil, fun acc σ F A H Q _ R k => k F A H (Same.refl _) (List.prefix_refl _) R⟩
  | @cons e y es ys h1 _ ih =>
    obtain ⟨ts, hp, ht⟩ := ih
    refine ⟨_ :: ts, .cons h1 hp, fun acc σ F A H Q hl R k => ⟨F, A, R, fun v F1 A1 H1 e1 p1 R1 rv => ⟨y, rs_str rv, ?_, ht (acc ++ y) σ F1 A1 H1 Q hl R1 fun F' A' H' e' p' R' => k F' A' H' (e1.trans e') (p1.trans p') R'⟩⟩⟩
    exact Nat.le_trans (catS_le ys (acc ++ y)) hl
theorem de_fstr {v1 v2 : Expr} {rest : List Expr} {ys : List Str} (h : DJ X N W δ μ (v1 :: v2 :: rest) ys) (hl : (catS Str.empty ys).length ≤ sizeLine) : DE X N W δ μ (.JoinedStr (v1 :: v2 :: rest) pos) (.v (.p (.str (catS Str.empty ys)))) μ := by
  obtain ⟨ts, hp, ht⟩ := dj_ts h
  exact PE.imp (pe_joined hp) fun σ H Q ⟨F, A, R, k⟩ => ht Str.empty σ F A H _ hl R fun F' A' H' e' p' R' => k _ F' A' H' e' p' R' (.str _)
/-! ### repr(o), by an own __repr__ -/
end
end Dl
set_option Elab.async false
set_option linter.all false
set_option maxRecDepth 100000
set_option maxHeartbeats 4000000
set_option autoImplicit false
namespace Dl
open PySem PySem.Spec PyProof.Rows L2
/-! ## comprehensions of two fors, nothing that stood is changed -/
/-- the list that is built, at D0 -/
structure Sd (N : En) (μ : List M) (D0 : Addr) (acc : List D) (F : Hp) (A : List Addr) (H : Hp) : Prop where
  rc : Rc N F A H μ
  at_ : ∃ vs, H D0 = some (.lst vs) ∧ Reps N.K F vs acc
  f : F D0 = none
  a : D0 ∉ A
section
variable {N : En} {μ : List M} {D0 : Addr} {acc : List D} {F F' : Hp} {A A' : List Addr} {H H' : Hp} {d y : D} {x v : V}
theorem Sd.go (h : Sd N μ D0 acc F A H) (R : Rc ⟨N.K, H, F, A⟩ F' A' H' μ) (e : Same F F') : Sd N μ D0 acc F' A' H' := by
  obtain ⟨vs, h1, h2⟩ := h.at_
  have k4 : H' D0 = some (.lst vs) := R.keep D0 _ h1 h.a
  refine ⟨h.rc.back R, ⟨vs, k4, h2.mono e⟩, ?_, fun hm => ?_⟩
  · cases q : F' D0 with
    | none => rfl
    | some o =>
      rcases R.new D0 o q with ⟨o', z⟩ | z
      · have z' : F D0 = some o' := z
        rw [h.f] at z'; cases z'
      · have z' : H D0 = none := z
        rw [h1] at z'; cases z'
  · obtain ⟨B, eB, hB⟩ := R.pre
    rw [eB] at hm
    rcases List.mem_append.mp hm with z | z
    · exact h.a z
    · have z' : H D0 = none := hB _ z
      rw [h1] at z'; cases z'
theorem Sd.item (h : Sd N μ D0 acc F A H) (it : ItemAt N.K F H x H' d) : ∃ F', Same F F' ∧ Sd N μ D0 acc F' A H' ∧ Rep N.K F' x d := by
  rcases it with ⟨rfl, r⟩ | ⟨T, ws, es, rfl, nT, rfl, rfl, r⟩
  · exact ⟨F, Same.refl _, h, r⟩
  · obtain ⟨vs, h1, h2⟩ := h.at_
    have sm := same_updN (o := .tup ws) (h.rc.fresh nT).2.1
    refine ⟨_, sm, ⟨h.rc.frozen nT _, ⟨vs, ?_, h2.mono sm⟩, ?_, h.a⟩, .tup (SqT.of upd_same) (r.mono sm)⟩
    · rw [upd_ne (ne_of_none h1 nT)]; exact h1
    · rw [upd_ne (ne_of_none h1 nT)]; exact h.f
theorem Sd.snoc (h : Sd N μ D0 acc F A H) (h0 : N.H0 D0 = none) (r : Rep N.K F v y) : ∃ vs, H D0 = some (.lst vs) ∧ vs.length = acc.length ∧ Sd N μ D0 (acc ++ [y]) F A (upd H D0 (.lst (vs ++ [v]))) := by
  obtain ⟨vs, h1, h2⟩ := h.at_
  exact ⟨vs, h1, h2.length, h.rc.poke h.f h.a h0 _, ⟨_, upd_same, h2.snoc r⟩, h.f, h.a⟩
end
section
variable {X : Cx} {N : En} {W : WX} {n : Nat} {δ : List (Option S)} {μ : List M} {elt tg iter tg1 iter1 c : Expr} {pos : Pos} {ds : List D} {scope : Scope} {own : List (Str × Nat)} {vs1 : List Nat} {f f1 : As} {ix ix1 : List Nat}
/-- what is gone over inside -/
def tiB (X : Cx) (K : PySem.W.Frag) (n : Nat) (scope : Scope) (tg1 iter1 : Expr) : TI := fun σ H Rk => ∃ (N' : En) (F : Hp) (A : List Addr) (δt : List (Option S)) (μt : List M) (es : List D), N'.K = K ∧ Rl N' F A H σ δt μt ∧
  (∀ s H C cl fp N', N'.K = K → Go (blkX X scope s H C cl fp) N' W0 n → DI (blkX X scope s H C cl fp) N' W0 δt μt tg1 iter1 es μt) ∧ ∀ J F' A' H', Same F F' → A <+: A' → Rl N' F' A' H' σ δt μt → Yl K J F' es → Rk J H'
theorem pi_tiB (g : Go X N W n) {s : Shared} {H : Hp} {C : Addr} {cl : List (Str × Addr)} {fp : List Addr} : PI (blkX X scope s H C cl fp) tg1 iter1 (tiB X N.K n scope tg1 iter1) :=
  ⟨fun pins s σ H Q I ⟨N', F, A, δt, μt, es, hK, R, hd, k⟩ => (hd _ _ _ _ _ N' hK (g.blk hK)).run pins s σ H Q I ⟨F, A, R, fun J F' A' H' a b c d => k J F' A' H' a b c (by rw [← hK]; exact d)⟩⟩
def flat2 (b : D → Bool) (es : D → List D) (y : D → D → D) (l : List D) : List D := l.flatMap fun d => if b d = true then (es d).map (y d) else []
theorem lc2_go (b : D → Bool) (es : D → List D) (y : D → D → D) (hz : (flat2 b es y ds).length ≤ sizeLine) {J : It} {F1 : Hp} {A1 : List Addr} {H1 : Hp} {σ : L2.St} {tt : TT} {D0 : Addr} {Qd : Hp → Prop} (R1 : Rl N F1 A1 H1 σ δ μ) (yl : Yl N.K J F1 ds) (hD : H1 D0 = none)
    (hix : ∀ i ∈ ix, i ∈ own.map (·.2)) (hix1 : ∀ i ∈ ix1, i ∈ vs1)
    (hf : ∀ d ∈ ds, ∃ δt, f d (wipeD δ (own.map (·.2))) = some δt ∧
      (∀ N' F A σ2 H2 (Q : Bool → Hp → Prop), N'.K = N.K → Rl N' F A H2 σ2 δt μ → (∀ F' A' H', Same F F' → A <+: A' → Rl N' F' A' H' σ2 δt μ → Q (b d) H') → tt σ2 H2 Q) ∧
      (b d = true → (∀ s H C cl fp N', N'.K = N.K → Go (blkX X scope s H C cl fp) N' W0 n → DI (blkX X scope s H C cl fp) N' W0 δt μ tg1 iter1 (es d) μ) ∧
        ∀ e ∈ es d, ∃ δe, f1 e (wipeD δt vs1) = some δe ∧ DEB X N.K n scope elt δe μ (y d e) μ))
    (hq : ∀ F' A' H', Same F1 F' → A1 <+: A' → Sd N μ D0 (flat2 b es y ds) F' A' H' → Qd H') :
    ∃ Wt : Nat → Nat → Hp → Prop, (∃ m, Wt 0 m (upd H1 D0 (.lst []))) ∧ ∀ i m H, Wt i m H →
      (J.stop i H ∧ Qd H) ∨ (J.go i H ∧ ∃ Nx : Hp → Prop, (∀ H', Nx H' → ∃ m', m' < m ∧ Wt (i + 1) m' H') ∧ ∀ x H', J.yld i H x H' → tGd N f ix x (wipe σ (own.map (·.2))) H' fun σ2 H2 => wipe σ2 (own.map (·.2)) = wipe σ (own.map (·.2)) ∧ tt σ2 H2 fun b H3 =>
        if b = true then tiB X N.K n scope tg1 iter1 σ2 H3 fun J1 H4 => ∃ W1 : Nat → Nat → Hp → Prop, (∃ m, W1 0 m H4) ∧ ∀ j k H, W1 j k H →
          (J1.stop j H ∧ Nx H) ∨ (J1.go j H ∧ ∃ Nx1 : Hp → Prop, (∀ H', Nx1 H' → ∃ k', k' < k ∧ W1 (j + 1) k' H') ∧ ∀ x H', J1.yld j H x H' → tGd N f1 ix1 x (wipe σ2 vs1) H' fun σ3 H5 => wipe σ3 vs1 = wipe σ2 vs1 ∧ tYes σ3 H5 fun b H6 =>
            if b = true then teB X N.K n scope elt σ3 H6 fun y H7 => ∃ acc, H7 D0 = some (.lst acc) ∧ acc.length < sizeLine ∧ Nx1 (upd H7 D0 (.lst (acc ++ [y]))) else Nx1 H6)
        else Nx H3) := by
  have h0 := R1.rc.fresh hD
  have wp : ∀ (σ : L2.St) (vs : List Nat), wipe (wipe σ vs) vs = wipe σ vs := fun σ vs => by
    apply List.ext_getElem?
    intro j
    rw [wipe_get, wipe_get]
    by_cases hj : j ∈ vs
    · rw [if_pos hj, if_pos hj]; cases σ[j]? <;> rfl
    · rw [if_neg hj, if_neg hj]
  refine ⟨fun i m H => i ≤ ds.length ∧ m = ds.length - i ∧ ∃ F A acc, Same F1 F ∧ A1 <+: A ∧ Sd N μ D0 acc F A H ∧ acc ++ flat2 b es y (ds.drop i) = flat2 b es y ds,
    ⟨ds.length, Nat.zero_le _, by simp, F1, A1, [], Same.refl _, List.prefix_refl _, ⟨R1.rc.junk hD _, ⟨[], upd_same, .nil⟩, h0.2.1, h0.2.2⟩, by simp⟩, ?_⟩
  rintro i m H ⟨hi, rfl, F, A, acc, e, p, sd, hy⟩
  by_cases hlt : i < ds.length
  · refine .inr ⟨yl.goes i H hlt (e.trans sd.rc.sub), fun H' => ∃ F A acc, Same F1 F ∧ A1 <+: A ∧ Sd N μ D0 acc F A H' ∧ acc ++ flat2 b es y (ds.drop (i + 1)) = flat2 b es y ds,
      fun H' ⟨F, A, acc, a⟩ => ⟨ds.length - (i + 1), by omega, hlt, rfl, F, A, acc, a⟩, fun x H' hyd => ?_⟩
    obtain ⟨d, hd, it⟩ := (yl.mono e).yields i H x H' hlt sd.rc.sub hyd
    obtain ⟨F2, e2, sd2, rx⟩ := sd.item it
    have hdm : d ∈ ds := List.mem_of_getElem? hd
    obtain ⟨δt, hft, hC, hI⟩ := hf d hdm
    rw [List.drop_eq_getElem_cons hlt] at hy
    have hd' : ds[i] = d := by
      rw [List.getElem?_eq_getElem hlt] at hd
      exact Option.some.inj hd
    rw [hd'] at hy
    have hy2 : acc ++ ((if b d = true then (es d).map (y d) else []) ++ flat2 b es y (ds.drop (i + 1))) = flat2 b es y ds := by
      rw [← hy]
      unfold flat2
      rw [List.flatMap_cons]
    have Rw := (R1.to (e.trans e2) p sd2.rc).wiped (own.map (·.2))
    refine ⟨F2, A, _, μ, d, δt, Rw, rx, hft, fun σ2 w2 R3 => ⟨(wipe_sub hix w2).trans (wp _ _), ?_⟩⟩
    have R3' : Rl ⟨N.K, H', F2, A⟩ F2 A H' σ2 δt μ := ⟨R3.rc.entry, R3.len, R3.sl⟩
    refine hC ⟨N.K, H', F2, A⟩ F2 A σ2 H' _ rfl R3' fun F4 A4 H4 e4 p4 R4 => ?_
    have sd4 := sd2.go R4.rc e4
    have s4 : Same F1 F4 := (e.trans e2).trans e4
    have p4' : A1 <+: A4 := p.trans p4
    cases hb : b d with
    | false =>
      rw [hb, if_neg (by decide), List.nil_append] at hy2
      exact iteF ⟨F4, A4, acc, s4, p4', sd4, hy2⟩
    | true =>
      rw [hb, if_pos rfl] at hy2
      obtain ⟨hdi, hel⟩ := hI hb
      have R4' : Rl ⟨N.K, H4, F4, A4⟩ F4 A4 H4 σ2 δt μ := ⟨sd4.rc.entry, R4.len, R4.sl⟩
      refine iteT ⟨⟨N.K, H4, F4, A4⟩, F4, A4, δt, μ, es d, rfl, R4', hdi, fun J1 F5 A5 H5 e5 p5 R5 y5 => ?_⟩
      have sd5 := sd4.go R5.rc e5
      refine ⟨fun j k H => j ≤ (es d).length ∧ k = (es d).length - j ∧ ∃ F A acc, Same F5 F ∧ A5 <+: A ∧ Sd N μ D0 acc F A H ∧ acc ++ (((es d).drop j).map (y d) ++ flat2 b es y (ds.drop (i + 1))) = flat2 b es y ds,
        ⟨(es d).length, Nat.zero_le _, by simp, F5, A5, acc, Same.refl _, List.prefix_refl _, sd5, by rw [List.drop_zero]; exact hy2⟩, ?_⟩
      rintro j k H6 ⟨hj, rfl, F6, A6, acc6, e6, p6, sd6, hy6⟩
      by_cases hlj : j < (es d).length
      · refine .inr ⟨y5.goes j H6 hlj (e6.trans sd6.rc.sub), fun H' => ∃ F A acc, Same F5 F ∧ A5 <+: A ∧ Sd N μ D0 acc F A H' ∧ acc ++ (((es d).drop (j + 1)).map (y d) ++ flat2 b es y (ds.drop (i + 1))) = flat2 b es y ds,
          fun H' ⟨F, A, acc, a⟩ => ⟨(es d).length - (j + 1), by omega, hlj, rfl, F, A, acc, a⟩, fun x7 H7 hyd7 => ?_⟩
        obtain ⟨d7, hd7, it7⟩ := (y5.mono e6).yields j H6 x7 H7 hlj sd6.rc.sub hyd7
        obtain ⟨F7, e7, sd7, rx7⟩ := sd6.item it7
        obtain ⟨δe, hfe, hde⟩ := hel d7 (List.mem_of_getElem? hd7)
        rw [List.drop_eq_getElem_cons hlj] at hy6
        have hd7' : (es d)[j] = d7 := by
          rw [List.getElem?_eq_getElem hlj] at hd7
          exact Option.some.inj hd7
        rw [hd7', List.map_cons, List.cons_append] at hy6
        have R3n : Rl N F2 A H' σ2 δt μ := R3
        have s7 : Same F2 F7 := (e4.trans e5).trans (e6.trans e7)
        have p7 : A <+: A6 := (p4.trans p5).trans p6
        have Rn : Rl N F7 A6 H7 σ2 δt μ := R3n.to s7 p7 sd7.rc
        have Rw7 := Rn.wiped vs1
        refine ⟨F7, A6, _, μ, d7, δe, Rw7, rx7, hfe, fun σ3 w3 R8 => ⟨(wipe_sub hix1 w3).trans (wp _ _), ?_⟩⟩
        have R8' : Rl ⟨N.K, H7, F7, A6⟩ F7 A6 H7 σ3 δe μ := ⟨R8.rc.entry, R8.len, R8.sl⟩
        show teB X N.K n scope elt σ3 H7 _
        refine ⟨⟨N.K, H7, F7, A6⟩, F7, A6, δe, μ, y d d7, μ, rfl, R8', hde, fun v F9 A9 H9 e9 p9 R9 rv => ?_⟩
        have sd9 := sd7.go R9.rc e9
        obtain ⟨ws, hw1, hw2, sd10⟩ := sd9.snoc h0.1 rv
        refine ⟨ws, hw1, ?_, F9, A9, acc6 ++ [y d d7], (e6.trans e7).trans e9, p6.trans p9, sd10, ?_⟩
        · have := congrArg List.length hy6
          rw [List.length_append, List.length_cons] at this
          omega
        · rw [List.append_assoc]
          exact hy6
      · have hj' : j = (es d).length := by omega
        subst hj'
        refine .inl ⟨y5.stops H6 (e6.trans sd6.rc.sub), F6, A6, acc6, (s4.trans e5).trans e6, (p4'.trans p5).trans p6, sd6, ?_⟩
        rw [List.drop_length, List.map_nil, List.nil_append] at hy6
        exact hy6
  · have hi' : i = ds.length := by omega
    subst hi'
    refine .inl ⟨yl.stops H (e.trans sd.rc.sub), ?_⟩
    rw [List.drop_length] at hy
    have hy' : acc = flat2 b es y ds := by rw [← hy]; simp [flat2]
    subst hy'
    exact hq F A H e p sd
/-- [elt for tg in iter for tg1 in iter1] -/
theorem de_lc2 (es : D → List D) (y : D → D → D) (g : Go X N W n) (own : List (Str × Nat)) (vs1 : List Nat) (hi : DI X N W δ μ tg iter ds μ) (hg : ∀ s H C cl fp, DG (blkX X scope s H C cl fp) N tg f ix) (hg1 : ∀ s H C cl fp, DG (blkX X scope s H C cl fp) N tg1 f1 ix1)
    (hf : ∀ d ∈ ds, ∃ δt, f d (wipeD δ (own.map (·.2))) = some δt ∧
      (∀ s H C cl fp N', N'.K = N.K → Go (blkX X scope s H C cl fp) N' W0 n → DI (blkX X scope s H C cl fp) N' W0 δt μ tg1 iter1 (es d) μ) ∧
        ∀ e ∈ es d, ∃ δe, f1 e (wipeD δt vs1) = some δe ∧ DEB X N.K n scope elt δe μ (y d e) μ)
    (hz : (flat2 (fun _ => true) es y ds).length ≤ sizeLine)
    (ok : BlkOk X.N X.env.scope scope own := by exact blkOk_by (by decide +kernel)) (hv : ∀ i ∈ vs1, i ∈ own.map (·.2) := by decide) (hix : ∀ i ∈ ix, i ∈ own.map (·.2) := by decide) (hix1 : ∀ i ∈ ix1, i ∈ vs1 := by decide)
    (hs : ∀ x, foldedSetIterable iter X.env x = pure x := by intro _; rfl) (hs1 : ∀ env x, foldedSetIterable iter1 env x = pure x := by intro _ _; rfl) :
    DE X N W δ μ (.ListComp elt [⟨tg, iter, [], 0⟩, ⟨tg1, iter1, [], 0⟩] scope pos) (.v (.p (.lst (flat2 (fun _ => true) es y ds)))) μ :=
  PE.imp (pe_lc2 (own := own) (vs1 := vs1) g.calm g.nd hi ok hv hg (fun _ _ _ _ _ => pts_nil) (fun s H C cl fp => pi_tiB g) hg1 (fun _ _ _ _ _ => pts_nil) (fun s H C cl fp => pe_teB g) hs hs1) fun σ H Q ⟨F, A, R, k⟩ =>
    ⟨F, A, R, fun J F1 A1 H1 e1 p1 R1 yl D0 hD => lc2_go (fun _ => true) es y hz R1 yl hD hix hix1 (fun d hd => by
      obtain ⟨δt, h1, h2, h3⟩ := hf d hd
      exact ⟨δt, h1, fun N' F A σ2 H2 Q _ R k => k F A H2 (Same.refl _) (List.prefix_refl _) R, fun _ => ⟨h2, h3⟩⟩) fun F' A' H' e p sd => by
        obtain ⟨vs, q1, q2⟩ := sd.at_
        exact lc_frz (W := W) R k D0 F' A' H' vs (e1.trans e) (p1.trans p) sd.rc q1 sd.f sd.a (R1.rc.fresh hD).1 q2⟩
/-- [elt for tg in iter if c for tg1 in iter1] -/
theorem de_lc2If (b : D → Bool) (es : D → List D) (y : D → D → D) (g : Go X N W n) (own : List (Str × Nat)) (vs1 : List Nat) (hi : DI X N W δ μ tg iter ds μ) (hg : ∀ s H C cl fp, DG (blkX X scope s H C cl fp) N tg f ix) (hg1 : ∀ s H C cl fp, DG (blkX X scope s H C cl fp) N tg1 f1 ix1)
    (hf : ∀ d ∈ ds, ∃ δt, f d (wipeD δ (own.map (·.2))) = some δt ∧ DTB X N.K n scope c δt μ (b d) μ ∧ (b d = true →
      (∀ s H C cl fp N', N'.K = N.K → Go (blkX X scope s H C cl fp) N' W0 n → DI (blkX X scope s H C cl fp) N' W0 δt μ tg1 iter1 (es d) μ) ∧
        ∀ e ∈ es d, ∃ δe, f1 e (wipeD δt vs1) = some δe ∧ DEB X N.K n scope elt δe μ (y d e) μ))
    (hz : (flat2 b es y ds).length ≤ sizeLine)
    (ok : BlkOk X.N X.env.scope scope own := by exact blkOk_by (by decide +kernel)) (hv : ∀ i ∈ vs1, i ∈ own.map (·.2) := by decide) (hix : ∀ i ∈ ix, i ∈ own.map (·.2) := by decide) (hix1 : ∀ i ∈ ix1, i ∈ vs1 := by decide)
    (hs : ∀ x, foldedSetIterable iter X.env x = pure x := by intro _; rfl) (hs1 : ∀ env x, foldedSetIterable iter1 env x = pure x := by intro _ _; rfl) :
    DE X N W δ μ (.ListComp elt [⟨tg, iter, [c], 0⟩, ⟨tg1, iter1, [], 0⟩] scope pos) (.v (.p (.lst (flat2 b es y ds)))) μ :=
  PE.imp (pe_lc2 (own := own) (vs1 := vs1) g.calm g.nd hi ok hv hg (fun _ _ _ _ _ => pts_one (pt_ttB g)) (fun s H C cl fp => pi_tiB g) hg1 (fun _ _ _ _ _ => pts_nil) (fun s H C cl fp => pe_teB g) hs hs1) fun σ H Q ⟨F, A, R, k⟩ =>
    ⟨F, A, R, fun J F1 A1 H1 e1 p1 R1 yl D0 hD => lc2_go b es y hz R1 yl hD hix hix1 (fun d hd => by
      obtain ⟨δt, h1, h2, h3⟩ := hf d hd
      exact ⟨δt, h1, fun N' F A σ2 H2 Q hK R k => ⟨N', F, A, δt, μ, b d, μ, hK, R, h2, k⟩, h3⟩) fun F' A' H' e p sd => by
        obtain ⟨vs, q1, q2⟩ := sd.at_
        exact lc_frz (W := W) R k D0 F' A' H' vs (e1.trans e) (p1.trans p) sd.rc q1 sd.f sd.a (R1.rc.fresh hD).1 q2⟩
end
end Dl
set_option Elab.async false
set_option linter.all false
set_option maxRecDepth 100000
set_option maxHeartbeats 4000000
set_option autoImplicit false
namespace Dl
open PySem PySem.Spec PyProof.Rows L2
/-! ## len(set(xs)), xs a list of texts -/
abbrev newSet2 (w : World) : Obj := { cls := .type "set", dict := none, data := .set #[] 0 (.fresh 0 0 (!w.params.followText "set-order")) }
def addN (acc : List Str) (z : Str) : List Str := if z ∈ acc then acc else acc ++ [z]
/-- each once -/
def uniqN (zs : List Str) : List Str := zs.foldl addN []
theorem mem_addN {acc : List Str} {z k : Str} : k ∈ addN acc z ↔ k ∈ acc ∨ k = z := by
  unfold addN
  split
  · rename_i h
    exact ⟨.inl, fun q => q.elim id fun e => e ▸ h⟩
  · simp
theorem mem_uniqN (k : Str) (zs : List Str) : k ∈ uniqN zs ↔ k ∈ zs := by
  have go : ∀ (zs acc : List Str), k ∈ zs.foldl addN acc ↔ k ∈ acc ∨ k ∈ zs := by
    intro zs
    induction zs with
    | nil => intro acc; simp
    | cons z zs ih =>
      intro acc
      rw [List.foldl_cons, ih, mem_addN, List.mem_cons, or_assoc]
  exact (go zs []).trans (by simp)
theorem uniqN_snoc (zs : List Str) (z : Str) : (uniqN (zs ++ [z])).length = if z ∈ zs then (uniqN zs).length else (uniqN zs).length + 1 := by
  unfold uniqN
  rw [List.foldl_append]
  show (addN (uniqN zs) z).length = _
  unfold addN
  by_cases h : z ∈ zs
  · rw [if_pos h, if_pos ((mem_uniqN z zs).mpr h)]
    rfl
  · rw [if_neg h, if_neg fun q => h ((mem_uniqN z zs).mp q), List.length_append]
    rfl
theorem uniqN_le (zs : List Str) : (uniqN zs).length ≤ zs.length := by
  have go : ∀ (zs acc : List Str), (zs.foldl addN acc).length ≤ acc.length + zs.length := by
    intro zs
    induction zs with
    | nil => intro acc; simp
    | cons z zs ih =>
      intro acc
      rw [List.foldl_cons]
      refine Nat.le_trans (ih _) ?_
      have : (addN acc z).length ≤ acc.length + 1 := by unfold addN; split <;> simp
      rw [List.length_cons]
      omega
  have := go zs []
  rw [List.length_nil, Nat.zero_add] at this
  exact this
section
variable {P : Program} {w : World} {A : Around} {E : Value → Shared → Prop} {s : Shared}
theorem setS_at {h h' : Heap} {a : Addr} {S : Str → Bool} {n : Nat} (R : h.SetOf (strKind P w) a S n) (k : ∀ o, h.get? a = some o → h'.get? a = some o) : h'.SetOf (strKind P w) a S n := by
  obtain ⟨o, es, ep, t, ho, r⟩ := R
  exact ⟨o, es, ep, t, k o ho, r⟩
theorem setS_is {h : Heap} {a : Addr} {S S' : Str → Bool} {n n' : Nat} (R : h.SetOf (strKind P w) a S n) (e : ∀ k, S k = S' k) (en : n = n') : h.SetOf (strKind P w) a S' n' := by
  obtain rfl : S = S' := funext e
  subst en
  exact R
theorem setS_new {h : Heap} {a : Addr} (ho : h.get? a = some (newSet2 w)) : h.SetOf (strKind P w) a (fun j => decide (j ∈ ([] : List Str))) 0 :=
  ⟨_, #[], 0, _, ho, ⟨rfl, rfl, rfl⟩, rfl, fun e he => by simp at he, fun k => by simp, by decide, by rfl, rfl⟩
theorem upd_strs {I : Addr} {fp wr : List Addr} {G : Array GenState → Array GenState → Prop} {n : Nat} {Pv : Nat → Value → Prop} {St : Nat → Shared → Prop} {R : Result → Shared → Prop}
    (W : WalksS P w A.in1 I fp wr G n Pv St) (b0 : Addr) (off : b0 ∉ fp) (zs : List Str) (ln : n = zs.length) (few : zs.length + 1 < scanBound) (val : ∀ i v, Pv i v → ∃ z t, zs[i]? = some z ∧ v = .str z t) :
    ∀ (k i : Nat) (s : Shared), n - i = k → i ≤ n → St i s → s.heap.SetOf (strKind P w) b0 (fun j => decide (j ∈ zs.take i)) (uniqN (zs.take i)).length →
      (∀ s', Moved (b0 :: wr) G s s' → s'.heap.SetOf (strKind P w) b0 (fun j => decide (j ∈ zs)) (uniqN zs).length → R (.ok (.ret .none)) s') →
      codeAny (model P w) A (.builtin "set.update.loop" ⟨[.ref b0, .ref I], []⟩) R s := by
  have offW : b0 ∉ wr := fun q => off (W.sub _ q)
  have inW : ∀ b ∈ wr, b ∈ b0 :: wr := fun b q => List.mem_cons_of_mem _ q
  intro k
  induction k with
  | zero =>
    intro i s kn le st have_ last
    obtain rfl : i = n := by omega
    refine codeAny_builtin (F.entry_set_update_loop) ?_
    rw [Around.under_plainId (F.plain_set_update_loop) _]
    show wpAny (model P w) A.in1 (pyNext (.ref I) >>= _) _ _ s
    refine wpAny_bind (W.done s _ _ st fun s1 mv => ?_)
    show wpAny (model P w) A.in1 (ret Value.none) _ _ s1
    rw [List.take_of_length_le (by omega)] at have_
    exact wpAny_pure (last s1 (mv.mono inW) (setS_at have_ fun o q => mv.heap b0 o offW q))
  | succ k ih =>
    intro i s kn le st have_ last
    have lt : i < n := by omega
    refine codeAny_builtin (F.entry_set_update_loop) ?_
    rw [Around.under_plainId (F.plain_set_update_loop) _]
    show wpAny (model P w) A.in1 (pyNext (.ref I) >>= _) _ _ s
    refine wpAny_bind (W.item i s _ _ lt st fun v s1 pv st1 mv => ?_)
    obtain ⟨z, t, zi, rfl⟩ := val i v pv
    have now := setS_at have_ fun o q => mv.heap b0 o offW q
    show wpAny (model P w) A.in1 (holding [Value.str z t] (setAdd b0 (.str z t)) >>= _) _ _ s1
    refine wpAny_bind (wpAny_holding ?_)
    unfold setAdd
    refine wpAny_holding ?_
    have room : (uniqN (zs.take i)).length ≤ zs.length := Nat.le_trans (uniqN_le _) (by rw [List.length_take]; omega)
    refine wpAny_bind ((strKind P w).pyHash (k := z) (strKind_is _ _ _ _) ?_)
    refine wpAny_setAddHashed_of (s := { s1 with toks := s1.toks + 1 }) (strKind_is _ _ _ _) rfl now (by omega) fun h1 sb now1 => ?_
    have tk1 : zs.take (i + 1) = zs.take i ++ [z] := by rw [List.take_add_one, zi] <;> rfl
    have now2 := setS_is now1 (S' := fun j => decide (j ∈ zs.take (i + 1))) (n' := (uniqN (zs.take (i + 1))).length) (fun j => by rw [tk1]; simp [List.mem_append]) (by
      rw [tk1, uniqN_snoc]
      by_cases q : z ∈ zs.take i
      · simp [q]
      · simp [q])
    refine wpAny_pure ⟨plainId_quiet (F.plain_set_update_loop) _, ih (i + 1) _ (by omega) lt (W.frame _ s1 _ _ st1 (Nat.le_succ _) fun b hb o q => ?_) now2 fun s2 mv2 end_ => ?_⟩
    · rw [sb.2 b (fun e : b = b0 => off (e ▸ hb))]
      exact q
    · refine last s2 (Moved.trans W.gtrans ((mv.mono inW).then_heap (Nat.le_succ _) fun b o hb q => ?_) mv2) end_
      rw [sb.2 b (fun e : b = b0 => hb (e ▸ List.mem_cons_self))]
      exact q
theorem set_of_strs {l : Addr} {items : Array Value} (zs : List Str) {Q : Value → Shared → Prop} (calm : A.handled = none) (isl : s.heap.IsList l items) (isi : ∀ (i : Nat) (v : Value), items[i]? = some v → ∃ z t, zs[i]? = some z ∧ v = .str z t) (size : items.size = zs.length) (few : zs.length + 1 < scanBound)
    (k : ∀ (g : Heap) (tk : Nat), g.SetOf (strKind P w) s.heap.objs.size (fun j => decide (j ∈ zs)) (uniqN zs).length → (∀ b o, s.heap.get? b = some o → g.get? b = some o) → Q (.ref s.heap.objs.size) { s with heap := g, toks := tk }) :
    wpAny (model P w) A (call (.type "set") [.ref l]) Q E s := by
  obtain ⟨c0, tl0, mro0⟩ := F.called_set.mro
  have m1 := F.called_set.made
  have m2 := F.called_set.sub
  refine wpAny_call (codeAny_of_tree ?_)
  show wpAny _ _ (callAny (.type "set") _) _ _ _
  refine wpAny_pure ⟨Code.quiet_builtin _ (by decide +kernel), codeAny_builtin F.entry_type_call ?_⟩
  rw [Around.under_plain (weight_type_call_type "set" [.ref l] []) rfl]
  have m3 := F.called_set.notType
  have m4 := F.called_set.canCreate
  have m5 := F.typeCall_set_1 (.ref l)
  repeat any_goals first | wp_step | assumption
  refine codeAny_mono (code_set_led1 (.ref l) (E := E) (Q₁ := fun ob t => ob = .ref s.heap.objs.size ∧ t = { s with heap := s.heap.push (newSet2 w) }) ⟨rfl, rfl⟩) fun r t hr => ?_
  cases r with
  | error e => exact hr
  | ok fl =>
    cases fl with
    | next => exact hr.elim
    | brk => exact hr.elim
    | cont => exact hr.elim
    | ret ob =>
      obtain ⟨rfl, rfl⟩ := hr
      have atS : (s.heap.push (newSet2 w)).get? s.heap.objs.size = some (newSet2 w) := Heap.get?_push_size _ rfl
      have tyS : Shared.TypeIs { s with heap := s.heap.push (newSet2 w) } (.ref s.heap.objs.size) "set" := ⟨_, atS, rfl⟩
      have i1 := F.called_set.init.lookup
      have i2 := F.called_set.init.bind (.ref s.heap.objs.size)
      repeat any_goals first | wp_step | assumption
      refine codeAny_mono (codeAny_call_builtin (R := wants (fun v t => v = .none ∧ ∃ g tk, t = { s with heap := g, toks := tk } ∧ g.SetOf (strKind P w) s.heap.objs.size (fun j => decide (j ∈ zs)) (uniqN zs).length ∧ (∀ b o, s.heap.get? b = some o → g.get? b = some o)) E)
        F.called_set.init.plain F.entry_set_init (check_set_init_1 tyS ?_)) fun r2 t2 hr2 => ?_
      · obtain ⟨⟨oc, od, oda, osl⟩, holo, hcl, nl, hdl⟩ := isl
        simp only at hcl hdl
        subst hcl hdl
        have atL : (s.heap.push (newSet2 w)).get? l = some { cls := .type "list", dict := od, data := .seq items nl, slots := osl } := Heap.get?_push_of_some _ holo
        have lst : (s.heap.push (newSet2 w)).IsList l items := ⟨_, atL, rfl, nl, rfl⟩
        have n1 := F.sub_list_set
        have n2 := F.sub_list_frozenset
        have n3 : (Value.type "list" == Value.type "dict") = false := by decide
        unfold Builtin.«set.__init__» noKeywords Builtin.Frozenset.updateFrom
        generalize hit : pyIter = IT
        wp_walk
        subst hit
        refine wpAny_pyIter_list lst (wpAny_bind (wpAny_runValue ?_))
        have big : l < s.heap.objs.size := Heap.lt_size holo
        have calm3 : A.in1.in1.in1.handled = none := by simp [calm]
        have offI : l ≠ (s.heap.push (newSet2 w)).objs.size := by
          rw [Heap.size_push]
          exact Nat.ne_of_lt (Nat.lt_succ_of_lt big)
        have offS : s.heap.objs.size ∉ [(s.heap.push (newSet2 w)).objs.size, l] := by
          rw [Heap.size_push]
          simp only [List.mem_cons, List.not_mem_nil, or_false, not_or]
          exact ⟨Nat.ne_of_lt (Nat.lt_succ_self _), (Nat.ne_of_lt big).symm⟩
        refine upd_strs ((Walks.list calm3 _ l offI items).toS) s.heap.objs.size offS zs size few isi (items.size - 0) 0 _ (by omega) (Nat.zero_le _) ⟨⟨_, Heap.get?_push_size _ rfl, rfl, rfl⟩, lst.push _⟩ ?_ ?_
        · exact setS_new (Heap.get?_push_of_some _ atS)
        · intro t3 mv R3
          obtain ⟨g3, gn, dr, tk, os⟩ := t3
          have e1 : gn = s.gens := mv.gens
          have e2 : dr = s.drawn := mv.drawn
          have e3 : os = s.os := mv.os
          subst e1 e2 e3
          show wpAny _ _ _ _ _ _
          refine wpAny_pure ?_
          show wpAny _ _ (ret Value.none) _ _ _
          refine wpAny_pure ⟨rfl, g3, tk, rfl, R3, fun b o e => ?_⟩
          have lt : b < s.heap.objs.size := Heap.lt_size e
          refine mv.heap b o ?_ (Heap.get?_push_of_some _ (Heap.get?_push_of_some _ e))
          simp only [List.mem_cons, List.not_mem_nil, or_false, not_or, Heap.size_push]
          exact ⟨Nat.ne_of_lt lt, Nat.ne_of_lt (Nat.lt_succ_of_lt lt)⟩
      · cases r2 with
        | error e => exact hr2
        | ok fl2 =>
          cases fl2 with
          | next => exact hr2.elim
          | brk => exact hr2.elim
          | cont => exact hr2.elim
          | ret v =>
            obtain ⟨rfl, g, tk, rfl, R, kp⟩ := hr2
            repeat any_goals first | wp_step | assumption
            exact k _ _ R kp
end
end Dl
set_option Elab.async false
set_option linter.all false
set_option maxRecDepth 100000
set_option maxHeartbeats 4000000
set_option autoImplicit false
namespace Dl
open PySem PySem.Spec PyProof.Rows L2
def SetSO (P : Program) (w : World) (a : Addr) (S : Str → Bool) (n : Nat) : HO := .ext fun h => h.SetOf (strKind P w) a S n
section
variable {X : Cx} {N : En} {W : WX} {n : Nat} {δ : List (Option S)} {μ μ1 : List M} {e : Expr} {p1 p2 pos pos2 : Pos}
theorem strs_val : ∀ {zs : List Str} {us : List Value}, Vals (zs.map V.str) us → ∀ (i : Nat) (v : Value), us[i]? = some v → ∃ z t, zs[i]? = some z ∧ v = .str z t
  | [], _, r, i, v, h => by cases r; simp at h
  | z :: zs, _, r, i, v, h => by
    cases r with
    | cons r1 r2 =>
      cases i with
      | zero =>
        obtain ⟨t, rfl⟩ := r1
        have : v = .str z t := by simpa using h.symm
        exact ⟨z, t, rfl, this⟩
      | succ i => exact strs_val r2 i v (by simpa using h)
theorem cr_setS (hc : X.calm = true) : CallR X (.type "set") (fun xs H Q => ∃ (p : Addr) (zs : List Str), xs = [.ref p] ∧ SqL X.K H p (zs.map V.str) ∧ zs.length ≤ 1000 ∧ ∀ (a : Addr), H a = none → Q (.ref a) (upd H a (SetSO X.prog X.w a (fun j => decide (j ∈ zs)) (uniqN zs).length))) := by
  intro pins s σ H xs us Q I r ⟨p, zs, ex, hs, few, k⟩
  subst ex
  rw [Vals.ref1 r]
  obtain ⟨its, rv, ⟨⟨ocls, odd, oda, osl⟩, m, ho, hcl, hdn, hda⟩, hlen⟩ := I.list hs
  simp only at hcl hda
  have isl : s.heap.IsList p its.toArray := ⟨_, ho, hcl, m, hda⟩
  have sz : its.toArray.size = zs.length := by
    have := rv.length
    rw [List.length_map] at this
    rw [List.size_toArray, this]
  refine set_of_strs zs (I.ok.hd hc) isl (fun i v h => strs_val rv i v (by simpa using h)) sz (by unfold scanBound; omega) fun g tk R kp => ?_
  have nn : H s.heap.objs.size = none := I.hok.fresh (Nat.le_refl _)
  exact ⟨.ref s.heap.objs.size, _, I.laid kp (Nat.le_refl _) (show ObjOk X.prog X.w _ _ _ (SetSO X.prog X.w _ _ _) from ⟨R, R.elim fun o q => q.elim fun _ q => q.elim fun _ q => q.elim fun _ q => ⟨o, q.1⟩, fun h1 h2 p k => setS_at p k⟩), rfl, k _ nn⟩
theorem cr_lenS : CallR X (.builtin "len") (fun xs H Q => ∃ (a : Addr) (S : Str → Bool) (m : Nat), xs = [.ref a] ∧ H a = some (SetSO X.prog X.w a S m) ∧ Q (.int (m : Int)) H) := by
  intro pins s σ H xs us Q I r ⟨a, S, m, ex, hs, k⟩
  subst ex
  rw [Vals.ref1 r]
  have R : s.heap.SetOf (strKind X.prog X.w) a S m := (I.hok a _ hs).1
  obtain ⟨o, es, ep, t, ho, hex, hd, hel, hmem, hb, hf, hn⟩ := R
  subst hn
  have hb' : es.size < 2 ^ 62 := Nat.lt_of_lt_of_le hb (by unfold scanBound; decide)
  exact call_len_set ho hex hd hf (by omega) ⟨.int (es.size : Int), H, I.tok _, ⟨_, rfl⟩, k⟩
/-- len(set(e)), e a list of texts -/
theorem de_lenSet {zs : List Str} (g : Go X N W n) (h : DE X N W δ μ e (.v (.p (.lst (zs.map D.str)))) μ1) (few : zs.length ≤ 1000) (hm : X.mg "len" = none) (hm2 : X.mg "set" = none) (hg : Gl X "len" := by rfl) (hg2 : Gl X "set" := by rfl)
    (h1 : starEach [e] X.env = (false, eval e X.env) :: starEach [] X.env := by rfl) (h2 : starEach [.Call (.Name "set" p2) [e] [] pos2] X.env = (false, eval (.Call (.Name "set" p2) [e] [] pos2) X.env) :: starEach [] X.env := by rfl) :
    DE X N W δ μ (.Call (.Name "len" p1) [.Call (.Name "set" p2) [e] [] pos2] [] pos) (.v (.p (.int ((uniqN zs).length : Nat)))) μ1 :=
  PE.imp (pe_callB cr_lenS hg hm (by decide +kernel) (pa_cons (pe_callTy (cr_setS g.calm) hg2 hm2 (by decide +kernel) (pa_cons h pa_nil h1) (by decide) (by decide) h1 (by rfl)) pa_nil h2) (by decide) (by decide) h2 (by rfl)) fun σ H Q ⟨F, A, R0, k⟩ => ⟨F, A, R0, fun v F1 A1 H1 e1 p1 R1 rv => by
    obtain ⟨a, ws, rfl, q1, q2⟩ := rep_lst (show Rep N.K F1 v (.lst (zs.map D.str)) from rv)
    have q3 := strs_vals q2
    subst q3
    refine ⟨a, zs, rfl, SqL.of (R1.rc.sub _ _ q1), few, fun b nb => ?_⟩
    refine ⟨b, _, _, rfl, upd_same, ?_⟩
    exact k _ _ A1 _ e1 p1 (R1.to (Same.refl _) (List.prefix_refl _) (R1.rc.junk nb _)) (.int _)⟩
end
end Dl
set_option Elab.async false
set_option linter.all false
set_option maxRecDepth 100000
set_option maxHeartbeats 4000000
set_option autoImplicit false
namespace Dl
open PySem PySem.Spec PyProof.Rows L2
/-! ## lambdas that are handed to defs, and from these to others -/
/-! ### in terms of data -/
def EndL (N' : En) (F : Hp) (A : List Addr) (μ' : List M) (E : XK) (Q : VK) : Rx → Prop
  | .v s => ∀ v F' A' H', Same F F' → A <+: A' → Rc N' F' A' H' μ' → RepS N'.K F' A' v s → Q v H'
  | .x C d => ∀ dx v F' A' H', Same F F' → A <+: A' → Rc N' F' A' H' μ' → F' dx = some (.xd [("value", v)]) → Rep N'.K F' v d → E (.ref C) (some dx) H'
theorem EndL.imp {N' : En} {F : Hp} {A : List Addr} {μ' : List M} {E E' : XK} {Q Q' : VK} : ∀ {r : Rx}, EndL N' F A μ' E Q r → (∀ c d h, E c d h → E' c d h) → (∀ v h, Q v h → Q' v h) → EndL N' F A μ' E' Q' r
  | .v _, k, _, h2 => fun v F' A' H' e p R rv => h2 _ _ (k v F' A' H' e p R rv)
  | .x _ _, k, h1, _ => fun dx v F' A' H' e p R a b => h1 _ _ _ (k dx v F' A' H' e p R a b)
end Dl
set_option Elab.async false
set_option linter.all false
set_option maxRecDepth 100000
set_option maxHeartbeats 4000000
set_option autoImplicit false
namespace Dl
open PySem PySem.Spec PyProof.Rows L2
end Dl
set_option Elab.async false
set_option linter.all false
set_option maxRecDepth 100000
set_option maxHeartbeats 4000000
set_option autoImplicit false
namespace Dl
open PySem PySem.Spec PyProof.Rows L2
/-! ## static methods of own classes, called by the class -/
section
variable {X : Cx} {N : En} {W : WX} {n k : Nat} {δ : List (Option S)} {μ μ1 μ2 μ3 μ' : List M} {e o a b : Expr} {es : List Expr} {ss : List S} {r : Rx} {R : Rel} {C : Addr} {m : Str} {p pos apos : Pos} {d : D}
/-! ## x.split(sep), x.partition(sep) -/
theorem m_split {z y : Str} (hy : (y.length == 0) = false) (hl : z.length + 2 ≤ sizeLine) : MtOk X N W "str" "str.split" μ μ (.p (.str z)) [.p (.str y)] (.v (.p (.lst ((Txt.split z y).map D.str)))) μ :=
  ⟨_, mt_split, fun σ δ F A H x R rx => by cases rs_str rx; trivial, fun σ δ F A H x vs Q R rx rv k => by
    obtain ⟨v, rfl, h⟩ := one_of rv
    cases rs_str rx
    cases rs_str h
    refine ⟨z, y, rfl, rfl, hy, hl, fun q nq => ?_⟩
    have sm := same_updN (o := .lst ((Txt.split z y).map V.str)) (R.rc.fresh nq).2.1
    exact k (.ref q) _ A _ sm (List.prefix_refl _) (R.to sm (List.prefix_refl _) (R.rc.frozen nq _)) (.lst upd_same of_strs)⟩
/-! ## one sign so many times -/
theorem fold_rep (c : Nat) : ∀ (k : Nat) (acc : Array Nat), (List.replicate k #[c]).foldl (· ++ ·) acc = acc ++ (List.replicate k c).toArray
  | 0, acc => by simp
  | k + 1, acc => by
    rw [List.replicate_succ, List.foldl_cons, fold_rep c k, Array.append_assoc]
    congr 1
    simp [List.replicate_succ]
theorem op_mulSk {c k : Nat} (h : 2 ≤ k ∧ k ≤ 10000) : OpR X (binaryOp .Mult) (fun x y H Q => x = .str ⟨#[c]⟩ ∧ y = .int (k : Int) ∧ Q (.str (Dl.st (List.replicate k c))) H) := by
  intro pins s σ H x y v u Q I rx ry ⟨e1, e2, q⟩
  subst e1 e2
  obtain ⟨t, rfl⟩ := rx
  obtain ⟨t', rfl⟩ := ry
  have h1 : ¬ (k : Int) < 1 := by omega
  have h2 : ((k : Int) == 1 || (⟨#[c]⟩ : Str).length == 0) = false := by
    have : ((k : Int) == 1) = false := by rw [beq_eq_false_iff_ne]; omega
    rw [this]
    rfl
  refine PySem.P.mul_str (by
      have a : ¬ (k : Int) < -(2 ^ 63 : Int) := by omega
      have b : ¬ (k : Int) ≥ 2 ^ 63 := by omega
      rw [decide_eq_false a, decide_eq_false b]; rfl) (fun _ _ => by
      show ¬ (((1 : Nat) : Int) > (2 ^ 63 - 1) / (k : Int))
      have : (1 : Int) ≤ (2 ^ 63 - 1) / (k : Int) := by
        rw [Int.le_ediv_iff_mul_le (by omega)]
        omega
      omega) (fun _ _ => by
      show Builtin.Str.tooLong ((⟨#[c]⟩ : Str).length * (k : Int).toNat) = false
      have e : (⟨#[c]⟩ : Str).length * (k : Int).toNat = k := by
        show 1 * (k : Int).toNat = k
        omega
      rw [e]
      unfold Builtin.Str.tooLong
      rw [decide_eq_false_iff_not, sizeLine_eq]
      omega) ?_
  rw [if_neg h1, if_neg (by rw [h2]; decide)]
  have e3 : (⟨(List.replicate (k : Int).toNat (⟨#[c]⟩ : Str).cps).foldl (· ++ ·) #[]⟩ : Str) = Dl.st (List.replicate k c) := by
    show (⟨(List.replicate (k : Int).toNat #[c]).foldl (· ++ ·) #[]⟩ : Str) = _
    rw [fold_rep, Int.toNat_natCast]
    simp [Dl.st]
  rw [e3]
  exact ⟨by rw [st_len, List.length_replicate, sizeLine_eq]; omega, .str _, H, I.tok _, ⟨_, rfl⟩, q⟩
theorem o_mulSk {c k : Nat} (h : 2 ≤ k ∧ k ≤ 10000) : OpOk X N W (binaryOp .Mult) μ (.p (.str ⟨#[c]⟩)) (.p (.int (k : Int))) (.v (.p (.str (Dl.st (List.replicate k c))))) μ :=
  ⟨_, op_mulSk h, fun σ δ F A H x y Q R rx ry q => ⟨rs_str rx, rs_int ry, q.here R (.str _)⟩⟩
/-! ## None in a list of ints and None -/
end
end Dl
set_option Elab.async false
set_option linter.all false
set_option maxRecDepth 100000
set_option maxHeartbeats 4000000
set_option autoImplicit false
namespace Dl
open PySem PySem.Spec PyProof.Rows L2
/-! ## what a changing thing has come to be is forgotten; loops whose states are not told; lists put together to a changing one -/
end Dl
set_option Elab.async false
set_option linter.all false
set_option maxRecDepth 100000
set_option maxHeartbeats 4000000
set_option autoImplicit false
namespace Dl
open PySem PySem.Spec PyProof.Rows L2
/-! ## the end, where the law's def is told of as a FnG: at the caller no guard stands -/
/-- what is tracked when the law is called: the tables T, and the script at a unless K knows it -/
noncomputable def hp0 (K : PySem.W.Frag) (T : List Addr) (a : Addr) (o : Obj) (xs : List V) : Hp := fun b =>
  if b ∈ T then some (.tbl #[]) else if b = a ∧ K.lookup a = none then some (.frz o (.lst xs)) else none
section
variable {K : PySem.W.Frag} {T : List Addr} {a b : Addr} {o : Obj} {xs : List V}
theorem hp0_T (h : b ∈ T) : hp0 K T a o xs b = some (.tbl #[]) := if_pos h
theorem hp0_a (h : a ∉ T) (n : K.lookup a = none) : hp0 K T a o xs a = some (.frz o (.lst xs)) := (if_neg h).trans (if_pos ⟨rfl, n⟩)
theorem hp0_cases : (b ∈ T ∧ hp0 K T a o xs b = some (.tbl #[])) ∨ (b ∉ T ∧ b = a ∧ K.lookup a = none ∧ hp0 K T a o xs b = some (.frz o (.lst xs))) ∨ (b ∉ T ∧ (b = a → K.lookup a ≠ none) ∧ hp0 K T a o xs b = none) := by
  by_cases h : b ∈ T
  · exact .inl ⟨h, hp0_T h⟩
  · by_cases h2 : b = a ∧ K.lookup a = none
    · exact .inr (.inl ⟨h, h2.1, h2.2, (if_neg h).trans (if_pos h2)⟩)
    · exact .inr (.inr ⟨h, fun e n => h2 ⟨e, n⟩, (if_neg h).trans (if_neg h2)⟩)
end
theorem law_callG {P : Program} {w : World} {K : PySem.W.Frag} {mg mb : Str → Option Value} {CX : CXT} {k : Nat} {fa a : Addr} {cs : List (Addr × Addr)} {fd : FuncData} {x : Str} {sp : Sp} {s₁ : Shared} {vs : List Value} {ns : List Int}
    (KX : K.In s₁.heap) (hns : s₁.heap.Ns mainGlobals mg) (hb : s₁.heap.Ns builtinsNs mb) (hbb : ∀ x : Str, x ≠ "__name__" → mb x = bootBuiltins x) (hlim : s₁.heap.NoLimit) (hg : s₁.gens = #[])
    (hT : ∀ p ∈ cs, s₁.heap.get? p.2 = some { cls := .none, data := .fields #[] }) (nT : ∀ p ∈ cs, K.lookup p.2 = none) (C : ∀ p ∈ cs, PySem.W.CodeHd s₁.heap p.1 p.2)
    (hbm : ∃ (bm : Addr) (ob : Obj), mg "__builtins__" = some (.ref bm) ∧ bm ≠ builtinsNs ∧ s₁.heap.get? bm = some ob ∧ ob.cls = .type "module" ∧ ob.dict = some builtinsNs ∧ ob.data = .plain)
    (ha : s₁.heap.get? a = some { cls := .type "list", data := .seq vs.toArray }) (hi : IntsAre vs ns) (hl : ns.length ≤ sizeLine) (hr : Room k callerA)
    (F : ∀ base : Heap, K.In base → base.Ns mainGlobals mg → (∀ p ∈ cs, LamX.TabB base mg p.1 p.2) → FnG P w K mg base CX k fa fd [x] sp) (hbind : ∀ (s : Shared) (u : Value), BindsTo s fd ⟨[u], []⟩ [(x, u)])
    (hsp : ∀ H : Hp, (∀ p ∈ cs, H p.2 = some (.tbl #[])) → SqL K H a (ns.map V.int) → sp [.ref a] H (fun v _ => v = .bl true) fun _ _ _ => False)
    (hCX : ∀ H e s', CX [] H s₁ (fun _ _ _ => False) e s' → False) :
    codeAny (model P w) callerA (.call (.ref fa) ⟨[.ref a], []⟩) (fun r s' => r = .ok (.ret (.bool true)) ∧ OldK s₁.heap s'.heap ∧ s'.os = s₁.os ∧ AllBare s'.gens) s₁ := by
  have rv := vals_ints hi
  let ob : Obj := { cls := .type "list", data := .seq vs.toArray }
  let T := cs.map (·.2)
  let H := hp0 K T a ob (ns.map V.int)
  have isT : ∀ {b}, b ∈ T → s₁.heap.get? b = some { cls := .none, data := .fields #[] } ∧ K.lookup b = none := fun hb => by
    obtain ⟨p, hp, rfl⟩ := List.mem_map.mp hb
    exact ⟨hT p hp, nT p hp⟩
  have aT : a ∉ T := fun z => nomatch (congrArg Obj.data (Option.some.inj (ha.symm.trans (isT z).1)) : Data.seq vs.toArray = Data.fields #[])
  -- what K knows, and what is neither a row of values nor an empty table, is not tracked
  have outK : ∀ {b o}, K.lookup b = some o → H b = none := fun {b o} e => by
    rcases hp0_cases (K := K) (T := T) (a := a) (b := b) (o := ob) (xs := ns.map V.int) with ⟨h, _⟩ | ⟨_, rfl, h, _⟩ | ⟨_, _, h⟩
    · rw [(isT h).2] at e; cases e
    · rw [h] at e; cases e
    · exact h
  have outD : ∀ {b o}, s₁.heap.get? b = some o → (∀ vs n, o.data ≠ .seq vs n) → o.data ≠ .fields #[] → H b = none := fun {b o} e h1 h2 => by
    rcases hp0_cases (K := K) (T := T) (a := a) (b := b) (o := ob) (xs := ns.map V.int) with ⟨h, _⟩ | ⟨_, rfl, h, _⟩ | ⟨_, _, h⟩
    · rw [(isT h).1] at e; cases e; exact (h2 rfl).elim
    · rw [ha] at e; cases e; exact (h1 _ _ rfl).elim
    · exact h
  have keepNs : ∀ {b : Addr} {m : Str → Option Value}, s₁.heap.Ns b m → (hidT s₁.heap H).Ns b m := fun ⟨o, es, ep, e, d, r⟩ =>
    ⟨o, es, ep, hidT_get e (outD e (fun _ _ z => nomatch d.symm.trans z) fun z => nomatch d.symm.trans z), d, r⟩
  have hKb : K.In (hidT s₁.heap H) := fun b o e => hidT_get (KX b o e) (outK e)
  have hM : L2.Mod K mg (hidT s₁.heap H) := ⟨hKb, keepNs hns, ⟨mb, keepNs hb, hbb⟩, let ⟨mc, h1, h2⟩ := hlim; ⟨mc, keepNs h1, h2⟩⟩
  have TB : ∀ p ∈ cs, LamX.TabB (hidT s₁.heap H) mg p.1 p.2 := fun p hp => by
    refine ⟨?_, ?_, fun z => ?_⟩
    · obtain ⟨o, us, file, tf, flags, tg, inF, text, tt, e1, r1, r2, r3, r⟩ := C p hp
      refine ⟨o, us, file, tf, flags, tg, inF, text, tt, hidT_get e1 (outD e1 (fun _ _ z => nomatch r2.symm.trans z) fun z => ?_), r1, r2, r3, r⟩
      cases r2.symm.trans z
      simp at r3
    · obtain ⟨bm, o, b1, b2, b3, b4, b5, b6⟩ := hbm
      refine ⟨bm, o, b1, b2, ?_, ?_, hidT_get b3 (outD b3 (fun _ _ z => nomatch b6.symm.trans z) fun z => nomatch b6.symm.trans z), b4, b5, b6⟩
      · rintro rfl
        obtain ⟨o2, es, ep, e, d, _⟩ := hns
        cases b3.symm.trans e
        exact nomatch b6.symm.trans d
      · rintro rfl
        cases b3.symm.trans (hT p hp)
        cases b6
    · obtain ⟨o, es, ep, e, d, _⟩ := hns
      rw [z, hT p hp] at e
      cases e
      cases d
  have hok : HOk P w H s₁.heap := fun b u z => by
    rcases hp0_cases (K := K) (T := T) (a := a) (b := b) (o := ob) (xs := ns.map V.int) with ⟨h, q⟩ | ⟨_, rfl, _, q⟩ | ⟨_, _, q⟩
    · cases q.symm.trans z; exact (isT h).1
    · cases q.symm.trans z; exact ⟨ha, by rw [List.length_map]; exact hl, vs, _, rv, ha⟩
    · cases q.symm.trans z
  have hS : SqL K H a (ns.map V.int) := by
    cases hk : K.lookup a with
    | none => exact .inl (.inr ⟨ob, hp0_a aT hk⟩)
    | some o =>
      cases ha.symm.trans (KX a o hk)
      exact .inr ⟨_, vs.toArray, _, hk, rfl, rfl, rfl, by rw [List.size_toArray, hi.length]; exact hl, by simpa using rv⟩
  have hH : ∀ p ∈ cs, H p.2 = some (.tbl #[]) := fun p hp => hp0_T (List.mem_map.mpr ⟨p, hp, rfl⟩)
  have e0 : Env0 P w K mg (hidT s₁.heap H) callerA [] s₁ H := ⟨rfl, hM, fun b o e => of_hidT e, Nat.le_of_eq (hidT_size _ _), trivial, fun b hb => absurd (show b ∈ ([] : List Addr) from hb) (by simp), hok, .of_eq hg⟩
  refine codeAny_mono ((F _ hKb (keepNs hns) TB).go callerA [] s₁ H ⟨[.ref a], []⟩ [.ref a] [.ref a] _ _ rfl hr e0 (hbind s₁ (.ref a)) (.cons rfl .nil) (hsp H hH hS)) fun r s' h => ?_
  match r, h with
  | .error e, h => exact (hCX H e s' h).elim
  | .ok (.ret u), ⟨v, H', os, bare, un, hok', r', q⟩ =>
    cases (show v = .bl true from q)
    obtain rfl : u = Value.bool true := r'
    have grown : ∀ b ∈ T, ∃ more : Array Value, s'.heap.get? b = some { cls := .none, data := .fields more } := fun b hb => by
      obtain ⟨more, z⟩ := un.tbls b #[] (hp0_T hb)
      exact ⟨_, hok' b _ z⟩
    have kept : ∀ b o, b ∉ T → s₁.heap.get? b = some o → s'.heap.get? b = some o := fun b o nb e => by
      rcases hp0_cases (K := K) (T := T) (a := a) (b := b) (o := ob) (xs := ns.map V.int) with ⟨h, _⟩ | ⟨_, _, _, q⟩ | ⟨_, _, q⟩
      · exact (nb h).elim
      · cases e.symm.trans (hok b _ q).1
        exact (hok' b _ (un.frzs b _ _ q)).1
      · exact un.keep b o e q (fun z => nomatch (show b ∈ ([] : List Addr) from z)) fun z => nomatch z
    refine ⟨rfl, ⟨fun b o e => ?_, fun b o e => ?_⟩, os, bare⟩
    · by_cases hb : b ∈ T
      · obtain ⟨more, hm⟩ := grown b hb
        obtain ⟨p, hp, rfl⟩ := List.mem_map.mp hb
        cases e.symm.trans (hT p hp)
        exact .inr (.inl ⟨((C p hp).tab (hT p hp)).isCodeTable, rfl, #[], more, rfl, by rw [Array.empty_append]; exact hm⟩)
      · exact .inl (kept b o hb e)
    · by_cases hb : b ∈ T
      · obtain ⟨more, hm⟩ := grown b hb
        exact ⟨_, hm⟩
      · exact ⟨o, kept b o hb e⟩
end Dl
set_option Elab.async false
set_option linter.all false
set_option maxRecDepth 100000
set_option maxHeartbeats 4000000
set_option autoImplicit false
namespace Dl
open PySem PySem.Spec PyProof.Rows L2
/-- the law's def and what it promises, at the heap behind the top -/
structure EndG (l : PySem.W.OpenLaw) (w : World) (K : PySem.W.Frag) (k : Nat) (x : Str) (mg : Str → Option Value) (fa : Addr) (h : Heap) (n : Nat) where
  fd : FuncData
  cs : List (Addr × Addr)
  R : Rel
  tab : ∀ p ∈ cs, h.get? p.2 = some { cls := .none, data := .fields #[] } ∧ K.lookup p.2 = none ∧ PySem.W.CodeHd h p.1 p.2
  bind : ∀ (s : Shared) (u : Value), BindsTo s fd ⟨[u], []⟩ [(x, u)]
  holds : ∀ (H : Hp) (a : Addr) (ns : List Int), ns.length ≤ n → (∀ z ∈ ns, Builtin.Int.intBits z ≤ 1048576) → (∀ p ∈ cs, H p.2 = some (.tbl #[])) → SqL K H a (ns.map V.int) → spD K R [.ref a] H (fun v _ => v = .bl true) fun _ _ _ => False
  ok : ∀ base : Heap, K.In base → base.Ns mainGlobals mg → (∀ p ∈ cs, LamX.TabB base mg p.1 p.2) → FnG l.prog w K mg base (L2.CX l.prog w) k fa fd [x] (spD K R)
theorem walk_G {l : PySem.W.OpenLaw} {n k : Nat} {q : Program} {loose : List Str} {XP : (Str → Option Value) → Heap → Prop} {YP : World → Heap → Prop} {d : DefRec} {K : Params → PySem.W.Frag} {x : Str}
    (hn : l.most = some n) (hn2 : n ≤ sizeLine) (hdf : d.params.defaults = []) (hr : Room k callerA) (hY : ∀ (w : World) (h : Heap), YP w h → (K w.params).In h)
    (F : ∀ (w : World) (mg : Str → Option Value) (fa : Addr) (h : Heap), (K w.params).In h → h.Ns mainGlobals mg → mg d.name = some (.ref fa) →
      (∀ (y : Str) (e : DefRec) (c P : Addr), (recsOf q).find? (fun e => e.name == y) = some e → PySem.W.tabIn (K w.params) y = some (c, P) → PySem.W.CodeHd h c P ∧ h.get? P = some (PySem.W.tabObj #[])) → Nonempty (EndG l w (K w.params) k x mg fa h n)) :
    PySem.W.WalkO q loose XP YP l.row.toRowW d [] (fun f vs => PySem.call f vs) := by
  refine Att.attach_callB hn hdf fun w s₀ s₁ mg mb fa o pm cd doc a vs ns G Y ho hd hcd hmg hobj hints hlen hbits hg => ?_
  have inK := hY w _ Y
  obtain ⟨Z⟩ := F w mg fa _ inK G.T.g hmg fun y e c P e1 e2 => PySem.W.tab_of G.T inK e1 e2
  exact law_callG inK G.T.g G.T.b G.T.builtins G.T.nolimit hg (fun p hp => (Z.tab p hp).1) (fun p hp => (Z.tab p hp).2.1) (fun p hp => (Z.tab p hp).2.2) G.T.bmain hobj hints (Nat.le_trans hlen hn2) hr Z.ok Z.bind
    (fun H hH hS => Z.holds H a ns hlen hbits hH hS) fun H e s' h => by obtain ⟨_, _, _, _, _, _, _, _, _, _, _, _, z⟩ := h; exact z
end Dl
set_option Elab.async false
set_option linter.all false
set_option maxRecDepth 100000
set_option maxHeartbeats 4000000
set_option autoImplicit false
namespace Dl
open PySem PySem.Spec PyProof.Rows L2
end Dl
set_option Elab.async false
set_option linter.all false
set_option maxRecDepth 100000
set_option maxHeartbeats 4000000
set_option autoImplicit false
namespace Dl
open PySem PySem.Spec PyProof.Rows L2
/-! ## a, b = e1, e2 with plain names: the pair is never made -/
section
variable {X : Cx} {N : En} {W : WX} {n : Nat} {δ : List (Option S)} {μ μ1 : List M} {a b : Expr} {s1 s2 : S} {x y : Str} {px py pt pos : Pos} {kt k2} {pt2 : Pos}
theorem ds_par (i j : Nat) (g : Go X N W n) (ha : DA X N W δ μ [a, b] [s1, s2] μ1) (hi : X.N[i]? = some x := by rfl) (hj : X.N[j]? = some y := by rfl) (hij : i ≠ j := by decide)
    (hx : X.env.scope.names.lookup x = some .local := by rfl) (hy : X.env.scope.names.lookup y = some .local := by rfl)
    (hw : swappedStores [.Tuple [.Name x px, .Name y py] kt pt] (.Tuple [a, b] k2 pt2) X.env = pure (some [x, y]) := by rfl)
    (hs : swapsWithSole [.Tuple [.Name x px, .Name y py] kt pt] (.Tuple [a, b] k2 pt2) pos.line X.env = pure false := by rfl) :
    DS X N W δ μ (.Assign [.Tuple [.Name x px, .Name y py] kt pt] (.Tuple [a, b] k2 pt2) pos) (.nx ((δ.set i (some s1)).set j (some s2)) μ1) :=
  PS.imp (ps_par (i := i) (j := j) g.calm g.nd hi hj hij hx hy ha hw hs) fun K σ H ⟨F, A, R, k⟩ => ⟨F, A, R, fun vs F1 A1 H1 e1 p1 R1 rv => by
    obtain ⟨v, w, rfl, r1, r2⟩ := two_of rv
    exact ⟨v, w, rfl, k _ F1 A1 H1 e1 p1 ((R1.set r1).set r2)⟩⟩
end
end Dl
set_option Elab.async false
set_option linter.all false
set_option maxRecDepth 100000
set_option maxHeartbeats 4000000
set_option autoImplicit false
namespace Dl
open PySem PySem.Spec PyProof.Rows L2
/-! ## next of a zip whose last pair is still held -/
/-! ## list(zip(..)): what stands between two turns -/
end Dl
set_option Elab.async false
set_option linter.all false
set_option maxRecDepth 100000
set_option maxHeartbeats 4000000
set_option autoImplicit false
namespace Dl
open PySem PySem.Spec PyProof.Rows L2
/-! ## dict(list(zip(ints, text))), d.get(i, c), list(xs) as a list that changes -/
end Dl
set_option Elab.async false
set_option linter.all false
set_option maxRecDepth 100000
set_option maxHeartbeats 4000000
set_option autoImplicit false
namespace Dl
open PySem PySem.Spec PyProof.Rows L2
/-! ## repr of data: None, bools, ints, texts, lists, tuples of them at any depth -/
mutual
def py : D → PyData
  | .bl b => .bool b
  | .int i => .int i
  | .str x => .str x
  | .tup ds => .tuple (pyAll ds)
  | .lst ds => .list (pyAll ds)
  | _ => .none
def pyAll : List D → List PyData
  | [] => []
  | d :: ds => py d :: pyAll ds
end
mutual
def isPy : D → Bool
  | .non | .bl _ | .int _ | .str _ => true
  | .tup ds | .lst ds => arePy ds
  | _ => false
def arePy : List D → Bool
  | [] => true
  | d :: ds => isPy d && arePy ds
end
end Dl
set_option Elab.async false
set_option linter.all false
set_option maxRecDepth 100000
set_option maxHeartbeats 4000000
set_option autoImplicit false
namespace Dl
open PySem PySem.Spec PyProof.Rows L2
/-! ## repr of a dict, its keys ints and texts, its values None, bools, ints, texts -/
end Dl
set_option Elab.async false
set_option linter.all false
set_option maxRecDepth 100000
set_option maxHeartbeats 4000000
set_option autoImplicit false
namespace Dl
open PySem PySem.Spec PyProof.Rows L2
/-! ## repr of data with dicts of plain values in it, at any depth -/
end Dl
set_option Elab.async false
set_option linter.all false
set_option maxRecDepth 100000
set_option maxHeartbeats 4000000
set_option autoImplicit false
namespace Dl
open PySem PySem.Spec PyProof.Rows L2
section
variable {X : Cx} {N : En} {W : WX} {n : Nat} {e : Expr} {p : Pos} {f : As} {ix : List Nat}
/-- the last target, with a star -/
theorem dgs_last (h : DG X N e f ix) (h1 : (assignEach [e] X.env).map (·.2) = assign e X.env :: (assignEach [] X.env).map (·.2) := by rfl) (h2 : (assignEach [.Starred e p] X.env).map (·.2) = (assignEach [e] X.env).map (·.2) := by rfl) : DGs X N [.Starred e p] [f] (ix ++ []) := by
  have k : DGs X N [e] [f] (ix ++ []) := dgs_cons h dgs_nil h1
  refine ⟨fun pins s σ H us vs Q I r hh => ?_⟩
  have := k.run pins s σ H us vs Q I r hh
  rw [h2]
  exact this
end
end Dl
set_option Elab.async false
set_option linter.all false
set_option maxRecDepth 100000
set_option maxHeartbeats 4000000
set_option autoImplicit false
namespace Dl
open PySem PySem.Spec PyProof.Rows L2
end Dl
set_option Elab.async false
set_option linter.all false
set_option maxRecDepth 100000
set_option maxHeartbeats 4000000
set_option autoImplicit false
namespace Dl
open PySem PySem.Spec PyProof.Rows L2
section
variable {X : Cx} {N : En} {W : WX} {n : Nat} {μ : List M}
theorem o_neD (g : Go X N W n) {d1 d2 : D} {p1 p2 : PyData} {q : Bool} (h1 : PyD d1 p1) (h2 : PyD d2 p2) (s1 : SeqAt.shaped p1 = true) (s2 : SeqAt.shaped p2 = true) (hq : (!PyData.eqv p1 p2) = q) : OpOk X N W (compareOp .NotEq) μ (.p d1) (.p d2) (.v (.p (.bl q))) μ :=
  ⟨_, op_neD (by have := g.room.un; omega), fun σ δ F A H x y Q R rx ry k => ⟨p1, p2, by rw [← g.hK]; exact h1.dp R.rc.sub rx, by rw [← g.hK]; exact h2.dp R.rc.sub ry, s1, s2, by rw [hq]; exact k.here R (.bl _)⟩⟩
end
end Dl
set_option Elab.async false
set_option linter.all false
set_option maxRecDepth 100000
set_option maxHeartbeats 4000000
set_option autoImplicit false
namespace Dl
open PySem PySem.Spec PyProof.Rows L2
/-! ## data whose repr is short, from its parts -/
structure RS (k n : Nat) (d : D) : Prop where
  ip : isPy d = true
  sh : (py d).showable = true
  dp : (py d).depth ≤ k
  lv : (py d).leavesShort 20 = true
  wt : (py d).weight ≤ n
structure RSs (k n : Nat) (ds : List D) : Prop where
  ip : arePy ds = true
  sh : PyData.showableAll (pyAll ds) = true
  dp : PyData.depthAll (pyAll ds) ≤ k
  lv : PyData.leavesShortAll 20 (pyAll ds) = true
  wt : PyData.weightAll (pyAll ds) ≤ n
theorem RSs.nil {k n : Nat} : RSs k n [] := ⟨rfl, rfl, Nat.zero_le _, rfl, Nat.zero_le _⟩
theorem RSs.cons {k a b n : Nat} {d : D} {ds : List D} (h : RS k a d) (hs : RSs k b ds) (hn : a + 1 + b ≤ n := by omega) : RSs k n (d :: ds) := by
  refine ⟨?_, ?_, ?_, ?_, ?_⟩
  · simp only [arePy, h.ip, hs.ip]; rfl
  · simp only [pyAll, PyData.showableAll, h.sh, hs.sh]; rfl
  · simp only [pyAll, PyData.depthAll]
    exact Nat.max_le.mpr ⟨h.dp, hs.dp⟩
  · simp only [pyAll, PyData.leavesShortAll, h.lv, hs.lv]; rfl
  · simp only [pyAll, PyData.weightAll]
    have := h.wt
    have := hs.wt
    omega
theorem RSs.map {α : Type} {f : α → D} {k b : Nat} : ∀ {l : List α}, (∀ a ∈ l, RS k b (f a)) → RSs k ((b + 1) * l.length) (l.map f)
  | [], _ => .nil
  | a :: l, h => .cons (h a (by simp)) (RSs.map (l := l) fun x hx => h x (by simp [hx])) (by rw [List.length_cons, Nat.mul_add]; omega)
theorem RSs.mono {k n m : Nat} {ds : List D} (h : RSs k n ds) (q : n ≤ m) : RSs k m ds := ⟨h.ip, h.sh, h.dp, h.lv, Nat.le_trans h.wt q⟩
theorem RS.mono {k j n m : Nat} {d : D} (h : RS k n d) (q : n ≤ m) (p : k ≤ j) : RS j m d := ⟨h.ip, h.sh, Nat.le_trans h.dp p, h.lv, Nat.le_trans h.wt q⟩
theorem RS.tup {k n : Nat} {ds : List D} (h : RSs k n ds) : RS (k + 1) n (.tup ds) := by
  refine ⟨?_, ?_, ?_, ?_, ?_⟩
  · simp only [isPy, h.ip]
  · simp only [py, PyData.showable, h.sh]
  · simp only [py, PyData.depth]
    have := h.dp
    omega
  · simp only [py, PyData.leavesShort, h.lv]
  · simp only [py, PyData.weight]
    exact h.wt
theorem RS.lst {k n : Nat} {ds : List D} (h : RSs k n ds) : RS (k + 1) n (.lst ds) := by
  refine ⟨?_, ?_, ?_, ?_, ?_⟩
  · simp only [isPy, h.ip]
  · simp only [py, PyData.showable, h.sh]
  · simp only [py, PyData.depth]
    have := h.dp
    omega
  · simp only [py, PyData.leavesShort, h.lv]
  · simp only [py, PyData.weight]
    exact h.wt
theorem RS.str {k : Nat} {L : List Nat} (h : ∀ c ∈ L, c < 1000) : RS k L.length (.str (st L)) := by
  refine ⟨rfl, by simp only [py, PyData.showable], by simp only [py, PyData.depth]; omega, ?_, ?_⟩
  · simp only [py, PyData.leavesShort, Dl.st, List.all_eq_true, decide_eq_true_eq]
    intro c hc
    have := h c (by simpa using hc)
    have e : (16 : Nat) ^ 8 = 4294967296 := by decide
    omega
  · simp [py, PyData.weight, Dl.st]
end Dl
set_option Elab.async false
set_option linter.all false
set_option maxRecDepth 100000
set_option maxHeartbeats 4000000
set_option autoImplicit false
namespace Dl
open PySem PySem.Spec PyProof.Rows L2
/-! ## an own error made as a value: X(e) -/
end Dl
set_option Elab.async false
set_option linter.all false
set_option maxRecDepth 100000
set_option maxHeartbeats 4000000
set_option autoImplicit false
namespace Dl
open PySem PySem.Spec PyProof.Rows L2
/-! ## a def with defaults -/
end Dl
set_option Elab.async false
set_option linter.all false
set_option maxRecDepth 100000
set_option maxHeartbeats 4000000
set_option autoImplicit false
namespace Dl
open PySem PySem.Spec PyProof.Rows L2
/-! ## {'I': .., 'X': .., 'Z': .., 'Y': ..}[letter] -/
end Dl
set_option Elab.async false
set_option linter.all false
set_option maxRecDepth 100000
set_option maxHeartbeats 4000000
set_option autoImplicit false
namespace GQB
open PySem PySem.SeqAt GQ
open AutoSeq1 (wpAny_loadPart')
open MeetsSeq MeetsSeq2 MeetsSeq3 SeqRoads2
section
variable {prog : Program} {w : World} {A : Around} {R : Result → Shared → Prop}
theorem tuple_eqB (l b : Addr) (items items2 : Array Value) (n n2 : Nat) (dd dd2 : Option Addr) (sl sl2 : Array (Option Value)) (I : Nat → Shared → Prop) (q : Nat → Bool)
    (turn : ∀ i (h1 : i < items.size) (h2 : i < items2.size) s, I i s → wpAny (model prog w) A.in1 (eqBool items[i] items2[i]) (fun r s' => r = q i ∧ I (i + 1) s') (fun e s' => R (.error e) s') s)
    (stop : ∀ i s, i < items.size → i < items2.size → q i = false → I (i + 1) s → R (.ok (.ret (.bool false))) s)
    (fin : ∀ i s, i = min items.size items2.size → (∀ j, j < i → q j = true) → I i s → R (.ok (.ret (.bool (items.size == items2.size)))) s) {s : Shared} (hl1 : s.heap.get? l = some { cls := .type "tuple", dict := dd, data := .seq items n, slots := sl }) (hb1 : s.heap.get? b = some { cls := .type "tuple", dict := dd2, data := .seq items2 n2, slots := sl2 }) (h : I 0 s) :
    wpAny (model prog w) A.in1 (Builtin.«tuple.__eq__» ⟨[.ref l, .ref b], []⟩) (FinOf prog w A R) (fun e s' => R (.error e) s') s := by
  have f2 := AutoSeq1.sub_tuple_tuple
  have hZ : (items.toList.zip items2.toList).length = min items.size items2.size := by simp
  have h0 := h
  obtain ⟨hp, g, d, tk, os⟩ := s
  wp_walk using wpAny_loadPart' hl1, wpAny_loadPart' hb1, wpAny_forIn_list _ (fun rest b s' => b.1 = none ∧ ∃ i, rest = (items.toList.zip items2.toList).drop i ∧ i ≤ min items.size items2.size ∧ (∀ j, j < i → q j = true) ∧ I i s') _
  case turn =>
    rintro ⟨y, x⟩ rest b s' ⟨hb', i, hz, hi, hall, hI⟩
    have hlt : i < (items.toList.zip items2.toList).length := by
      rcases Nat.lt_or_ge i (items.toList.zip items2.toList).length with h' | h'
      · exact h'
      · rw [List.drop_of_length_le h'] at hz; cases hz
    have h12 : i < min items.size items2.size := hZ ▸ hlt
    have h1 : i < items.size := by omega
    have h2 : i < items2.size := by omega
    rw [List.drop_eq_getElem_cons hlt] at hz
    injection hz with hyx hrest
    have hy : y = items[i] := by have := congrArg Prod.fst hyx; simpa using this
    have hx : x = items2[i] := by have := congrArg Prod.snd hyx; simpa using this
    subst hy hx
    refine wpAny_bind (wpAny_mono (turn i h1 h2 s' hI) (fun r s2 q2 => ?_) fun _ _ x => x)
    obtain ⟨hr, q2⟩ := q2
    subst hr
    cases hq : q i with
    | true =>
      wp_walk
      exact ⟨rfl, i + 1, hrest, h12, (fun j hj => by rcases Nat.lt_succ_iff_lt_or_eq.mp hj with h | rfl; exact hall j h; exact hq), q2⟩
    | false =>
      have hs := stop i s2 h1 h2 hq q2
      wp_walk
      exact hs
  case fin =>
    rintro ⟨b1, b2⟩ s' ⟨hb', i, hz, hi, hall, hI⟩
    simp only at hb'
    subst hb'
    have hge : min items.size items2.size ≤ i := by
      rcases Nat.lt_or_ge i (items.toList.zip items2.toList).length with h' | h'
      · rw [List.drop_eq_getElem_cons h'] at hz; cases hz
      · exact hZ ▸ h'
    have hi' : i = min items.size items2.size := by omega
    have hR := fin i s' hi' hall hI
    wp_walk
    simpa [Builtin.Tuple.tupleCompareSizes] using hR
  case h =>
    exact ⟨rfl, 0, rfl, Nat.zero_le _, (fun j hj => absurd hj (Nat.not_lt_zero j)), h0⟩
theorem rc_tupB {l b : Addr} {items items2 : Array Value} {E : Value → Shared → Prop} {Q : Value → Shared → Prop} (hu : A.units < cLine) (I : Nat → Shared → Prop) (q : Nat → Bool) {s : Shared}
    (hl : s.heap.IsTuple l items) (hb : s.heap.IsTuple b items2)
    (turn : ∀ i (h1 : i < items.size) (h2 : i < items2.size) s, I i s → wpAny (model prog w) A.in1 (eqBool items[i] items2[i]) (fun r s' => r = q i ∧ I (i + 1) s') E s)
    (stop : ∀ i s, i < items.size → i < items2.size → q i = false → I (i + 1) s → Q (.bool false) s)
    (fin : ∀ i s, i = min items.size items2.size → (∀ j, j < i → q j = true) → I i s → Q (.bool (items.size == items2.size)) s) (h : I 0 s) : wpAny (model prog w) A (richCompare .Eq (.ref l) (.ref b)) Q E s := by
  obtain ⟨⟨cls, dd, data, sl⟩, ho, hc, n, hd⟩ := id hl
  obtain ⟨⟨cls2, dd2, data2, sl2⟩, ho2, hc2, n2, hd2⟩ := id hb
  simp only at hc hd hc2 hd2
  subst hc hd hc2 hd2
  refine wpAny_richCompare_same_room (op := .Eq) ⟨_, ho, rfl⟩ ⟨_, ho2, rfl⟩ F.slot_tuple_eq (call_here F.slot_tuple_eq ⟨_, ho, rfl⟩ F.entry_tuple_eq (F.args_tuple_eq_2 _ _) ?_) hu
  exact tuple_eqB (R := wants (fun v s' => v ≠ .notImplemented ∧ Q v s') E) l b items items2 n n2 dd dd2 sl sl2 I q turn (fun i s a c d e => ⟨(fun x => nomatch x), stop i s a c d e⟩) (fun i s a c d => ⟨(fun x => nomatch x), fin i s a c d⟩) ho ho2 h
end
end GQB
set_option Elab.async false
set_option linter.all false
set_option maxRecDepth 100000
set_option maxHeartbeats 4000000
set_option autoImplicit false
namespace Dl
open PySem PySem.Spec PyProof.Rows L2
/-! ## == of data that hold own objects -/
theorem Rc.ext {N : En} {F : Hp} {A : List Addr} {H H' : Hp} {μ : List M} (r : Rc N F A H μ) (e : Ext H H') : Rc N F A H' μ where
  sub := r.sub.trans fun a o h => e a o h
  base := r.base
  new := r.new
  keep := fun a o h hA => e _ _ (r.keep a o h hA)
  pre := r.pre
  nd := r.nd
  len := r.len
  mus := fun j a m h1 h2 => by
    obtain ⟨o, ho⟩ := r.there (List.mem_of_getElem? h1)
    exact (r.mus j a m h1 h2).mono (Same.refl _) (List.prefix_refl _) ((e _ _ ho).trans ho.symm)
  fr := r.fr
theorem Rl.ext {N : En} {F : Hp} {A : List Addr} {H H' : Hp} {σ : L2.St} {δ : List (Option S)} {μ : List M} (r : Rl N F A H σ δ μ) (e : Ext H H') : Rl N F A H' σ δ μ := ⟨r.rc.ext e, r.len, r.sl⟩
/-- == inside a builtin, of what stands for d1 and d2, gives b -/
def EB (X : Cx) (n : Nat) (d1 d2 : D) (b : Bool) : Prop :=
  ∀ (A : Around) (pins : List (Addr × Obj)) (s : Shared) (σ : L2.St) (H F : Hp) (x y : V) (u v : Value), Sub X n A → Inv X pins σ H s → Same F H → RelV x u → RelV y v → Rep X.K F x d1 → Rep X.K F y d2 →
    wpAny (model X.prog X.w) A (eqBool u v) (fun r s' => r = b ∧ ∃ H', Inv X pins σ H' s' ∧ Ext H H') X.xe s
section
variable {X : Cx} {N : En} {W : WX} {n : Nat} {δ δ' δ1 δ2 : List (Option S)} {μ μ' μ1 μ2 μ3 : List M} {e a b c o : Expr} {pos p apos : Pos} {d : D} {s s1 s2 : S} {r : Rx} {R : Rel} {k : Nat} {C : Addr}
theorem EB.mono {m : Nat} {d1 d2 : D} {b : Bool} (h : EB X n d1 d2 b) (hn : n ≤ m) : EB X m d1 d2 b := fun A pins s σ H F x y u v sb => h A pins s σ H F x y u v (sb.mono hn)
/-- own objects, by the class's own == -/
theorem eb_ins {ns ms : List Str} {ds es : List D} {q : Bool} (g : Go X N W n) (cm : Cm X.prog X.w X.K X.mg X.base k C "__eq__" [] R) (hR : R [.p (.ins C ns ds), .p (.ins C ms es)] [] (.v (.p (.bl q))) [])
    (same : ∀ F x, Rep X.K F x (.ins C ns ds) → Rep X.K F x (.ins C ms es) → q = true) : EB X k (.ins C ns ds) (.ins C ms es) q := by
  intro A pins s σ H F x y u v sb I sm rx ry r1 r2
  obtain ⟨f, fd, ps, dl, dvs, Fo, hme, hbi, hd, rd⟩ := cm.ex
  obtain ⟨a1, dx1, fs1, rfl, g1, g2, g3⟩ := rep_ins r1
  obtain ⟨a2, dx2, fs2, rfl, k1, k2, k3⟩ := rep_ins r2
  cases rx
  cases ry
  by_cases hab : a1 = a2
  · subst hab
    rw [same F _ r1 r2]
    exact SeqAt.EqAt.same (A := A) (s := s) (.ref a1) X.prog X.w X.xe _ ⟨rfl, H, I, Ext.rfl'⟩
  · obtain ⟨mA, J, _⟩ := ins_get I.hok (sm _ _ g1)
    obtain ⟨mB, J', _⟩ := ins_get I.hok (sm _ _ k1)
    obtain ⟨od, J, _⟩ := J.look
    obtain ⟨od', J', _⟩ := J'.look
    obtain ⟨m, hF⟩ := I.fr
    refine GQ.eqBool_refG hab (PySem.W.cmp_K (op := .Eq) (tb := .ref C) sb.room.units0 hF I.ok.mod.kin J J'.type (by simp [PySem.W.notFirst]) hme.at_ hme.fn ?_)
    have hsp : spD X.K R [.ref a1, .ref a2] H (fun v H' => v = .bl q ∧ Ext H H') (fun _ _ _ => False) := by
      refine ⟨F, [], [.p (.ins C ns ds), .p (.ins C ms es)], [], .v (.p (.bl q)), [], hR, ⟨sm, Same.refl _, fun a o h => .inl ⟨o, h⟩, fun _ _ h _ => h, ⟨[], rfl, fun _ h => by cases h⟩, List.nodup_nil, rfl, fun j a m h => by simp at h, fun j a m h => by simp at h⟩, .cons r1 (.cons r2 .nil), fun v F' A' H' rc rv => ?_⟩
      have rv' : Rep X.K F' v (.bl q) := rv
      cases rv'
      exact ⟨rfl, fun a o h => rc.keep a o h (by simp)⟩
    have e0 : Env0 X.prog X.w X.K X.mg X.base A X.stack s H := by
      have e := I.env0
      exact ⟨by rw [sb.fr]; exact e.frames, e.mod, e.bs, e.bsz, e.funs, e.frf, e.hok, e.bare⟩
    have hdn : dl = [] := by
      have h0 := rd F
      cases h0
      cases hd
      rfl
    subst hdn
    have hl := Fo.len _ _ _ _ hsp
    refine wpAny_call (codeAny_mono (Fo.run A X.stack s H ⟨[.ref a1, .ref a2], []⟩ [.ref a1, .ref a2] [.ref a1, .ref a2] _ _ sb.room e0 (by
      have := hbi s [.ref a1, .ref a2] I.kIn (by simpa using hl)
      simpa using this) (.cons rfl (.cons rfl .nil)) hsp) fun r s' hq => ?_)
    cases r with
    | error e =>
      have hx : Passes (L2.CX X.prog X.w) X (fun _ _ _ => False) := fun _ _ _ _ _ _ _ c => by
        obtain ⟨_, _, _, _, _, _, _, _, _, _, _, _, z⟩ := c
        exact z.elim
      exact hx pins σ H s e s' I hq
    | ok fl =>
      cases fl with
      | ret w =>
        obtain ⟨z, H', I', rz, ez, ex⟩ := I.after hq
        subst ez
        cases rz
        exact ⟨q, rfl, rfl, H', I', ex⟩
      | next => exact False.elim hq
      | brk => exact False.elim hq
      | cont => exact False.elim hq
def eqL (qf : D → D → Bool) : List D → List D → Bool
  | [], [] => true
  | a :: l, b :: m => qf a b && eqL qf l m
  | _, _ => false
theorem eqL_no {qf : D → D → Bool} : ∀ {l m : List D} {i : Nat} {a b : D}, l[i]? = some a → m[i]? = some b → qf a b = false → eqL qf l m = false
  | a :: l, b :: m, 0, _, _, h1, h2, h => by
    simp at h1 h2
    subst h1 h2
    unfold eqL
    rw [h]
    rfl
  | a :: l, b :: m, i + 1, _, _, h1, h2, h => by
    unfold eqL
    rw [eqL_no (l := l) (m := m) (i := i) (by simpa using h1) (by simpa using h2) h, Bool.and_false]
  | [], _, _, _, _, h1, _, _ => by simp at h1
  | _ :: _, [], _, _, _, _, h2, _ => by simp at h2
theorem eqL_yes {qf : D → D → Bool} : ∀ {l m : List D}, (∀ (i : Nat) (a b : D), l[i]? = some a → m[i]? = some b → qf a b = true) → eqL qf l m = (l.length == m.length)
  | [], [], _ => rfl
  | [], _ :: _, _ => rfl
  | _ :: _, [], _ => rfl
  | a :: l, b :: m, h => by
    unfold eqL
    rw [h 0 a b rfl rfl, eqL_yes (l := l) (m := m) fun i x y h1 h2 => h (i + 1) x y (by simpa using h1) (by simpa using h2)]
    simp
theorem tup_turn {ds es : List D} {qf : D → D → Bool} (hE : ∀ (i : Nat) (a b : D), ds[i]? = some a → es[i]? = some b → EB X n a b (qf a b)) {A : Around} (sb : Sub X (n + 1) A) {pins : List (Addr × Obj)} {σ : L2.St} {H F : Hp} (sm : Same F H) {xs ys : List V} {its its2 : List Value} (r1 : Reps X.K F xs ds) (r2 : Reps X.K F ys es) (r : Vals xs its) (q : Vals ys its2)
    (i : Nat) (h1 : i < its.toArray.size) (h2 : i < its2.toArray.size) (s' : Shared) (l : LoopI X pins σ H s') :
    wpAny (model X.prog X.w) A.in1 (eqBool its.toArray[i] its2.toArray[i]) (fun r s2 => r = qf (ds.getD i .non) (es.getD i .non) ∧ LoopI X pins σ H s2) X.xe s' := by
  obtain ⟨H1, I1, e1⟩ := l
  have g1 : its[i]? = some its.toArray[i] := by
    have h1' : i < its.length := by simpa using h1
    rw [List.getElem?_eq_getElem h1'] <;> simp
  have g2 : its2[i]? = some its2.toArray[i] := by
    have h2' : i < its2.length := by simpa using h2
    rw [List.getElem?_eq_getElem h2'] <;> simp
  have k1 : i < xs.length := by rw [r.length]; simpa using h1
  have k2 : i < ys.length := by rw [q.length]; simpa using h2
  obtain ⟨u, hu, ru⟩ := r.get (List.getElem?_eq_getElem k1)
  obtain ⟨v, hv, rv⟩ := q.get (List.getElem?_eq_getElem k2)
  rw [g1] at hu
  rw [g2] at hv
  obtain ⟨a, ha, ra⟩ := r1.get' (List.getElem?_eq_getElem k1)
  obtain ⟨b, hb, rb⟩ := r2.get' (List.getElem?_eq_getElem k2)
  rw [Option.some.inj hu, Option.some.inj hv, List.getD_eq_getElem?_getD, List.getD_eq_getElem?_getD, ha, hb]
  refine wpAny_mono (hE i a b ha hb A.in1 pins s' σ H1 F _ _ u v sb.in1 I1 (sm.trans fun a o h => e1 a o h) ru rv ra rb) (fun r s2 q => ?_) fun _ _ x => x
  obtain ⟨hr, H2, I2, e2⟩ := q
  exact ⟨hr, H2, I2, e1.trans e2⟩
def rTup (K : PySem.W.Frag) (ds es : List D) (b : Bool) : R2 := fun x y H Q => ∃ F, Same F H ∧ Rep K F x (.tup ds) ∧ Rep K F y (.tup es) ∧ ∀ H', Ext H H' → Q (.bl b) H'
theorem op_tupEq {ds es : List D} {qf : D → D → Bool} (hE : ∀ (i : Nat) (a b : D), ds[i]? = some a → es[i]? = some b → EB X n a b (qf a b)) (hr : Room (n + 1) X.A) : OpR X (compareOp .Eq) (rTup X.K ds es (eqL qf ds es)) := by
  intro pins s σ H x y v u Q I rx ry ⟨F, sm, r1, r2, hq⟩
  obtain ⟨a, xs, rfl, h1, h2⟩ := rep_tup r1
  obtain ⟨b, ys, rfl, k1, k2⟩ := rep_tup r2
  cases rx
  cases ry
  obtain ⟨its, r, e, z⟩ := I.tuple (same_sqT sm h1)
  obtain ⟨its2, r2, e2, z2⟩ := I.tuple (same_sqT sm k1)
  have sb : Sub X (n + 1) X.A := ⟨hr, rfl⟩
  have l1 : its.toArray.size = ds.length := by rw [List.size_toArray, ← r.length, h2.length]
  have l2 : its2.toArray.size = es.length := by rw [List.size_toArray, ← r2.length, k2.length]
  show wpAny (model X.prog X.w) X.A (richCompare .Eq (.ref a) (.ref b)) (EP X pins σ Q) X.xe s
  refine GQB.rc_tupB sb.room.units0 (fun _ s' => LoopI X pins σ H s') (fun i => qf (ds.getD i .non) (es.getD i .non)) e e2 (fun i g1 g2 s' q => tup_turn hE sb sm h2 k2 r r2 i g1 g2 s' q) (fun i s' g1 g2 hf q => ?_) (fun i s' hi hall q => ?_) ⟨H, I, Ext.rfl'⟩
  · obtain ⟨H', I', ex⟩ := q
    rw [l1] at g1
    rw [l2] at g2
    have hb : eqL qf ds es = false := by
      refine eqL_no (i := i) (List.getElem?_eq_getElem g1) (List.getElem?_eq_getElem g2) ?_
      simpa [List.getD_eq_getElem?_getD, List.getElem?_eq_getElem g1, List.getElem?_eq_getElem g2] using hf
    rw [hb] at hq
    exact ⟨.bl false, H', I', rfl, hq H' ex⟩
  · obtain ⟨H', I', ex⟩ := q
    have hb : eqL qf ds es = (ds.length == es.length) := by
      refine eqL_yes fun j x y hx hy => ?_
      have j1 := (List.getElem?_eq_some_iff.mp hx).1
      have j2 := (List.getElem?_eq_some_iff.mp hy).1
      have := hall j (by rw [hi, l1, l2]; omega)
      simpa [List.getD_eq_getElem?_getD, hx, hy] using this
    rw [hb] at hq
    rw [l1, l2]
    exact ⟨.bl _, H', I', rfl, hq H' ex⟩
theorem o_tupEq {ds es : List D} {qf : D → D → Bool} (g : Go X N W n) {m : Nat} (hE : ∀ (i : Nat) (a b : D), ds[i]? = some a → es[i]? = some b → EB X m a b (qf a b)) (hm : m + 1 ≤ n := by decide) : OpOk X N W (compareOp .Eq) μ (.p (.tup ds)) (.p (.tup es)) (.v (.p (.bl (eqL qf ds es)))) μ :=
  ⟨_, op_tupEq hE (g.room.mono hm), fun σ δ F A H x y Q R rx ry k => ⟨F, R.rc.sub, by rw [← g.hK]; exact rx, by rw [← g.hK]; exact ry, fun H' e => k (.bl _) F A H' (Same.refl _) (List.prefix_refl _) (R.ext e) (.bl _)⟩⟩
end
end Dl
set_option Elab.async false
set_option linter.all false
set_option maxRecDepth 100000
set_option maxHeartbeats 4000000
set_option autoImplicit false
namespace K79
open PySem PySem.Spec PyProof.Rows L2 Dl Cq
def top (i : Nat) : Stmt := PySem.Challenge.pw_looseknobs_k79_tables_by_hand.main.body.getD i (.Pass ⟨0, 0, 0, 0⟩)
abbrev sErr : Stmt := inClass (top 2) 0
abbrev sInit : Stmt := inClass (top 27) 0
abbrev sWTextP : Stmt := inClass (top 27) 1
abbrev sLen : Stmt := inClass (top 27) 2
abbrev sEq : Stmt := inClass (top 27) 3
abbrev sNeg : Stmt := inClass (top 27) 4
abbrev sMul : Stmt := inClass (top 27) 5
abbrev sBent : Stmt := inClass (top 27) 6
abbrev sPasses : Stmt := inClass (top 27) 7
abbrev sBeside : Stmt := inClass (top 27) 8
abbrev sNeed : Stmt := top 28
abbrev sAre : Stmt := top 30
abbrev sSigned : Stmt := top 32
abbrev sQuarters : Stmt := top 33
abbrev sMade : Stmt := top 34
abbrev sLetter : Stmt := top 35
abbrev sIsWordOf : Stmt := top 29
abbrev sPassBy : Stmt := top 63
abbrev sFirstWords : Stmt := top 66
abbrev sLone : Stmt := top 67
abbrev sTInit : Stmt := inClass (top 76) 0
abbrev sTEq : Stmt := inClass (top 76) 1
abbrev sTMul : Stmt := inClass (top 76) 2
abbrev sTInv : Stmt := inClass (top 76) 3
abbrev sTBack : Stmt := inClass (top 76) 4
abbrev sTImage : Stmt := inClass (top 76) 5
abbrev sTLedTo : Stmt := inClass (top 76) 6
abbrev sAreImages : Stmt := top 79
abbrev sPot : Stmt := top 85
abbrev sTake : Stmt := top 86
abbrev sOf : Stmt := top 87
abbrev sCells : Stmt := top 88
abbrev sRight : Stmt := top 92
abbrev sLaw : Stmt := top 93
abbrev sBentF : Stmt := top 64
abbrev sLedThr : Stmt := top 65
abbrev sThrOne : Stmt := top 68
abbrev sThrAbout : Stmt := top 69
abbrev sExch : Stmt := top 70
abbrev sFixSteps : Stmt := top 72
abbrev sFixImages : Stmt := top 73
abbrev sTableOf : Stmt := top 77
abbrev sGates : Stmt := top 78
abbrev sQuartersTo : Stmt := top 81
abbrev sWays : Stmt := top 82
abbrev sMoved : Stmt := top 83
abbrev sLTexts : Stmt := top 89
abbrev sLinesRight : Stmt := top 90
abbrev sAllRight : Stmt := top 91
abbrev sLBeside : Stmt := top 80
structure TM (mg : Str → Option Value) : Prop where
  len : mg "len" = none
  int : mg "int" = none
  abs : mg "abs" = none
  max : mg "max" = none
  min : mg "min" = none
  range : mg "range" = none
  list : mg "list" = none
  all : mg "all" = none
  any : mg "any" = none
  isinstance : mg "isinstance" = none
  str : mg "str" = none
  tuple : mg "tuple" = none
  enum : mg "enumerate" = none
  zip : mg "zip" = none
  set : mg "set" = none
  repr : mg "repr" = none
  sum : mg "sum" = none
  bool : mg "bool" = none
def bodyOf (s : Stmt) (i : Nat) : List Stmt := match (defBody s).getD i (.Pass ⟨0, 0, 0, 0⟩) with
  | .For _ _ b _ _ => b
  | _ => []
def ifC : Stmt → Expr
  | .If c _ _ _ => c
  | _ => .Constant .none 0 ⟨0, 0, 0, 0⟩
theorem end_at {μ : List M} {a : M} {k : Nat} (h : μ.length = k) : (μ ++ [a])[k]? = some a := by
  subst h
  rw [List.getElem?_append_right (Nat.le_refl _), Nat.sub_self]
  rfl
theorem end_set {μ : List M} {a b : M} {k : Nat} (h : μ.length = k) : (μ ++ [a]).set k b = μ ++ [b] := by
  subst h
  rw [List.set_append_right _ _ (Nat.le_refl _)]
  simp
theorem sz {n : Nat} (h : n ≤ 100000) : n ≤ sizeLine := by rw [sizeLine_eq]; omega
theorem sz' {n : Nat} (h : n ≤ 100000) : n < sizeLine := by rw [sizeLine_eq]; omega
end K79
set_option Elab.async false
set_option linter.all false
set_option maxRecDepth 100000
set_option maxHeartbeats 4000000
set_option autoImplicit false
namespace K79
open PySem PySem.Spec PyProof.Rows L2 Dl Cq
def rAre : Rel := fun ss μ r μ' => ∃ L, okL L ∧ ss = [.p (.str (st L))] ∧ r = .v (.p (.bl true)) ∧ μ' = μ
def rSigned : Rel := fun ss μ r μ' => ∃ (L : List Nat) (s : Int), L.length ≤ 4 ∧ ss = [.p (.str (st L)), .p (.int s)] ∧ r = .v (.p (.str (sgn L s))) ∧ μ' = μ
def rQuarters : Rel := fun ss μ r μ' => ∃ (A B : List Nat), okL A ∧ okL B ∧ A.length = B.length ∧ ss = [.p (.str (st A)), .p (.str (st B))] ∧ r = .v (.p (.int (qs A B))) ∧ μ' = μ
def rLetter : Rel := fun ss μ r μ' => ∃ a b : Nat, a ∈ IXYZ ∧ b ∈ IXYZ ∧ ss = [.p (.str ⟨#[a]⟩), .p (.str ⟨#[b]⟩)] ∧ r = .v (.p (.str ⟨#[third a b]⟩)) ∧ μ' = μ
def rMade : Rel := fun ss μ r μ' => ∃ (A B : List Nat), okL A ∧ okL B ∧ A.length = B.length ∧ ss = [.p (.str (st A)), .p (.str (st B))] ∧ r = .v (.p (.str (st (mk A B)))) ∧ μ' = μ
structure TW (w : World) (K : PySem.W.Frag) (mg : Str → Option Value) (qa ta : Addr) : Prop where
  len : mg "len" = none
  all : mg "all" = none
  sum : mg "sum" = none
  zip : mg "zip" = none
  isi : mg "isinstance" = none
  str : mg "str" = none
  lets : ∃ u, mg "LETTERS" = some u ∧ RelV (.str (st IXYZ)) u
  most : ∃ u, mg "MOST_WIRES" = some u ∧ RelV (.int 4) u
  mq : mg "QUARTER" = some (.ref qa)
  mt : mg "THIRD" = some (.ref ta)
  kq : ∃ es m, KDict K w qa es m
  kt : ∃ es m, KDict K w ta es m
  dq : ∀ a b, a ∈ IXYZ → b ∈ IXYZ → ∃ u, PySem.W.nsIn K qa (st [a, b]) = some u ∧ match u with | some u => ∃ v, RelV v u ∧ ∀ K F, Rep K F v (.int (qt a b)) | none => D.int (qt a b) = .int 0
  dt : ∀ a b, a ∈ IXYZ → b ∈ IXYZ → a ≠ b → a ≠ 73 → b ≠ 73 → ∃ u, PySem.W.nsIn K ta (st [a, b]) = some (some u) ∧ RelV (.str ⟨#[third a b]⟩) u
theorem scAre : FnScope ["text", "letter"] ["text"] (defScope sAre) := ⟨rfl, rfl, rfl, by decide +kernel, rfl, by decide +kernel, by decide +kernel⟩
theorem scSigned : FnScope ["letters", "sign"] ["letters", "sign"] (defScope sSigned) := ⟨rfl, rfl, rfl, by decide +kernel, rfl, by decide +kernel, by decide +kernel⟩
theorem scQuarters : FnScope ["one", "other", "a", "b"] ["one", "other"] (defScope sQuarters) := ⟨rfl, rfl, rfl, by decide +kernel, rfl, by decide +kernel, by decide +kernel⟩
theorem scMade : FnScope ["one", "other", "a", "b"] ["one", "other"] (defScope sMade) := ⟨rfl, rfl, rfl, by decide +kernel, rfl, by decide +kernel, by decide +kernel⟩
theorem scLetter : FnScope ["one", "other"] ["one", "other"] (defScope sLetter) := ⟨rfl, rfl, rfl, by decide +kernel, rfl, by decide +kernel, by decide +kernel⟩
section
variable {P : Program} {w : World} {K : PySem.W.Frag} {mg : Str → Option Value} {base : Heap} {qa ta f : Addr} {fd : FuncData}
theorem ok_are (F : Fun K "are_letters" "are_letters" sAre f fd) (T : TW w K mg qa ta) : FnOk P w K mg base (L2.CX P w) 1 f fd ["text"] (spD K rAre) := by
  refine fn_D (k := 0) F scAre (fun ss μ r μ' h => by obtain ⟨L, _, rfl, _⟩ := h; rfl) ?_
  intro cdv A outer s H E N W ss μ r μ' g hA hR
  obtain ⟨L, hL, rfl, rfl, rfl⟩ := hR
  obtain ⟨u1, hu1, ru1⟩ := T.lets
  obtain ⟨u2, hu2, ru2⟩ := T.most
  have h4 := hL.four
  have h1 := hL.one
  refine ⟨_, dss_ret (de_of (de_and (de_chn de_int (de_callB (da_cons (de_var 0) da_nil) (c_lenS (by rw [st_len]; exact size4 (by omega))) T.len (by decide +kernel)) o_le (fun _ => de_glob hu2 ru2 (fun _ _ => .int 4)) (fun _ => o_le))
    (fun _ => de_one (de_callB (id := "all") (da_cons (de_lc g [("letter", 1)] (di_of (di_str (de_var 0)) (chars_st L)) (fun s H C cl fp => dg_name 1 g.nd)
      (of_maps (fy := fun c => .bl (decide (c ∈ IXYZ))) fun c hc => ⟨_, rfl, fun s H C cl fp N' hK g' => de_cmp (de_var 1) (de_glob hu1 ru1 (fun _ _ => .str _)) o_inS⟩) (ok := blkOk_by (by rfl)) (hds := by rw [List.length_map]; exact size4' (by omega))) da_nil) (c_allm g) T.all (by decide +kernel)))) ?_), .rt⟩
  rw [st_len, decide_eq_true (show (1 : Int) ≤ (L.length : Int) by omega), decide_eq_true (show (L.length : Int) ≤ 4 by omega), show (L.all fun c => decide (c ∈ IXYZ)) = true by simpa using hL.all]
  rfl
theorem sgn_neg {L : List Nat} {s : Int} (h : s < 0) : Str.ofString "-" ++ st L = sgn L s := by
  unfold sgn
  rw [if_pos h]
  exact st_app [45] L
theorem sgn_pos {L : List Nat} {s : Int} (h : ¬ s < 0) : st L = sgn L s := by
  unfold sgn
  rw [if_neg h]
theorem ok_signed (F : Fun K "signed_text" "signed_text" sSigned f fd) : FnOk P w K mg base (L2.CX P w) 1 f fd ["letters", "sign"] (spD K rSigned) := by
  refine fn_D (k := 0) F scSigned (fun ss μ r μ' h => by obtain ⟨L, s, _, rfl, _⟩ := h; rfl) ?_
  intro cdv A outer s H E N W ss μ r μ' g hA hR
  obtain ⟨L, i, hL, rfl, rfl, rfl⟩ := hR
  by_cases hi : i < 0
  · exact ⟨_, dss_ifT (dt_of (dt_cmp (de_var 1) de_int o_lt) (decide_eq_true hi)) (dss_ret (de_of (de_bin de_str (de_var 0) (o_addS (by rw [st_len]; show 1 + _ ≤ _; exact size4 (by omega)))) (congrArg D.str (sgn_neg hi)))) cr, .rt⟩
  · exact ⟨_, dss_skip (dt_of (dt_cmp (de_var 1) de_int o_lt) (decide_eq_false hi)) (dss_ret (de_of (de_var 0) (congrArg D.str (sgn_pos hi)))), .rt⟩
theorem zip_chars (A B : List Nat) : (chars (st A)).zipWith (fun a b => D.tup [a, b]) (chars (st B)) = (A.zip B).map fun p => .tup [.str ⟨#[p.1]⟩, .str ⟨#[p.2]⟩] := by
  rw [chars_st, chars_st, List.zipWith_map, List.zip, List.map_zipWith]
theorem zip_mem {A B : List Nat} {p : Nat × Nat} (h : p ∈ A.zip B) : p.1 ∈ A ∧ p.2 ∈ B := by
  obtain ⟨a, b⟩ := p
  exact List.of_mem_zip h
theorem two_st (a b : Nat) : (⟨#[a]⟩ : Str) ++ ⟨#[b]⟩ = st [a, b] := st_app [a] [b]
theorem ok_quarters (F : Fun K "quarters" "quarters" sQuarters f fd) (T : TW w K mg qa ta) : FnOk P w K mg base (L2.CX P w) 1 f fd ["one", "other"] (spD K rQuarters) := by
  refine fn_D (k := 0) F scQuarters (fun ss μ r μ' h => by obtain ⟨A, B, _, _, _, rfl, _⟩ := h; rfl) ?_
  intro cdv A0 outer s H E N W ss μ r μ' g hA hR
  obtain ⟨A, B, hLA, hLB, hl, rfl, rfl, rfl⟩ := hR
  obtain ⟨es, m, kq⟩ := T.kq
  have h4 := hLA.four
  refine ⟨_, dss_ret (de_of (de_callB (id := "sum") (da_cons (de_lc g [("a", 2), ("b", 3)] (di_of (di_zip g (da_cons (de_var 0) (da_cons (de_var 1) da_nil)) (.str _) (.str _) T.zip) (zip_chars A B))
    (fun s H C cl fp => dg_tup (dgs_cons (dg_name 2 g.nd) (dgs_cons (dg_name 3 g.nd) dgs_nil)) g.hK g.calm)
    (of_maps (fy := fun p => .int (qt p.1 p.2)) fun p hp => ⟨_, rfl, fun s H C cl fp N' hK g' => ?_⟩) (ok := blkOk_by (by rfl)) (hds := by rw [List.length_map, List.length_zip]; exact size4' (by omega))) da_nil) (c_summ g) T.sum (by decide +kernel)) ?_), .rt⟩
  · obtain ⟨hp1, hp2⟩ := zip_mem hp
    obtain ⟨u, h1, h2⟩ := T.dq p.1 p.2 (hLA.all _ hp1) (hLB.all _ hp2)
    cases u <;> exact de_kdGet kq (de_glob (v := .ref qa) T.mq rfl (fun _ _ => .adr _)) (de_of (de_bin (de_var 2) (de_var 3) (o_addS (by show 1 + 1 ≤ _; exact size4 (by omega)))) (congrArg D.str (two_st _ _))) de_int h1 h2 ⟨rfl, rfl, rfl, rfl⟩
  · rw [List.zip, List.map_zipWith]
    rfl
theorem ch_eq (a b : Nat) : decide ((⟨#[a]⟩ : Str) = ⟨#[b]⟩) = decide (a = b) := by simp
theorem ok_letter (F : Fun K "_made_letter" "_made_letter" sLetter f fd) (T : TW w K mg qa ta) : FnOk P w K mg base (L2.CX P w) 1 f fd ["one", "other"] (spD K rLetter) := by
  refine fn_D (k := 0) F scLetter (fun ss μ r μ' h => by obtain ⟨A, B, _, _, rfl, _⟩ := h; rfl) ?_
  intro cdv A0 outer s H E N W ss μ r μ' g hA hR
  obtain ⟨a, b, ha, hb, rfl, rfl, rfl⟩ := hR
  obtain ⟨es, m, kt⟩ := T.kt
  by_cases h1 : a = b
  · exact ⟨_, dss_ifT (dt_of (dt_cmp (de_var 0) (de_var 1) o_eqS) ((ch_eq a b).trans (decide_eq_true h1))) (dss_ret (de_of de_str (congrArg D.str (by rw [third, if_pos h1] <;> rfl)))) cr, .rt⟩
  by_cases h2 : a = 73
  · exact ⟨_, dss_skip (dt_of (dt_cmp (de_var 0) (de_var 1) o_eqS) ((ch_eq a b).trans (decide_eq_false h1))) (dss_ifT (dt_of (dt_cmp (de_var 0) de_str o_eqS) ((ch_eq a 73).trans (decide_eq_true h2))) (dss_ret (de_of (de_var 1) (congrArg D.str (by rw [third, if_neg h1, if_pos h2] <;> rfl)))) cr), .rt⟩
  by_cases h3 : b = 73
  · exact ⟨_, dss_skip (dt_of (dt_cmp (de_var 0) (de_var 1) o_eqS) ((ch_eq a b).trans (decide_eq_false h1))) (dss_skip (dt_of (dt_cmp (de_var 0) de_str o_eqS) ((ch_eq a 73).trans (decide_eq_false h2)))
      (dss_ifT (dt_of (dt_cmp (de_var 1) de_str o_eqS) ((ch_eq b 73).trans (decide_eq_true h3))) (dss_ret (de_of (de_var 0) (congrArg D.str (by rw [third, if_neg h1, if_neg h2, if_pos h3] <;> rfl)))) cr)), .rt⟩
  obtain ⟨u, h4, h5⟩ := T.dt a b ha hb h1 h2 h3
  exact ⟨_, dss_skip (dt_of (dt_cmp (de_var 0) (de_var 1) o_eqS) ((ch_eq a b).trans (decide_eq_false h1))) (dss_skip (dt_of (dt_cmp (de_var 0) de_str o_eqS) ((ch_eq a 73).trans (decide_eq_false h2)))
      (dss_skip (dt_of (dt_cmp (de_var 1) de_str o_eqS) ((ch_eq b 73).trans (decide_eq_false h3))) (dss_ret (de_kdIx kt (de_glob (v := .ref ta) T.mt rfl (fun _ _ => .adr _)) (de_of (de_bin (de_var 0) (de_var 1) (o_addS (by show 1 + 1 ≤ _; exact size4 (by omega)))) (congrArg D.str (two_st _ _))) h4 h5 (fun _ _ => .str _))))), .rt⟩
theorem ok_made (F : Fun K "made_letters" "made_letters" sMade f fd) (T : TW w K mg qa ta) (cl : Cf P w K mg base 1 "_made_letter" [] rLetter) : FnOk P w K mg base (L2.CX P w) 2 f fd ["one", "other"] (spD K rMade) := by
  refine fn_D (k := 1) F scMade (fun ss μ r μ' h => by obtain ⟨A, B, _, _, _, rfl, _⟩ := h; rfl) ?_
  intro cdv A0 outer s H E N W ss μ r μ' g hA hR
  obtain ⟨A, B, hLA, hLB, hl, rfl, rfl, rfl⟩ := hR
  have h4 := hLA.four
  refine ⟨_, dss_ret (de_of (de_bm PySem.F.plainAttrs_str PySem.F.slot_str_join PySem.F.type_str_join de_str (da_cons (de_lc g [("a", 2), ("b", 3)] (di_of (di_zip g (da_cons (de_var 0) (da_cons (de_var 1) da_nil)) (.str _) (.str _) T.zip) (zip_chars A B))
    (fun s H C cl fp => dg_tup (dgs_cons (dg_name 2 g.nd) (dgs_cons (dg_name 3 g.nd) dgs_nil)) g.hK g.calm)
    (of_maps (fy := fun p => .str ⟨#[third p.1 p.2]⟩) fun p hp => ⟨_, rfl, fun s H C cl' fp N' hK g' => ?_⟩) (ok := blkOk_by (by rfl)) (hds := by rw [List.length_map, List.length_zip]; exact size4' (by omega))) da_nil) (m_joinm (by rw [List.length_zip]; omega))) ?_), .rt⟩
  · obtain ⟨hp1, hp2⟩ := zip_mem hp
    exact de_call g' cl (da_cons (de_var 2) (da_cons (de_var 3) da_nil)) ⟨p.1, p.2, hLA.all _ hp1, hLB.all _ hp2, rfl, rfl, rfl⟩
  · rw [List.zip, List.map_zipWith]
    rfl
end
end K79
set_option Elab.async false
set_option linter.all false
set_option maxRecDepth 100000
set_option maxHeartbeats 4000000
set_option autoImplicit false
namespace K79
open PySem PySem.Spec PyProof.Rows L2 Dl Cq
structure TC (K : PySem.W.Frag) (mg : Str → Option Value) (C : Addr) : Prop where
  ci : ClsI K C
  nL : NoAttr K C "letters"
  nS : NoAttr K C "sign"
  at_ : mg "Word" = some (.ref C)
  sf : PySem.W.selfFirst K C = true
  nf : PySem.W.notFirst K C (.ref C) = true
  ne : NeOk K C
def pm (s : Int) : Prop := s = 1 ∨ s = -1
def wF : List Str := ["letters", "sign"]
def rInit (C : Addr) : Rel := fun ss μ r μ' => ∃ (j : Nat) (L : List Nat) (s : Int), okL L ∧ pm s ∧ ss = [.l j, .p (.str (sgn L s))] ∧ μ[j]? = some (.obj C [] []) ∧ r = .v (.p .non) ∧ μ' = μ.set j (.obj C wF [.str (st L), .int s])
def rLen (C : Addr) : Rel := fun ss μ r μ' => ∃ (L : List Nat) (s : Int), okL L ∧ ss = [.p (wd C L s)] ∧ r = .v (.p (.int L.length)) ∧ μ' = μ
def rEq (C : Addr) : Rel := fun ss μ r μ' => ∃ (L M : List Nat) (s t : Int), ss = [.p (wd C L s), .p (wd C M t)] ∧ r = .v (.p (.bl (decide (L = M) && decide (s = t)))) ∧ μ' = μ
def rNeg (C : Addr) : Rel := fun ss μ r μ' => ∃ (L : List Nat) (s : Int), okL L ∧ pm s ∧ ss = [.p (wd C L s)] ∧ r = .v (.p (wd C L (-s))) ∧ μ' = μ
def rMul (C : Addr) : Rel := fun ss μ r μ' => ∃ (A B : List Nat) (s t : Int), okL A ∧ okL B ∧ A.length = B.length ∧ pm s ∧ pm t ∧ qs A B % 2 = 0 ∧ ss = [.p (wd C A s), .p (wd C B t)] ∧ r = .v (.p (wd C (mk A B) (bes s t (qs A B)))) ∧ μ' = μ
def rBent (C : Addr) : Rel := fun ss μ r μ' => ∃ (A B : List Nat) (s t : Int), okL A ∧ okL B ∧ A.length = B.length ∧ pm s ∧ pm t ∧ qs A B % 2 ≠ 0 ∧ ss = [.p (wd C A s), .p (wd C B t)] ∧ r = .v (.p (wd C (mk A B) (bes s t (qs A B + 1)))) ∧ μ' = μ
def rPasses (C : Addr) : Rel := fun ss μ r μ' => ∃ (A B : List Nat) (s t : Int), okL A ∧ okL B ∧ A.length = B.length ∧ ss = [.p (wd C A s), .p (wd C B t)] ∧ r = .v (.p (.bl (decide (qs A B % 2 = 0)))) ∧ μ' = μ
def rBeside (C : Addr) : Rel := fun ss μ r μ' => ∃ (A B : List Nat) (s t q : Int), okL A ∧ okL B ∧ A.length = B.length ∧ pm s ∧ pm t ∧ ss = [.p (wd C A s), .p (wd C B t), .p (.int q)] ∧ r = .v (.p (wd C (mk A B) (bes s t q))) ∧ μ' = μ
theorem scInit : FnScope ["self", "text", "letters"] ["self", "text"] (defScope sInit) := ⟨rfl, rfl, rfl, by decide +kernel, rfl, by decide +kernel, by decide +kernel⟩
theorem scLen : FnScope ["self"] ["self"] (defScope sLen) := ⟨rfl, rfl, rfl, by decide +kernel, rfl, by decide +kernel, by decide +kernel⟩
theorem scEq : FnScope ["self", "other"] ["self", "other"] (defScope sEq) := ⟨rfl, rfl, rfl, by decide +kernel, rfl, by decide +kernel, by decide +kernel⟩
theorem scNeg : FnScope ["self"] ["self"] (defScope sNeg) := ⟨rfl, rfl, rfl, by decide +kernel, rfl, by decide +kernel, by decide +kernel⟩
theorem scMul : FnScope ["self", "other", "turned"] ["self", "other"] (defScope sMul) := ⟨rfl, rfl, rfl, by decide +kernel, rfl, by decide +kernel, by decide +kernel⟩
theorem scBent : FnScope ["self", "other"] ["self", "other"] (defScope sBent) := ⟨rfl, rfl, rfl, by decide +kernel, rfl, by decide +kernel, by decide +kernel⟩
theorem scPasses : FnScope ["self", "other"] ["self", "other"] (defScope sPasses) := ⟨rfl, rfl, rfl, by decide +kernel, rfl, by decide +kernel, by decide +kernel⟩
theorem scBeside : FnScope ["self", "other", "turned", "sign"] ["self", "other", "turned"] (defScope sBeside) := ⟨rfl, rfl, rfl, by decide +kernel, rfl, by decide +kernel, by decide +kernel⟩
theorem kit_same {K : PySem.W.Frag} {t : Value} : PySem.W.kitOne K t t = some true := by
  unfold PySem.W.kitOne
  rw [if_pos (by simp)]
theorem sgn_prefix {L : List Nat} {s : Int} (h : okL L) : Txt.removeprefix (sgn L s) (Str.ofString "-") = st L := by
  obtain ⟨h1, h4, ha⟩ := h
  unfold sgn
  split
  · match L, h1, h4 with
    | [a], _, _ => rfl
    | [a, b], _, _ => rfl
    | [a, b, c], _, _ => rfl
    | [a, b, c, d], _, _ => rfl
  · match L, h1, h4, ha with
    | a :: l, _, h4, ha =>
      have hm := ha a (by simp)
      clear ha
      simp only [IXYZ, List.mem_cons, List.not_mem_nil, or_false] at hm
      rcases hm with rfl | rfl | rfl | rfl <;> (match l, h4 with
        | [], _ => rfl
        | [b], _ => rfl
        | [b, c], _ => rfl
        | [b, c, d], _ => rfl)
theorem sgn_starts {L : List Nat} {s : Int} (h : okL L) : Txt.startswith (sgn L s) (Str.ofString "-") = decide (s < 0) := by
  obtain ⟨h1, h4, ha⟩ := h
  unfold sgn
  split
  · rename_i hs
    rw [decide_eq_true hs]
    match L, h1, h4 with
    | [a], _, _ => rfl
    | [a, b], _, _ => rfl
    | [a, b, c], _, _ => rfl
    | [a, b, c, d], _, _ => rfl
  · rename_i hs
    rw [decide_eq_false hs]
    match L, h1, h4, ha with
    | a :: l, _, h4, ha =>
      have hm := ha a (by simp)
      clear ha
      simp only [IXYZ, List.mem_cons, List.not_mem_nil, or_false] at hm
      rcases hm with rfl | rfl | rfl | rfl <;> (match l, h4 with
        | [], _ => rfl
        | [b], _ => rfl
        | [b, c], _ => rfl
        | [b, c, d], _ => rfl)
section
variable {P : Program} {w : World} {K : PySem.W.Frag} {mg : Str → Option Value} {base : Heap} {qa ta f C : Addr} {fd : FuncData}
theorem ok_init (F : Fun K "__init__" "Word.__init__" sInit f fd) (T : TW w K mg qa ta) (T2 : TC K mg C) (ca : Cf P w K mg base 1 "are_letters" [] rAre) : FnOk P w K mg base (L2.CX P w) 2 f fd ["self", "text"] (spD K (rInit C)) := by
  refine fn_D (k := 1) F scInit (fun ss μ r μ' h => by obtain ⟨j, L, s, _, _, rfl, _⟩ := h; rfl) ?_
  intro cdv A0 outer s0 H E N W ss μ r μ' g hA hR
  obtain ⟨j, L, s, hL, hs, rfl, hj, rfl, rfl⟩ := hR
  have h4 := hL.four
  have hlen : (sgn L s).length ≤ sizeLine := by
    unfold sgn
    rw [st_len]
    split
    · exact size4 (by rw [List.length_cons]; omega)
    · exact size4 (by omega)
  refine ⟨_, dss_skip (dt_not (dt_val (de_callB (id := "isinstance") (da_cons (de_var 1) (da_cons (de_ty T.str (by decide +kernel)) da_nil)) (c_isi g (.str _) (.ty _) kit_same) T.isi (by decide +kernel))))
    (dss_cons (ds_set 2 (de_of (de_bm PySem.F.plainAttrs_str PySem.F.slot_str_removeprefix PySem.F.type_str_removeprefix (de_var 1) (da_cons de_str da_nil) (m_removeprefix hlen)) (congrArg D.str (sgn_prefix hL))) g.nd) (cn
    (dss_skip (dt_not (dt_val (de_call g ca (da_cons (de_var 2) da_nil) ⟨L, hL, rfl, rfl, rfl⟩)))
    (dss_cons (ds_fldNew (de_var 2) (de_var 0) T2.ci.cl T2.nL hj) (cn
    (dss_cons (ds_fldNew (de_if (r := .v (.p (.int s))) (k := decide (s < 0)) (dt_of (dt_val (de_bm PySem.F.plainAttrs_str PySem.F.slot_str_startswith PySem.F.type_str_startswith (de_var 1) (da_cons de_str da_nil) m_startswith)) (sgn_starts hL)) (fun h => de_of (de_un de_int u_neg) (congrArg D.int ?_)) (fun h => de_of de_int (congrArg D.int ?_))) (de_var 0) T2.ci.cl T2.nS (List.getElem?_set_self (List.getElem?_eq_some_iff.mp hj).1)) (cn dss_nil))))))), ?_⟩
  · rcases hs with rfl | rfl
    · simp at h
    · rfl
  · rcases hs with rfl | rfl
    · rfl
    · simp at h
  · rw [List.set_set]
    exact .nx
theorem ok_len (F : Fun K "__len__" "Word.__len__" sLen f fd) (T : TW w K mg qa ta) (T2 : TC K mg C) : FnOk P w K mg base (L2.CX P w) 1 f fd ["self"] (spD K (rLen C)) := by
  refine fn_D (k := 0) F scLen (fun ss μ r μ' h => by obtain ⟨L, s, _, rfl, _⟩ := h; rfl) ?_
  intro cdv A0 outer s0 H E N W ss μ r μ' g hA hR
  obtain ⟨L, s, hL, rfl, rfl, rfl⟩ := hR
  have h4 := hL.four
  exact ⟨_, dss_ret (de_of (de_callB (id := "len") (da_cons (de_fld (de_var 0) g T2.ci.cl T2.nL) da_nil) (c_lenS (by rw [st_len]; exact size4 (by omega))) T.len (by decide +kernel)) (by rw [st_len])), .rt⟩
theorem ok_eq (F : Fun K "__eq__" "Word.__eq__" sEq f fd) (T : TW w K mg qa ta) (T2 : TC K mg C) : FnOk P w K mg base (L2.CX P w) 1 f fd ["self", "other"] (spD K (rEq C)) := by
  refine fn_D (k := 0) F scEq (fun ss μ r μ' h => by obtain ⟨L, M, s, t, rfl, _⟩ := h; rfl) ?_
  intro cdv A0 outer s0 H E N W ss μ r μ' g hA hR
  obtain ⟨L, M, s, t, rfl, rfl, rfl⟩ := hR
  refine ⟨_, dss_ret (de_of (de_and (de_callB (id := "isinstance") (da_cons (de_var 1) (da_cons (de_glob (v := .ref C) T2.at_ rfl (fun _ _ => .adr _)) da_nil)) (c_isi g (.ins _ _ _ T2.ci) (.adr C) kit_same) T.isi (by decide +kernel))
    (fun _ => de_and (de_cmp (de_fld (de_var 0) g T2.ci.cl T2.nL) (de_fld (de_var 1) g T2.ci.cl T2.nL) o_eqS) (fun _ => de_one (de_cmp (de_fld (de_var 0) g T2.ci.cl T2.nS) (de_fld (de_var 1) g T2.ci.cl T2.nS) o_eqI)))) ?_), .rt⟩
  rw [Bool.true_and]
  simp only [st_inj]
end
section
variable {X : Cx} {N : En} {W : WX} {n : Nat} {δ : List (Option S)} {μ μ1 μ2 : List M} {e o a b : Expr} {p pos apos : Pos} {C : Addr} {L A B : List Nat} {s t : Int}
theorem de_word (g : Go X N W n) (ci : Ci X.prog X.w X.K X.mg X.base 2 C "Word" [] (rInit C)) (hL : okL L) (hs : pm s) (h : DE X N W δ μ e (.v (.p (.str (sgn L s)))) μ1) (hk : 2 + 1 ≤ n := by decide) (hg : Gl X "Word" := by rfl)
    (he : starEach [e] X.env = (false, eval e X.env) :: starEach [] X.env := by rfl) (hpl : (backTo pos (starEach [] X.env)).any (·.1) = false := by rfl) : DE X N W δ μ (.Call (.Name "Word" p) [e] [] pos) (.v (.p (wd C L s))) μ1 := by
  refine de_make g ci (da_cons h da_nil he) (μ0 := (μ1 ++ [M.obj C [] []]).set μ1.length (M.obj C wF [.str (st L), .int s])) ⟨μ1.length, L, s, hL, hs, rfl, by simp, rfl, rfl⟩ (List.getElem?_set_self (by simp)) ?_ hk hg (by decide) he hpl
  rw [List.set_append_right _ _ (Nat.le_refl _)]
  simp
end
section
variable {P : Program} {w : World} {K : PySem.W.Frag} {mg : Str → Option Value} {base : Heap} {qa ta f C : Addr} {fd : FuncData}
theorem pm_neg {s : Int} (h : pm s) : pm (-s) := by
  rcases h with rfl | rfl
  · exact .inr rfl
  · exact .inl rfl
theorem ok_neg (F : Fun K "__neg__" "Word.__neg__" sNeg f fd) (T2 : TC K mg C) (cs : Cf P w K mg base 1 "signed_text" [] rSigned) (ci : Ci P w K mg base 2 C "Word" [] (rInit C)) : FnOk P w K mg base (L2.CX P w) 4 f fd ["self"] (spD K (rNeg C)) := by
  refine fn_D (k := 3) F scNeg (fun ss μ r μ' h => by obtain ⟨L, s, _, _, rfl, _⟩ := h; rfl) ?_
  intro cdv A0 outer s0 H E N W ss μ r μ' g hA hR
  obtain ⟨L, s, hL, hs, rfl, rfl, rfl⟩ := hR
  exact ⟨_, dss_ret (de_word g ci hL (pm_neg hs) (de_call g cs (da_cons (de_fld (de_var 0) g T2.ci.cl T2.nL) (da_cons (de_un (de_fld (de_var 0) g T2.ci.cl T2.nS) u_neg) da_nil)) ⟨L, -s, hL.four, rfl, rfl, rfl⟩)), .rt⟩
theorem pm_small {s : Int} (h : pm s) : -(2 ^ 64) < s ∧ s < 2 ^ 64 := by
  rcases h with rfl | rfl <;> decide
theorem ok_beside (F : Fun K "_beside" "Word._beside" sBeside f fd) (T2 : TC K mg C) (cs : Cf P w K mg base 1 "signed_text" [] rSigned) (cm : Cf P w K mg base 2 "made_letters" [] rMade) (ci : Ci P w K mg base 2 C "Word" [] (rInit C)) : FnOk P w K mg base (L2.CX P w) 4 f fd ["self", "other", "turned"] (spD K (rBeside C)) := by
  refine fn_D (k := 3) F scBeside (fun ss μ r μ' h => by obtain ⟨A, B, s, t, q, _, _, _, _, _, rfl, _⟩ := h; rfl) ?_
  intro cdv A0 outer s0 H E N W ss μ r μ' g hA hR
  obtain ⟨A, B, s, t, q, hLA, hLB, hl, hs, ht, rfl, rfl, rfl⟩ := hR
  have hm := mk_ok hLA hLB hl
  by_cases hq : q % 4 = 0
  · have e : bes s t q = s * t := if_neg (fun z => z hq)
    rw [e]
    exact ⟨_, dss_cons (ds_set 3 (de_bin (de_fld (de_var 0) g T2.ci.cl T2.nS) (de_fld (de_var 1) g T2.ci.cl T2.nS) (o_mul (.inl (pm_small hs)))) g.nd) (cn
      (dss_skip (dt_of (dt_cmp (de_bin (de_var 2) de_int (o_mod (by decide))) de_int o_neI) (by rw [decide_eq_true hq] <;> rfl))
      (dss_ret (de_word g ci hm (e ▸ bes_pm hs ht) (de_call g cs (da_cons (de_call g cm (da_cons (de_fld (de_var 0) g T2.ci.cl T2.nL) (da_cons (de_fld (de_var 1) g T2.ci.cl T2.nL) da_nil)) ⟨A, B, hLA, hLB, hl, rfl, rfl, rfl⟩) (da_cons (de_var 3) da_nil)) ⟨_, _, hm.four, rfl, rfl, rfl⟩))))), .rt⟩
  · have e : bes s t q = -(s * t) := if_pos hq
    rw [e]
    exact ⟨_, dss_cons (ds_set 3 (de_bin (de_fld (de_var 0) g T2.ci.cl T2.nS) (de_fld (de_var 1) g T2.ci.cl T2.nS) (o_mul (.inl (pm_small hs)))) g.nd) (cn
      (dss_ifT (dt_of (dt_cmp (de_bin (de_var 2) de_int (o_mod (by decide))) de_int o_neI) (by rw [decide_eq_false hq] <;> rfl)) (dss_cons (ds_set 3 (de_un (de_var 3) u_neg) g.nd) (cn dss_nil)) (cn
      (dss_ret (de_word g ci hm (e ▸ bes_pm hs ht) (de_call g cs (da_cons (de_call g cm (da_cons (de_fld (de_var 0) g T2.ci.cl T2.nL) (da_cons (de_fld (de_var 1) g T2.ci.cl T2.nL) da_nil)) ⟨A, B, hLA, hLB, hl, rfl, rfl, rfl⟩) (da_cons (de_var 3) da_nil)) ⟨_, _, hm.four, rfl, rfl, rfl⟩)))))), .rt⟩
theorem len_ne {A B : List Nat} (hl : A.length = B.length) : (!decide (((st B).length : Int) = ((st A).length : Int))) = false := by
  rw [st_len, st_len, hl]
  simp
theorem scNeed : FnScope ["value", "wires"] ["value", "wires"] (defScope sNeed) := ⟨rfl, rfl, rfl, by decide +kernel, rfl, by decide +kernel, by decide +kernel⟩
def rNeed (C : Addr) : Rel := fun ss μ r μ' => ∃ (B : List Nat) (t : Int), okL B ∧ ss = [.p (wd C B t), .p (.int (B.length : Int))] ∧ r = .v (.p .non) ∧ μ' = μ
theorem ok_need (F : Fun K "need_word" "need_word" sNeed f fd) (T : TW w K mg qa ta) (T2 : TC K mg C) : FnOk P w K mg base (L2.CX P w) 1 f fd ["value", "wires"] (spD K (rNeed C)) := by
  refine fn_D (k := 0) F scNeed (fun ss μ r μ' h => by obtain ⟨B, t, _, rfl, _⟩ := h; rfl) ?_
  intro cdv A0 outer s0 H E N W ss μ r μ' g hA hR
  obtain ⟨B, t, hLB, rfl, rfl, rfl⟩ := hR
  have h5 := hLB.four
  exact ⟨_, dss_skip (dt_not (dt_val (de_callB (id := "isinstance") (da_cons (de_var 0) (da_cons (de_glob (v := .ref C) T2.at_ rfl (fun _ _ => .adr _)) da_nil)) (c_isi g (.ins _ _ _ T2.ci) (.adr C) kit_same) T.isi (by decide +kernel)))) (dss_skip (dt_of (dt_cmp (de_callB (id := "len") (da_cons (de_fld (de_var 0) g T2.ci.cl T2.nL) da_nil) (c_lenS (by rw [st_len]; exact size4 (by omega))) T.len (by decide +kernel)) (de_var 1) o_neI) (by rw [st_len]; simp)) dss_nil), .nx⟩
theorem ok_passes (F : Fun K "passes" "Word.passes" sPasses f fd) (T : TW w K mg qa ta) (T2 : TC K mg C) (cn_ : Cf P w K mg base 1 "need_word" [] (rNeed C)) (cq : Cf P w K mg base 1 "quarters" [] rQuarters) : FnOk P w K mg base (L2.CX P w) 2 f fd ["self", "other"] (spD K (rPasses C)) := by
  refine fn_D (k := 1) F scPasses (fun ss μ r μ' h => by obtain ⟨A, B, s, t, _, _, _, rfl, _⟩ := h; rfl) ?_
  intro cdv A0 outer s0 H E N W ss μ r μ' g hA hR
  obtain ⟨A, B, s, t, hLA, hLB, hl, rfl, rfl, rfl⟩ := hR
  have h4 := hLA.four
  have h5 := hLB.four
  exact ⟨_, dss_cons (ds_expr (de_call g cn_ (da_cons (de_var 1) (da_cons (de_of (d' := .int (B.length : Int)) (de_callB (id := "len") (da_cons (de_fld (de_var 0) g T2.ci.cl T2.nL) da_nil) (c_lenS (by rw [st_len]; exact size4 (by omega))) T.len (by decide +kernel)) (by rw [st_len, hl])) da_nil)) ⟨B, t, hLB, rfl, rfl, rfl⟩)) (cn
    (dss_ret (de_cmp (de_bin (de_call g cq (da_cons (de_fld (de_var 0) g T2.ci.cl T2.nL) (da_cons (de_fld (de_var 1) g T2.ci.cl T2.nL) da_nil)) ⟨A, B, hLA, hLB, hl, rfl, rfl, rfl⟩) de_int (o_mod (by decide))) de_int o_eqI))), .rt⟩
theorem ok_mul (F : Fun K "__mul__" "Word.__mul__" sMul f fd) (T : TW w K mg qa ta) (T2 : TC K mg C) (cq : Cf P w K mg base 1 "quarters" [] rQuarters) (cb : Cm P w K mg base 4 C "_beside" [] (rBeside C)) : FnOk P w K mg base (L2.CX P w) 5 f fd ["self", "other"] (spD K (rMul C)) := by
  refine fn_D (k := 4) F scMul (fun ss μ r μ' h => by obtain ⟨A, B, s, t, _, _, _, _, _, _, rfl, _⟩ := h; rfl) ?_
  intro cdv A0 outer s0 H E N W ss μ r μ' g hA hR
  obtain ⟨A, B, s, t, hLA, hLB, hl, hs, ht, hq, rfl, rfl, rfl⟩ := hR
  have h4 := hLA.four
  have h5 := hLB.four
  exact ⟨_, dss_skip (dt_not (dt_val (de_callB (id := "isinstance") (da_cons (de_var 1) (da_cons (de_glob (v := .ref C) T2.at_ rfl (fun _ _ => .adr _)) da_nil)) (c_isi g (.ins _ _ _ T2.ci) (.adr C) kit_same) T.isi (by decide +kernel))))
    (dss_skip (dt_of (dt_cmp (de_callB (id := "len") (da_cons (de_fld (de_var 1) g T2.ci.cl T2.nL) da_nil) (c_lenS (by rw [st_len]; exact size4 (by omega))) T.len (by decide +kernel)) (de_callB (id := "len") (da_cons (de_fld (de_var 0) g T2.ci.cl T2.nL) da_nil) (c_lenS (by rw [st_len]; exact size4 (by omega))) T.len (by decide +kernel)) o_neI) (len_ne hl))
    (dss_cons (ds_set 2 (de_call g cq (da_cons (de_fld (de_var 0) g T2.ci.cl T2.nL) (da_cons (de_fld (de_var 1) g T2.ci.cl T2.nL) da_nil)) ⟨A, B, hLA, hLB, hl, rfl, rfl, rfl⟩) g.nd) (cn
    (dss_skip (dt_of (dt_cmp (de_bin (de_var 2) de_int (o_mod (by decide))) de_int o_neI) (by rw [decide_eq_true hq] <;> rfl))
    (dss_ret (de_meth g cb (de_var 0) (da_cons (de_var 1) (da_cons (de_var 2) da_nil)) ⟨A, B, s, t, _, hLA, hLB, hl, hs, ht, rfl, rfl, rfl⟩)))))), .rt⟩
theorem ok_bent (F : Fun K "bent" "Word.bent" sBent f fd) (T2 : TC K mg C) (cq : Cf P w K mg base 1 "quarters" [] rQuarters) (cp : Cm P w K mg base 2 C "passes" [] (rPasses C)) (cb : Cm P w K mg base 4 C "_beside" [] (rBeside C)) : FnOk P w K mg base (L2.CX P w) 5 f fd ["self", "other"] (spD K (rBent C)) := by
  refine fn_D (k := 4) F scBent (fun ss μ r μ' h => by obtain ⟨A, B, s, t, _, _, _, _, _, _, rfl, _⟩ := h; rfl) ?_
  intro cdv A0 outer s0 H E N W ss μ r μ' g hA hR
  obtain ⟨A, B, s, t, hLA, hLB, hl, hs, ht, hq, rfl, rfl, rfl⟩ := hR
  exact ⟨_, dss_skip (dt_of (dt_val (de_meth g cp (de_var 0) (da_cons (de_var 1) da_nil) ⟨A, B, s, t, hLA, hLB, hl, rfl, rfl, rfl⟩)) (decide_eq_false hq))
    (dss_ret (de_meth g cb (de_var 0) (da_cons (de_var 1) (da_cons (de_bin (de_call g cq (da_cons (de_fld (de_var 0) g T2.ci.cl T2.nL) (da_cons (de_fld (de_var 1) g T2.ci.cl T2.nL) da_nil)) ⟨A, B, hLA, hLB, hl, rfl, rfl, rfl⟩) de_int o_add) da_nil)) ⟨A, B, s, t, _, hLA, hLB, hl, hs, ht, rfl, rfl, rfl⟩)), .rt⟩
end
end K79
set_option Elab.async false
set_option linter.all false
set_option maxRecDepth 100000
set_option maxHeartbeats 4000000
set_option autoImplicit false
namespace K79
open PySem PySem.Spec PyProof.Rows L2 Dl Cq
theorem scPot : FnScope ["script", "place", "cell", "own", "small"] ["script", "place"] (defScope sPot) := ⟨rfl, rfl, rfl, by decide +kernel, rfl, by decide +kernel, by decide +kernel⟩
theorem scTake : FnScope ["pot", "upto", "digit", "prime", "blend"] ["pot", "upto"] (defScope sTake) := ⟨rfl, rfl, rfl, by decide +kernel, rfl, by decide +kernel, by decide +kernel⟩
theorem scOf : FnScope ["pot", "some"] ["pot", "some"] (defScope sOf) := ⟨rfl, rfl, rfl, by decide +kernel, rfl, by decide +kernel, by decide +kernel⟩
theorem scCells : FnScope ["script", "most"] ["script", "most"] (defScope sCells) := ⟨rfl, rfl, rfl, by decide +kernel, rfl, by decide +kernel, by decide +kernel⟩
/-! ### the pot of digits -/
structure Pot where
  a : Int
  b : Int
  c : Int
def Pot.m (p : Pot) : M := .lst [.int p.a, .int p.b, .int p.c]
structure Pot.ok (n : Nat) (p : Pot) : Prop where
  b0 : 0 ≤ p.b
  b1 : p.b < 2 ^ 62
  c0 : 0 ≤ p.c
  c1 : p.c ≤ n
def absF (c : Int) : Int := if c < 0 then -c else c
def cellF (ns : List Int) (i : Nat) : Int := if i < ns.length then ns.getD i 0 else 120 * (i : Int) + 276
def potF (ns : List Int) (i : Nat) : Pot :=
  ⟨absF (cellF ns i) % ((10 ^ 60) ^ 5) * (if decide ((10 : Int) ^ 18 ≤ absF (cellF ns i)) then 1 else 0), (cellF ns i % 2305843009213693951 * 82483 + 9055 * (i : Int) * (i : Int) + 1049) % 2305843009213693921, 0⟩
theorem potF_ok (ns : List Int) (i : Nat) : (potF ns i).ok 0 :=
  ⟨Int.emod_nonneg _ (by decide), Int.lt_trans (Int.emod_lt_of_pos _ (by decide)) (by decide), Int.le_refl _, Int.le_refl _⟩
def primeF (c : Int) : Int := ([2147483647, 2147483629, 2147483587, 2147483579, 2147483563] : List Int).getD (c % 5).toNat 0
def blendF (b c : Int) : Int := (b + 93645 * c * c + 831) ^ 3 % primeF c
def takeF (p : Pot) (u : Int) : Int × Pot :=
  if 0 < p.a then (p.a % u, ⟨p.a / u, p.b, p.c⟩) else (blendF p.b (p.c + 1) * (blendF p.b (p.c + 1) % 10323 + 261 * (p.c + 1)) / 149 % u, ⟨p.a, p.b, p.c + 1⟩)
theorem takeF_ok {n : Nat} {p : Pot} {u : Int} (h : p.ok n) : (takeF p u).2.ok (n + 1) := by
  obtain ⟨h1, h2, h3, h4⟩ := h
  unfold takeF
  split
  · exact ⟨h1, h2, h3, by show p.c ≤ _; omega⟩
  · exact ⟨h1, h2, by show 0 ≤ p.c + 1; omega, by show p.c + 1 ≤ _; omega⟩
theorem takeF_lt {p : Pot} {u : Int} (h : 0 < u) : 0 ≤ (takeF p u).1 ∧ (takeF p u).1 < u := by
  unfold takeF
  split
  · exact ⟨Int.emod_nonneg _ (by omega), Int.emod_lt_of_pos _ h⟩
  · exact ⟨Int.emod_nonneg _ (by omega), Int.emod_lt_of_pos _ h⟩
theorem prime_in (c : Int) : ∃ k : Nat, c % 5 = (k : Int) ∧ k < 5 := by
  have h1 := Int.emod_nonneg c (show (5 : Int) ≠ 0 by decide)
  have h2 := Int.emod_lt_of_pos c (show (0 : Int) < 5 by decide)
  exact ⟨(c % 5).toNat, by omega, by omega⟩
theorem prime_at (c : Int) : atI [D.int 2147483647, .int 2147483629, .int 2147483587, .int 2147483579, .int 2147483563] (c % 5) = some (.int (primeF c)) := by
  obtain ⟨k, h1, h2⟩ := prime_in c
  unfold primeF
  rw [h1]
  match k, h2 with
  | 0, _ => rfl
  | 1, _ => rfl
  | 2, _ => rfl
  | 3, _ => rfl
  | 4, _ => rfl
theorem prime_pos (c : Int) : 0 < primeF c ∧ primeF c < 2 ^ 31 := by
  obtain ⟨k, h1, h2⟩ := prime_in c
  unfold primeF
  rw [h1]
  match k, h2 with
  | 0, _ => decide
  | 1, _ => decide
  | 2, _ => decide
  | 3, _ => decide
  | 4, _ => decide
theorem blend_pos (b c : Int) : 0 ≤ blendF b c ∧ blendF b c < 2 ^ 31 := by
  have h := prime_pos c
  exact ⟨Int.emod_nonneg _ (by omega), Int.lt_trans (Int.emod_lt_of_pos _ h.1) h.2⟩
def rPot : Rel := fun ss μ r μ' => ∃ (ns : List Int) (i : Nat), i ≤ 100 ∧ ss = [.p (.sc ns), .p (.int (i : Int))] ∧ r = .v (.l μ.length) ∧ μ' = μ ++ [(potF ns i).m]
def rTake : Rel := fun ss μ r μ' => ∃ (j : Nat) (p : Pot) (u : Int), p.ok 9000 ∧ 0 < u ∧ u < 1000 ∧ ss = [.l j, .p (.int u)] ∧ μ[j]? = some p.m ∧ r = .v (.p (.int (takeF p u).1)) ∧ μ' = μ.set j (takeF p u).2.m
section
variable {P : Program} {w : World} {K : PySem.W.Frag} {mg : Str → Option Value} {base : Heap} {f C : Addr} {fd : FuncData}
theorem cell_at {ns : List Int} {i : Nat} (h : i < ns.length) : ns[i]? = some (cellF ns i) := by
  unfold cellF
  rw [if_pos h, List.getD, List.getElem?_eq_getElem h]
  rfl
theorem ite01 (q : Bool) : -(2 ^ 64) < (if q then (1 : Int) else 0) ∧ (if q then (1 : Int) else 0) < 2 ^ 64 := by cases q <;> decide
theorem ok_pot (F : Fun K "_law_pot" "_law_pot" sPot f fd) (T : TM mg) : FnOk P w K mg base (L2.CX P w) 1 f fd ["script", "place"] (spD K rPot) := by
  refine fn_D (k := 0) F scPot (fun ss μ r μ' h => by obtain ⟨ns, i, _, rfl, _⟩ := h; rfl) ?_
  intro cdv A0 outer s0 H E N W ss μ r μ' g hA hR
  obtain ⟨ns, i, hi, rfl, rfl, rfl⟩ := hR
  refine ⟨_, dss_cons (ds_set 2 (de_if (r := .v (.p (.int (cellF ns i)))) (k := decide ((i : Int) < (ns.length : Int))) (dt_cmp (de_var 1) (de_callB (id := "len") (da_cons (de_var 0) da_nil) (c_lenSc g) T.len (by decide +kernel)) o_lt)
      (fun h => de_ix (de_var 0) (de_var 1) (i_sc g (cell_at (by have := of_decide_eq_true h; omega)))) (fun h => de_of (de_bin (de_bin de_int (de_var 1) (o_mul (.inl (by decide)))) de_int o_add) (congrArg D.int ?_))) g.nd) (cn
    (dss_cons (ds_set 3 (de_of (de_bin (de_bin (de_callT (T := "int") (da_cons (de_callB (id := "abs") (da_cons (de_var 2) da_nil) c_abs T.abs (by decide +kernel)) da_nil) c_int T.int (by decide +kernel)) (de_bin (de_bin de_int de_int (o_pow ?_)) de_int (o_pow ?_)) (o_mod ?_))
      (de_callT (T := "int") (da_cons (de_cmp (de_callB (id := "abs") (da_cons (de_var 2) da_nil) c_abs T.abs (by decide +kernel)) (de_bin de_int de_int (o_pow ?_)) o_ge) da_nil) c_intB T.int (by decide +kernel)) (o_mul (.inr ?_))) (congrArg D.int (show _ = (potF ns i).a from rfl))) g.nd) (cn
    (dss_cons (ds_set 4 (de_bin (de_callT (T := "int") (da_cons (de_var 2) da_nil) c_int T.int (by decide +kernel)) de_int (o_mod (by decide))) g.nd) (cn
    (dss_ret (de_lstM (dp_cons (de_var 3) (dp_cons (de_of (de_bin (de_callT (T := "int") (da_cons (de_bin (de_bin (de_bin (de_var 4) de_int (o_mul (.inr (by decide)))) (de_bin (de_bin de_int (de_var 1) (o_mul (.inl (by decide)))) (de_var 1) (o_mul (.inr (by omega)))) o_add) de_int o_add) da_nil) c_int T.int (by decide +kernel)) de_int (o_mod (by decide))) (congrArg D.int (show _ = (potF ns i).b from rfl))) (dp_cons (de_of de_int (congrArg D.int (show _ = (potF ns i).c from rfl))) dp_nil)))))))))), .rt⟩
  · unfold cellF
    rw [if_neg (fun z => of_decide_eq_false h (by omega))]
  · exact ⟨by decide, by decide +kernel⟩
  · exact ⟨by decide, by decide +kernel⟩
  · decide +kernel
  · exact ⟨by decide, by decide +kernel⟩
  · exact ite01 _
theorem set_at {μ : List M} {j : Nat} {m x : M} (h : μ[j]? = some m) : (μ.set j x)[j]? = some x := List.getElem?_set_self (List.getElem?_eq_some_iff.mp h).1
theorem ok_take (F : Fun K "_law_take" "_law_take" sTake f fd) (T : TM mg) : FnOk P w K mg base (L2.CX P w) 1 f fd ["pot", "upto"] (spD K rTake) := by
  refine fn_D (k := 0) F scTake (fun ss μ r μ' h => by obtain ⟨j, p, u, _, _, _, rfl, _⟩ := h; rfl) ?_
  intro cdv A0 outer s0 H E N W ss μ r μ' g hA hR
  obtain ⟨j, p, u, hp, hu, hu2, rfl, hj, rfl, rfl⟩ := hR
  obtain ⟨b0, b1, c0, c1⟩ := hp
  by_cases ha : 0 < p.a
  · have e : takeF p u = (p.a % u, ⟨p.a / u, p.b, p.c⟩) := if_pos ha
    rw [e]
    exact ⟨_, dss_ifT (dt_of (dt_cmp (de_ix (de_var 0) de_int (i_lstM (i := 0) hj rfl)) de_int o_gt) (decide_eq_true ha))
      (dss_cons (ds_set 2 (de_bin (de_callT (T := "int") (da_cons (de_ix (de_var 0) de_int (i_lstM (i := 0) hj rfl)) da_nil) c_int T.int (by decide +kernel)) (de_var 1) (o_mod hu)) g.nd) (cn
      (dss_cons (ds_setM (de_bin (de_ix (de_var 0) de_int (i_lstM (i := 0) hj rfl)) (de_var 1) (o_div ⟨hu, by omega⟩)) (de_var 0) de_int hj rfl) (cn
      (dss_ret (de_var 2)))))) cr, .rt⟩
  · have e : takeF p u = (blendF p.b (p.c + 1) * (blendF p.b (p.c + 1) % 10323 + 261 * (p.c + 1)) / 149 % u, ⟨p.a, p.b, p.c + 1⟩) := if_neg ha
    rw [e]
    have hc : (0 : Int) ≤ p.c + 1 ∧ p.c + 1 ≤ 9001 := by omega
    have hb := blend_pos p.b (p.c + 1)
    have hm : 93645 * (p.c + 1) * (p.c + 1) ≤ 93645 * 9001 * 9001 := Int.mul_le_mul (by omega) hc.2 hc.1 (by decide)
    have hm0 : 0 ≤ 93645 * (p.c + 1) * (p.c + 1) := Int.mul_nonneg (by omega) hc.1
    refine ⟨_, dss_skip (dt_of (dt_cmp (de_ix (de_var 0) de_int (i_lstM (i := 0) hj rfl)) de_int o_gt) (decide_eq_false ha))
      (dss_cons (ds_setM (de_bin (de_ix (de_var 0) de_int (i_lstM (i := 2) hj rfl)) de_int o_add) (de_var 0) de_int hj rfl) (cn
      (dss_cons (ds_set 3 (de_ix (de_lst (dp_cons de_int (dp_cons de_int (dp_cons de_int (dp_cons de_int (dp_cons de_int dp_nil)))))) (de_bin (de_callT (T := "int") (da_cons (de_ix (de_var 0) de_int (i_lstM (i := 2) (set_at hj) rfl)) da_nil) c_int T.int (by decide +kernel)) de_int (o_mod (by decide))) (i_lst g (prime_at _))) g.nd) (cn
      (dss_cons (ds_set 4 (de_of (de_bin (de_callT (T := "int") (da_cons (de_bin (de_callT (T := "int") (da_cons (de_bin (de_bin (de_ix (de_var 0) de_int (i_lstM (i := 1) (set_at hj) rfl)) (de_bin (de_bin de_int (de_ix (de_var 0) de_int (i_lstM (i := 2) (set_at hj) rfl)) (o_mul (.inl (by decide)))) (de_ix (de_var 0) de_int (i_lstM (i := 2) (set_at hj) rfl)) (o_mul (.inr (by omega)))) o_add) de_int o_add) da_nil) c_int T.int (by decide +kernel)) de_int (o_pow ?_)) da_nil) c_int T.int (by decide +kernel)) (de_var 3) (o_mod (prime_pos _).1)) (congrArg D.int (show _ = blendF p.b (p.c + 1) from rfl))) g.nd) (cn
      (dss_ret (de_bin (de_callT (T := "int") (da_cons (de_bin (de_bin (de_var 4) (de_bin (de_bin (de_callT (T := "int") (da_cons (de_var 4) da_nil) c_int T.int (by decide +kernel)) de_int (o_mod (by decide))) (de_bin de_int (de_ix (de_var 0) de_int (i_lstM (i := 2) (set_at hj) rfl)) (o_mul (.inl (by decide)))) o_add) (o_mul (.inl (by omega)))) de_int (o_div ⟨by decide, by decide⟩)) da_nil) c_int T.int (by decide +kernel)) (de_var 1) (o_mod hu))))))))), .rt⟩
    refine ⟨by decide, ?_⟩
    have hx := intBits_le_64 (k := p.b + 93645 * (p.c + 1) * (p.c + 1) + 831) (by omega) (by omega)
    show ((Builtin.Int.intBits (p.b + 93645 * (p.c + 1) * (p.c + 1) + 831) : Nat) : Int) * 3 ≤ _
    omega
end
theorem Pot.ok.mono {n m : Nat} {p : Pot} (h : p.ok n) (q : n ≤ m) : p.ok m := ⟨h.b0, h.b1, h.c0, by have := h.c1; omega⟩
/-! ### choices -/
def tk (p : Pot) (u : Nat) : Nat := (takeF p u).1.toNat
def tkP (p : Pot) (u : Nat) : Pot := (takeF p u).2
theorem tk_lt {p : Pot} {u : Nat} (h : 0 < u) : tk p u < u := by
  have := takeF_lt (p := p) (u := (u : Int)) (by omega)
  unfold tk
  omega
theorem tk_eq {p : Pot} {u : Nat} (h : 0 < u) : (takeF p u).1 = ((tk p u : Nat) : Int) := by
  have := takeF_lt (p := p) (u := (u : Int)) (by omega)
  unfold tk
  omega
theorem tkP_ok {n : Nat} {p : Pot} {u : Nat} (h : p.ok n) : (tkP p u).ok (n + 1) := takeF_ok h
def rTk : Rel := fun ss μ r μ' => ∃ (j : Nat) (p : Pot) (u : Nat), p.ok 9000 ∧ 0 < u ∧ u < 1000 ∧ ss = [.l j, .p (.int (u : Nat))] ∧ μ[j]? = some p.m ∧ r = .v (.p (.int (tk p u : Nat))) ∧ μ' = μ.set j (tkP p u).m
theorem tk_of {ss : List S} {μ : List M} {r : Rx} {μ' : List M} (h : rTk ss μ r μ') : rTake ss μ r μ' := by
  obtain ⟨j, p, u, h1, h2, h3, h4, h5, h6, h7⟩ := h
  exact ⟨j, p, (u : Int), h1, by omega, by omega, h4, h5, by rw [h6, tk_eq h2], h7⟩
def rOf : Rel := fun ss μ r μ' => ∃ (j : Nat) (p : Pot), p.ok 9000 ∧ μ[j]? = some p.m ∧
  ((∃ (α : Type) (q : α → D) (d : α) (l : List α), l ≠ [] ∧ l.length < 100 ∧ ss = [.l j, .p (.lst (l.map q))] ∧ r = .v (.p (q (l.getD (tk p l.length) d))) ∧ μ' = μ.set j (tkP p l.length).m) ∨
   (∃ (L : List Nat), L ≠ [] ∧ L.length < 100 ∧ ss = [.l j, .p (.str (st L))] ∧ r = .v (.p (.str ⟨#[L.getD (tk p L.length) 0]⟩)) ∧ μ' = μ.set j (tkP p L.length).m))
theorem at_getD {α : Type} {q : α → D} {d : α} {l : List α} {i : Nat} (h : i < l.length) : atI (l.map q) ((i : Nat) : Int) = some (q (l.getD i d)) := by
  refine atI_nat ?_
  rw [List.getElem?_map, List.getElem?_eq_getElem h, List.getD_eq_getElem?_getD, List.getElem?_eq_getElem h]
  rfl
theorem at_getN {l : List Nat} {d i : Nat} (h : i < l.length) : atI l ((i : Nat) : Int) = some (l.getD i d) := by
  refine atI_nat ?_
  rw [List.getElem?_eq_getElem h, List.getD_eq_getElem?_getD, List.getElem?_eq_getElem h]
  rfl
def cellsN (ns : List Int) : Nat := max 1 (min 6 ns.length)
def rCells : Rel := fun ss μ r μ' => ∃ (ns : List Int), ss = [.p (.sc ns), .p (.int 6)] ∧ r = .v (.p (.lst (rangeD 0 (cellsN ns)))) ∧ μ' = μ
section
variable {P : Program} {w : World} {K : PySem.W.Frag} {mg : Str → Option Value} {base : Heap} {f C : Addr} {fd : FuncData}
theorem ok_tk (F : Fun K "_law_take" "_law_take" sTake f fd) (T : TM mg) : FnOk P w K mg base (L2.CX P w) 1 f fd ["pot", "upto"] (spD K rTk) := by
  exact (ok_take (P := P) (w := w) (base := base) F T).imp fun vs H Q E h => by
    obtain ⟨F1, A1, ss, μ, r, μ', h1, h2⟩ := h
    exact ⟨F1, A1, ss, μ, r, μ', tk_of h1, h2⟩
theorem ok_of (F : Fun K "_law_of" "_law_of" sOf f fd) (T : TM mg) (ct : Cf P w K mg base 1 "_law_take" [] rTk) : FnOk P w K mg base (L2.CX P w) 2 f fd ["pot", "some"] (spD K rOf) := by
  refine fn_D (k := 1) F scOf (fun ss μ r μ' h => by obtain ⟨j, p, _, _, (⟨_, _, _, _, _, _, rfl, _⟩ | ⟨L, _, _, rfl, _⟩)⟩ := h <;> rfl) ?_
  intro cdv A0 outer s0 H E N W ss μ r μ' g hA hR
  obtain ⟨j, p, hp, hj, (⟨α, q, d, l, h0, h1, rfl, rfl, rfl⟩ | ⟨L, h0, h1, rfl, rfl, rfl⟩)⟩ := hR
  · have h2 := List.length_pos_iff.mpr h0
    exact ⟨_, dss_ret (de_ix (de_var 1) (de_call g ct (da_cons (de_var 0) (da_cons (de_of (de_callB (id := "len") (da_cons (de_var 1) da_nil) (c_lenL g) T.len (by decide +kernel)) (by rw [List.length_map])) da_nil)) ⟨j, p, l.length, hp, by omega, by omega, rfl, hj, rfl, rfl⟩) (i_lst g (at_getD (tk_lt h2)))), .rt⟩
  · have h2 := List.length_pos_iff.mpr h0
    exact ⟨_, dss_ret (de_ix (de_var 1) (de_call g ct (da_cons (de_var 0) (da_cons (de_of (de_callB (id := "len") (da_cons (de_var 1) da_nil) (c_lenS (by rw [st_len]; exact size4 (by omega))) T.len (by decide +kernel)) (by rw [st_len])) da_nil)) ⟨j, p, L.length, hp, by omega, by omega, rfl, hj, rfl, rfl⟩) (i_str (by rw [st_len]; exact size4 (by omega)) (at_getN (tk_lt h2)))), .rt⟩
theorem ok_cells (F : Fun K "_law_cells" "_law_cells" sCells f fd) (T : TM mg) : FnOk P w K mg base (L2.CX P w) 1 f fd ["script", "most"] (spD K rCells) := by
  refine fn_D (k := 0) F scCells (fun ss μ r μ' h => by obtain ⟨ns, rfl, _⟩ := h; rfl) ?_
  intro cdv A0 outer s0 H E N W ss μ r μ' g hA hR
  obtain ⟨ns, rfl, rfl, rfl⟩ := hR
  refine ⟨_, dss_ret (de_of (de_listRg g (de_callB (id := "max") (da_cons de_int (da_cons (de_callB (id := "min") (da_cons (de_var 1) (da_cons (de_callB (id := "len") (da_cons (de_var 0) da_nil) (c_lenSc g) T.len (by decide +kernel)) da_nil)) (c_min2 g) T.min (by decide +kernel)) da_nil)) (c_max2 g) T.max (by decide +kernel)) T.list T.range ?_) ?_), .rt⟩
  · split <;> split at * <;> omega
  · congr 2
    unfold cellsN
    split <;> split at * <;> omega
end
end K79
set_option Elab.async false
set_option linter.all false
set_option maxRecDepth 100000
set_option maxHeartbeats 4000000
set_option autoImplicit false
namespace K79
open PySem PySem.Spec PyProof.Rows L2 Dl Cq
abbrev inD (a : Nat) : D := .int (a : Nat)
theorem rng_in (n : Nat) : rangeD 0 n = (List.range n).map inD := by
  unfold rangeD inD
  exact List.map_congr_left fun i _ => by simp
/-! ### values of any kind, for tables -/
inductive El where
  | wd (L : List Nat) (s : Int)
  | ot (d : D)
def elD (C : Addr) : El → D
  | .wd L s => wd C L s
  | .ot d => d
def okEl (K : PySem.W.Frag) (C : Addr) : El → Prop
  | .wd L s => okL L ∧ pm s
  | .ot d => ∃ t, TyI K d t ∧ PySem.W.kitOne K t (.ref C) = some false
inductive Vv where
  | tp (es : List El)
  | ot (d : D)
def vvD (C : Addr) : Vv → D
  | .tp es => .tup (es.map (elD C))
  | .ot d => d
def okV (K : PySem.W.Frag) (C : Addr) : Vv → Prop
  | .tp es => es.length ≤ 60 ∧ ∀ e ∈ es, okEl K C e
  | .ot d => ∃ t, TyI K d t ∧ PySem.W.kitOne K t (.type "tuple") = some false
def isOf (n : Nat) : El → Bool
  | .wd L _ => decide (L.length = n)
  | .ot _ => false
def elL : El → List Nat
  | .wd L _ => L
  | .ot _ => []
def pairB (es : List El) (i j : Nat) : Bool := decide (qs (elL (es.getD i (.ot .non))) (elL (es.getD j (.ot .non))) % 2 = 0) == !decide (i / 2 = j / 2)
def pairsB (es : List El) : Bool := (List.range es.length).all fun i => (List.range i).all fun j => pairB es i j
def sizeB (n : Nat) : Bool := decide (n % 2 = 0) && (decide (1 ≤ n / 2) && decide (n / 2 ≤ 4))
def imgB (es : List El) : Bool := sizeB es.length && es.all (isOf (es.length / 2)) && pairsB es
def areImg : Vv → Bool
  | .tp es => imgB es
  | .ot _ => false
theorem scIsWordOf : FnScope ["value", "wires"] ["value", "wires"] (defScope sIsWordOf) := ⟨rfl, rfl, rfl, by decide +kernel, rfl, by decide +kernel, by decide +kernel⟩
theorem scAreImages : FnScope ["value", "word", "at", "by"] ["value"] (defScope sAreImages) := ⟨rfl, rfl, rfl, by decide +kernel, rfl, by decide +kernel, by decide +kernel⟩
theorem scTInit : FnScope ["self", "images"] ["self", "images"] (defScope sTInit) := ⟨rfl, rfl, rfl, by decide +kernel, rfl, by decide +kernel, by decide +kernel⟩
def rIsWordOfK (K : PySem.W.Frag) (C : Addr) : Rel := fun ss μ r μ' => ∃ (e : El) (n : Nat), okEl K C e ∧ n ≤ 60 ∧ ss = [.p (elD C e), .p (.int (n : Nat))] ∧ r = .v (.p (.bl (isOf n e))) ∧ μ' = μ
def rAreImages (K : PySem.W.Frag) (C : Addr) : Rel := fun ss μ r μ' => ∃ (v : Vv), okV K C v ∧ ss = [.p (vvD C v)] ∧ r = .v (.p (.bl (areImg v))) ∧ μ' = μ
section
variable {P : Program} {w : World} {K : PySem.W.Frag} {mg : Str → Option Value} {base : Heap} {qa ta f C : Addr} {fd : FuncData}
theorem ok_iswordof (F : Fun K "is_word_of" "is_word_of" sIsWordOf f fd) (T : TM mg) (T2 : TC K mg C) (cl_ : Cm P w K mg base 1 C "__len__" [] (rLen C)) : FnOk P w K mg base (L2.CX P w) 3 f fd ["value", "wires"] (spD K (rIsWordOfK K C)) := by
  refine fn_D (k := 2) F scIsWordOf (fun ss μ r μ' h => by obtain ⟨_, _, _, _, rfl, _⟩ := h; rfl) ?_
  intro cdv A0 outer s0 H E N W ss μ r μ' g hA hR
  obtain ⟨e, n, he, hn, rfl, rfl, rfl⟩ := hR
  cases e with
  | wd L s =>
    obtain ⟨hL, hs⟩ := he
    have h4 := hL.four
    have l8 : (0 : Int) ≤ (L.length : Nat) ∧ ((L.length : Nat) : Int) < 2 ^ 63 := by
      have : (2 : Int) ^ 63 = 9223372036854775808 := by decide
      omega
    exact ⟨_, dss_ret (de_of (d' := .bl (isOf n (.wd L s))) (de_and (k := true) (k' := decide (L.length = n)) (de_callB (id := "isinstance") (da_cons (de_var 0) (da_cons (de_glob (v := .ref C) T2.at_ rfl (fun _ _ => .adr _)) da_nil)) (c_isi g (.ins _ _ _ T2.ci) (.adr C) kit_same) T.isinstance (by decide +kernel)) (fun _ => de_one (de_of (d' := .bl (decide (L.length = n))) (de_cmp (de_callB (id := "len") (da_cons (de_var 0) da_nil) (c_lenOwn g cl_ ⟨L, s, hL, rfl, rfl, rfl⟩ l8) T.len (by decide +kernel)) (de_var 1) o_eqI) (congrArg D.bl (decide_eq_decide.mpr (by omega)))))) rfl), .rt⟩
  | ot d =>
    obtain ⟨t, ht, hk⟩ := he
    exact ⟨_, dss_ret (de_of (d' := .bl false) (de_and (k := false) (k' := true) (de_callB (id := "isinstance") (da_cons (de_var 0) (da_cons (de_glob (v := .ref C) T2.at_ rfl (fun _ _ => .adr _)) da_nil)) (c_isi g ht (.adr C) hk) T.isinstance (by decide +kernel)) (fun h => by cases h)) rfl), .rt⟩
def esR : D → List D
  | .int i => rangeD 0 i.toNat
  | _ => []
def pairY (es : List El) : D → D → D
  | .int i, .int j => .bl (pairB es i.toNat j.toNat)
  | _, _ => .non
theorem flat_pairs (es : List El) (n : Nat) : flat2 (fun _ => true) esR (pairY es) ((List.range n).map inD) = (((List.range n).flatMap fun i => (List.range i).map fun j => pairB es i j).map D.bl) := by
  have : ∀ l : List Nat, flat2 (fun _ => true) esR (pairY es) (l.map inD) = ((l.flatMap fun i => (List.range i).map fun j => pairB es i j).map D.bl) := by
    intro l
    induction l with
    | nil => rfl
    | cons a l ih =>
      unfold flat2 at ih ⊢
      rw [List.map_cons, List.flatMap_cons, ih, List.flatMap_cons, List.map_append]
      congr 1
      show (rangeD 0 ((a : Nat) : Int).toNat).map (pairY es (inD a)) = _
      rw [Int.toNat_natCast, rng_in, List.map_map, List.map_map]
      rfl
  exact this _
theorem all_flat (es : List El) (n : Nat) : (((List.range n).flatMap fun i => (List.range i).map fun j => pairB es i j).all id) = ((List.range n).all fun i => (List.range i).all fun j => pairB es i j) := by
  rw [List.all_flatMap]
  congr 1
  funext i
  rw [List.all_map]
  rfl
theorem flat_len (es : List El) {n : Nat} (hn : n ≤ 60) : ((List.range n).flatMap fun i => (List.range i).map fun j => pairB es i j).length ≤ 3600 := by
  have : ∀ l : List Nat, (∀ i ∈ l, i ≤ 60) → (l.flatMap fun i => (List.range i).map fun j => pairB es i j).length ≤ l.length * 60 := by
    intro l
    induction l with
    | nil => intro _; exact Nat.le_refl _
    | cons a l ih =>
      intro h
      have h1 := h a List.mem_cons_self
      have h2 := ih fun i hi => h i (List.mem_cons_of_mem _ hi)
      rw [List.flatMap_cons, List.length_append, List.length_map, List.length_range, List.length_cons, Nat.add_mul]
      omega
  have h := this (List.range n) fun i hi => by have := List.mem_range.mp hi; omega
  rw [List.length_range] at h
  omega
theorem pairs_w {es : List El} {n : Nat} (h : es.all (isOf n) = true) (hk : ∀ e ∈ es, okEl K C e) {i : Nat} (hi : i < es.length) : ∃ L s, es[i]? = some (.wd L s) ∧ okL L ∧ L.length = n ∧ es.getD i (.ot .non) = .wd L s := by
  have hm := List.getElem_mem hi
  have h1 := List.all_eq_true.mp h _ hm
  have h2 := hk _ hm
  have e : es[i]? = some es[i] := List.getElem?_eq_getElem hi
  cases he : es[i] with
  | wd L s =>
    rw [he] at h1 h2 e
    exact ⟨L, s, e, h2.1, of_decide_eq_true h1, by rw [List.getD_eq_getElem?_getD, e]; rfl⟩
  | ot d =>
    rw [he] at h1
    cases h1
theorem ok_areimages (F : Fun K "_are_images" "_are_images" sAreImages f fd) (T : TM mg) (TW_ : TW w K mg qa ta) (ci : Cf P w K mg base 3 "is_word_of" [] (rIsWordOfK K C)) (cp : Cm P w K mg base 2 C "passes" [] (rPasses C)) (ktp : ∀ t, t = Value.type "tuple" → PySem.W.kitOne K t (.type "tuple") = some true) (ztup : mg "tuple" = none) : FnOk P w K mg base (L2.CX P w) 5 f fd ["value"] (spD K (rAreImages K C)) := by
  refine fn_D (k := 4) F scAreImages (fun ss μ r μ' h => by obtain ⟨_, _, rfl, _⟩ := h; rfl) ?_
  intro cdv A0 outer s0 H E N W ss μ r μ' g hA hR
  obtain ⟨v, hv, rfl, rfl, rfl⟩ := hR
  cases v with
  | ot d =>
    obtain ⟨t, ht, hk⟩ := hv
    exact ⟨_, dss_ifT (dt_of (dt_w (dw_or (k := true) (k' := true) (dt_of (dt_not (dt_val (de_callB (id := "isinstance") (da_cons (de_var 0) (da_cons (de_ty ztup (by decide +kernel)) da_nil)) (c_isi g ht (.ty _) hk) T.isinstance (by decide +kernel)))) rfl) (fun h => by cases h))) rfl) (dss_ret de_bl) cr, .rt⟩
  | tp es =>
    obtain ⟨h60, hes⟩ := hv
    obtain ⟨u2, hu2, ru2⟩ := TW_.most
    have le : (es.map (elD C)).length = es.length := List.length_map ..
    have t0 : DT (cxOf (L2.CX P w) P w K mg base ["value", "word", "at", "by"] "_are_images" (defScope sAreImages) f cdv A0 outer s0 H E) N W (starts ["value", "word", "at", "by"] [.p (.tup (es.map (elD C)))]) μ' (ifC ((defBody sAreImages).getD 0 (.Pass ⟨0, 0, 0, 0⟩))) (!sizeB es.length) μ' := by
      refine dt_of (k := false || (decide (es.length % 2 ≠ 0) || !(decide (1 ≤ es.length / 2) && decide (es.length / 2 ≤ 4)))) (dt_w (dw_or (k := false) (dt_of (dt_not (dt_val (de_callB (id := "isinstance") (da_cons (de_var 0) (da_cons (de_ty ztup (by decide +kernel)) da_nil)) (c_isi g (.tup _) (.ty _) (ktp _ rfl)) T.isinstance (by decide +kernel)))) rfl) (fun _ => dw_or (dt_of (k := !decide (((es.length : Nat) : Int) % 2 = 0)) (dt_cmp (de_bin (de_of (d' := .int ((es.length : Nat) : Int)) (de_callB (id := "len") (da_cons (de_var 0) da_nil) (c_lenT g) T.len (by decide +kernel)) (by rw [le])) de_int (o_mod (by decide))) de_int o_neI) ?_) (fun _ => dw_or1 (dt_not (dt_of (dt_chn de_int (de_of (d' := .int ((es.length / 2 : Nat) : Int)) (de_bin (de_of (d' := .int ((es.length : Nat) : Int)) (de_callB (id := "len") (da_cons (de_var 0) da_nil) (c_lenT g) T.len (by decide +kernel)) (by rw [le])) de_int (o_div ?_)) ?_) o_le (fun _ => de_glob hu2 ru2 (fun _ _ => .int 4)) (fun _ => o_le)) ?_)))))) ?_
      · by_cases h : es.length % 2 = 0
        · have h2 : ((es.length : Nat) : Int) % 2 = 0 := by omega
          simp [h, h2]
        · have h2 : ¬ ((es.length : Nat) : Int) % 2 = 0 := by omega
          simp [h, h2]
      · exact ⟨by decide, by decide⟩
      · exact congrArg D.int (by omega)
      · congr 1 <;> exact decide_eq_decide.mpr (by omega)
      · by_cases h : es.length % 2 = 0 <;> simp [sizeB, h]
    have half : ∀ {X : Cx} {N : En} {W : WX} {δ : List (Option S)} {μ : List M} {e : Expr} {pos : Pos} {k j}, DE X N W δ μ e (.v (.p (.int ((es.length : Nat) : Int)))) μ → DE X N W δ μ (.BinOp e .FloorDiv (.Constant (.int 2) j k) pos) (.v (.p (.int ((es.length / 2 : Nat) : Int)))) μ := fun h => de_of (de_bin h de_int (o_div ⟨by decide, by decide⟩)) (congrArg D.int (by omega))
    cases hsz : sizeB es.length with
    | false =>
      have e : areImg (.tp es) = false := by show imgB es = false; unfold imgB; rw [hsz]; rfl
      rw [e]
      exact ⟨_, dss_ifT (dt_of t0 (by rw [hsz]; rfl)) (dss_ret de_bl) cr, .rt⟩
    | true =>
      have t1 : DT (cxOf (L2.CX P w) P w K mg base ["value", "word", "at", "by"] "_are_images" (defScope sAreImages) f cdv A0 outer s0 H E) N W (starts ["value", "word", "at", "by"] [.p (.tup (es.map (elD C)))]) μ' (ifC ((defBody sAreImages).getD 1 (.Pass ⟨0, 0, 0, 0⟩))) (!es.all (isOf (es.length / 2))) μ' :=
        dt_not (dt_val (de_callB (id := "all") (da_cons (de_lc g [("word", 1)] (di_tup g (de_var 0)) (fun s H C cl fp => dg_name 1 g.nd) (of_maps (gd := elD C) (fy := fun e => .bl (isOf (es.length / 2) e)) fun e he => ⟨_, rfl, fun s H C cl fp N' hK g' => de_call g' ci (da_cons (de_var 1) (da_cons (half (de_of (de_callB (id := "len") (da_cons (de_var 0) da_nil) (c_lenT g') T.len (by decide +kernel)) (by rw [le]))) da_nil)) ⟨e, es.length / 2, hes e he, by omega, rfl, rfl, rfl⟩⟩) (ok := blkOk_by (by rfl)) (hds := by rw [le]; exact sz' (by omega))) da_nil) (c_allm (q := isOf (es.length / 2)) g) T.all (by decide +kernel)))
      cases hal : es.all (isOf (es.length / 2)) with
      | false =>
        have e : areImg (.tp es) = false := by show imgB es = false; unfold imgB; rw [hal]; simp
        rw [e]
        exact ⟨_, dss_skip (dt_of t0 (by rw [hsz]; rfl)) (dss_ifT (dt_of t1 (by rw [hal]; rfl)) (dss_ret de_bl) cr), .rt⟩
      | true =>
        have e : areImg (.tp es) = pairsB es := by show imgB es = _; unfold imgB; rw [hsz, hal]; simp
        rw [e]
        have atE : ∀ {i : Nat} {x : El}, es[i]? = some x → atI (es.map (elD C)) ((i : Nat) : Int) = some (elD C x) := fun {i x} h => atI_nat (by rw [List.getElem?_map, h]; rfl)
        have fl := flat_len es (n := es.length) h60
        refine ⟨_, dss_skip (dt_of t0 (by rw [hsz]; rfl)) (dss_skip (dt_of t1 (by rw [hal]; rfl)) (dss_ret (de_of (d' := .bl (pairsB es)) (de_callB (id := "all") (da_cons (s := .p (.lst (((List.range es.length).flatMap fun i => (List.range i).map fun j => pairB es i j).map D.bl))) (de_of (de_lc2 esR (pairY es) g [("at", 2), ("by", 3)] [3] (di_of (di_range1 (da_cons (de_of (d' := .int ((es.length : Nat) : Int)) (de_callB (id := "len") (da_cons (de_var 0) da_nil) (c_lenT g) T.len (by decide +kernel)) (by rw [le])) da_nil) T.range (by omega)) (by rw [Int.toNat_natCast, rng_in])) (fun s H C cl fp => dg_name 2 g.nd) (fun s H C cl fp => dg_name 3 g.nd) ?hf (by rw [flat_pairs, List.length_map]; exact sz (by omega)) (ok := blkOk_by (by rfl))) (congrArg D.lst (flat_pairs es es.length))) da_nil) (c_all g) T.all (by decide +kernel)) (congrArg D.bl (all_flat es es.length))))), .rt⟩
        intro d hd
        obtain ⟨i, hi, rfl⟩ := List.mem_map.mp hd
        have hi := List.mem_range.mp hi
        refine ⟨_, rfl, fun s H C cl fp N' hK g' => di_range1 (da_cons (de_var 2) da_nil) T.range (by omega), fun d2 hd2 => ?_⟩
        have hd2 : d2 ∈ rangeD 0 ((i : Nat) : Int).toNat := hd2
        rw [Int.toNat_natCast, rng_in] at hd2
        obtain ⟨j, hj, rfl⟩ := List.mem_map.mp hd2
        have hj := List.mem_range.mp hj
        obtain ⟨L1, s1, a1, a2, a3, a4⟩ := pairs_w hal hes hi
        obtain ⟨L2', s2, b1, b2, b3, b4⟩ := pairs_w hal hes (i := j) (by omega)
        refine ⟨_, rfl, fun s H C' cl fp N' hK g' => de_of (d' := .bl (pairB es i j)) (de_cmp (de_meth g' cp (de_ix (de_var 0) (de_var 2) (i_tup g' (atE a1))) (da_cons (de_ix (de_var 0) (de_var 3) (i_tup g' (atE b1))) da_nil) ⟨L1, L2', s1, s2, a2, b2, a3.trans b3.symm, rfl, rfl, rfl⟩) (de_cmp (de_bin (de_var 2) de_int (o_div ⟨by decide, by decide⟩)) (de_bin (de_var 3) de_int (o_div ⟨by decide, by decide⟩)) o_neI) o_eqB) (congrArg D.bl ?_)⟩
        unfold pairB
        rw [a4, b4]
        have e2 : decide (((i : Nat) : Int) / 2 = ((j : Nat) : Int) / 2) = decide (i / 2 = j / 2) := decide_eq_decide.mpr (by omega)
        show decide (decide (qs L1 L2' % 2 = 0) = !decide (((i : Nat) : Int) / 2 = ((j : Nat) : Int) / 2)) = _
        rw [e2]
        show _ = (decide (qs L1 L2' % 2 = 0) == !decide (i / 2 = j / 2))
        cases decide (qs L1 L2' % 2 = 0) <;> cases decide (i / 2 = j / 2) <;> rfl
end
end K79
set_option Elab.async false
set_option linter.all false
set_option maxRecDepth 100000
set_option maxHeartbeats 4000000
set_option autoImplicit false
namespace K79
open PySem PySem.Spec PyProof.Rows L2 Dl Cq
/-! ### a Table is made -/
structure TKt (K : PySem.W.Frag) (mg : Str → Option Value) (CT : Addr) : Prop where
  ci : ClsI K CT
  nI : NoAttr K CT "images"
  nW : NoAttr K CT "wires"
  at_ : mg "Table" = some (.ref CT)
def tF : List Str := ["images", "wires"]
def rTInit (K : PySem.W.Frag) (C CT CB : Addr) : Rel := fun ss μ r μ' => ∃ (j : Nat) (v : Vv), okV K C v ∧ ss = [.l j, .p (vvD C v)] ∧ μ[j]? = some (.obj CT [] []) ∧
  ((∃ es, v = .tp es ∧ imgB es = true ∧ r = .v (.p .non) ∧ μ' = μ.set j (.obj CT tF [vvD C v, .int ((es.length / 2 : Nat) : Int)])) ∨ (areImg v = false ∧ r = .x CB (vvD C v) ∧ μ' = μ))
def idx {α : Type} : Nat → List α → List (Nat × α)
  | _, [] => []
  | k, a :: l => (k, a) :: idx (k + 1) l
theorem idx_enum {α : Type} (q : α → D) : ∀ (l : List α) (k : Nat), enumD k (l.map q) = (idx k l).map fun p => .tup [inD p.1, q p.2]
  | [], _ => rfl
  | a :: l, k => by
    show _ :: enumD (k + 1) (l.map q) = _
    rw [idx_enum q l]
    rfl
def rTextP (C : Addr) : Rel := fun ss μ r μ' => ∃ (L : List Nat) (s : Int), okL L ∧ ss = [.p (wd C L s)] ∧ r = .v (.p (.str (sgn L s))) ∧ μ' = μ
theorem scWTextP : FnScope ["self"] ["self"] (defScope sWTextP) := ⟨rfl, rfl, rfl, by decide +kernel, rfl, by decide +kernel, by decide +kernel⟩
section
variable {P : Program} {w : World} {K : PySem.W.Frag} {mg : Str → Option Value} {base : Heap} {qa ta f C CT CB : Addr} {fd : FuncData}
theorem ok_tinit (F : Fun K "__init__" "Table.__init__" sTInit f fd) (T : TM mg) (Tt : TKt K mg CT) (ca : Cf P w K mg base 5 "_are_images" [] (rAreImages K C)) (ce : Ce P w K mg base 1 CB "BadImages") : FnOk P w K mg base (L2.CX P w) 6 f fd ["self", "images"] (spD K (rTInit K C CT CB)) := by
  refine fn_D (k := 5) F scTInit (fun ss μ r μ' h => by obtain ⟨_, _, _, rfl, _⟩ := h; rfl) ?_
  intro cdv A0 outer s0 H E N W ss μ r μ' g hA hR
  obtain ⟨j, v, hv, rfl, hj, (⟨es, rfl, hi, rfl, rfl⟩ | ⟨hi, rfl, rfl⟩)⟩ := hR
  · have hj2 : ∀ x, (μ.set j x)[j]? = some x := fun x => List.getElem?_set_self (List.getElem?_eq_some_iff.mp hj).1
    have le : (es.map (elD C)).length = es.length := List.length_map ..
    refine ⟨_, dss_skip (dt_of (dt_not (dt_val (de_call g ca (da_cons (de_var 1) da_nil) ⟨.tp es, hv, rfl, rfl, rfl⟩))) (show (!areImg (.tp es)) = false by show (!imgB es) = false; rw [hi]; rfl))
      (dss_cons (ds_fldNew (de_var 1) (de_var 0) Tt.ci.cl Tt.nI hj) (cn
      (dss_cons (ds_fldNew (de_of (d' := .int ((es.length / 2 : Nat) : Int)) (de_bin (de_callB (id := "len") (da_cons (de_var 1) da_nil) (c_lenT g) T.len (by decide +kernel)) de_int (o_div ⟨by decide, by decide⟩)) (congrArg D.int (by rw [le]; omega))) (de_var 0) Tt.ci.cl Tt.nW (hj2 _)) (cn dss_nil)))), ?_⟩
    rw [List.set_set]
    exact .nx
  · exact ⟨_, dss_ifT (dt_of (dt_not (dt_val (de_call g ca (da_cons (de_var 1) da_nil) ⟨v, hv, rfl, rfl, rfl⟩))) (by rw [hi]; rfl)) (dss_cons (ds_raise g ce (de_var 1)) cx) cx, .xx⟩
theorem ok_textP (F : Fun K "text" "Word.text" sWTextP f fd) (T2 : TC K mg C) (cs : Cf P w K mg base 1 "signed_text" [] rSigned) : FnOk P w K mg base (L2.CX P w) 2 f fd ["self"] (spD K (rTextP C)) := by
  refine fn_D (k := 1) F scWTextP (fun ss μ r μ' h => by obtain ⟨L, s, _, rfl, _⟩ := h; rfl) ?_
  intro cdv A0 outer s0 H E N W ss μ r μ' g hA hR
  obtain ⟨L, s, hL, rfl, rfl, rfl⟩ := hR
  exact ⟨_, dss_ret (de_call g cs (da_cons (de_fld (de_var 0) g T2.ci.cl T2.nL) (da_cons (de_fld (de_var 0) g T2.ci.cl T2.nS) da_nil)) ⟨L, s, hL.four, rfl, rfl, rfl⟩), .rt⟩
end
end K79
set_option Elab.async false
set_option linter.all false
set_option maxRecDepth 100000
set_option maxHeartbeats 4000000
set_option autoImplicit false
namespace Cq
open PySem PySem.Spec PyProof.Rows L2 Dl
theorem evens_pairs {α β : Type} (a b : β → α) : ∀ ps : List β, evens (ps.flatMap fun p => [a p, b p]) = ps.map a
  | [] => rfl
  | p :: ps => by
    show a p :: evens (ps.flatMap fun p => [a p, b p]) = _
    rw [evens_pairs a b ps]
    rfl
theorem evens_pairs' {α β : Type} (a b : β → α) : ∀ ps : List β, evens ((ps.flatMap fun p => [a p, b p]).drop 1) = ps.map b
  | [] => rfl
  | [p] => rfl
  | p :: q :: ps => by
    show b p :: evens (((q :: ps).flatMap fun p => [a p, b p]).drop 1) = _
    rw [evens_pairs' a b (q :: ps)]
    rfl
theorem zip_self {β : Type} (a b : β → D) : ∀ ps : List β, (ps.map a).zipWith (fun x y => D.tup [x, y]) (ps.map b) = ps.map fun p => .tup [a p, b p]
  | [] => rfl
  | p :: ps => by
    show D.tup [a p, b p] :: _ = _
    rw [zip_self a b ps]
    rfl
theorem flat_len {β α : Type} (a b : β → α) : ∀ ps : List β, (ps.flatMap fun p => [a p, b p]).length = 2 * ps.length
  | [] => rfl
  | p :: ps => by
    rw [List.flatMap_cons, List.length_append, flat_len a b ps, List.length_cons]
    show 2 + 2 * ps.length = 2 * (ps.length + 1)
    omega
/-- the knobs of all turns are few -/
theorem knobs_len {w : Nat} : ∀ {ls : List Ln}, (∀ l ∈ ls, okLn w l) → (ls.flatMap formK).length ≤ 3 * (ls.filter isT).length
  | [], _ => Nat.zero_le _
  | l :: ls, h => by
    have ih := knobs_len (ls := ls) fun x hx => h x (by simp [hx])
    have h0 := h l (by simp)
    rw [List.flatMap_cons, List.length_append, List.filter_cons]
    cases l with
    | tn s L ps =>
      have h3 : (formK (.tn s L ps)).length ≤ 3 := by
        show ((formF ps).map (·.1)).length ≤ 3
        rw [List.length_map]
        exact Nat.le_trans (formF_len ps) h0.2.2.1
      rw [if_pos (show isT (.tn s L ps) = true from rfl), List.length_cons]
      omega
    | ab q s L => rw [if_neg (show ¬ isT (.ab q s L) = true from nofun)]; show 0 + _ ≤ _; omega
    | h a => rw [if_neg (show ¬ isT (.h a) = true from nofun)]; show 0 + _ ≤ _; omega
    | pr k a b => rw [if_neg (show ¬ isT (.pr k a b) = true from nofun)]; show 0 + _ ≤ _; omega
def isTD : D → Bool
  | .tup (.str z :: _) => decide (z = st wTurn)
  | _ => false
def esT : D → List D
  | .tup [_, _, _, .tup fs] => fs
  | _ => []
def fstD : D → D
  | .tup [a, _] => a
  | _ => .non
theorem st_no {L M : List Nat} (h : L ≠ M) : decide (st L = st M) = false := decide_eq_false fun e => h (st_inj.mp e)
theorem isTD_stp : ∀ l : Ln, isTD (stpD l) = isT l
  | .ab q s L => by
    show decide (st (if q then wQuarter else wFlip) = st wTurn) = false
    cases q
    · exact st_no (by decide)
    · exact st_no (by decide)
  | .h a => by
    show decide (st [104] = st wTurn) = false
    exact st_no (by decide)
  | .pr k a b => by
    show decide (st (pn k) = st wTurn) = false
    refine st_no ?_
    unfold pn
    split
    · decide
    · split <;> decide
  | .tn s L ps => by
    show decide (st wTurn = st wTurn) = true
    exact decide_eq_true rfl
theorem flat_knobs : ∀ ls : List Ln, flat2 isTD esT (fun _ e => fstD e) (ls.map stpD) = (ls.flatMap formK).map D.str
  | [] => rfl
  | l :: ls => by
    show (if isTD (stpD l) = true then (esT (stpD l)).map (fun e => fstD e) else []) ++ flat2 isTD esT (fun _ e => fstD e) (ls.map stpD) = _
    rw [flat_knobs ls, isTD_stp, List.flatMap_cons, List.map_append]
    congr 1
    cases l with
    | tn s L ps =>
      show ((formF ps).map Dl.pairD).map fstD = ((formF ps).map (·.1)).map D.str
      rw [List.map_map, List.map_map]
      rfl
    | ab q s L => rfl
    | h a => rfl
    | pr k a b => rfl
end Cq
set_option Elab.async false
set_option linter.all false
set_option maxRecDepth 100000
set_option maxHeartbeats 4000000
set_option autoImplicit false
namespace Cq
open PySem PySem.Spec PyProof.Rows L2 Dl
/-! ## what a text begins with -/
theorem starts_st (L M : List Nat) : Txt.startswith (st L) (st M) = decide (L.take M.length = M) := by
  unfold Txt.startswith Builtin.Str.subAt
  have e : ((st L).cps.extract 0 (0 + (st M).length) == (st M).cps) = decide (L.take M.length = M) := by
    rw [st_len, Nat.zero_add]
    have e1 : (st L).cps.extract 0 M.length = (L.take M.length).toArray := by
      show L.toArray.extract 0 M.length = _
      simp
    rw [e1]
    by_cases h : L.take M.length = M
    · rw [h, decide_eq_true rfl]
      show (M.toArray == M.toArray) = true
      exact beq_self_eq_true _
    · rw [decide_eq_false h]
      refine beq_eq_false_iff_ne.mpr fun z => h ?_
      have : (L.take M.length).toArray.toList = (st M).cps.toList := by rw [z]
      simpa [Dl.st] using this
  rw [e, st_len, st_len, Nat.zero_add]
  by_cases h : L.take M.length = M
  · rw [decide_eq_true h, Bool.and_true]
    refine decide_eq_true ?_
    have := congrArg List.length h
    rw [List.length_take] at this
    omega
  · rw [decide_eq_false h, Bool.and_false]
theorem lt_tn (s : Int) (L : List Nat) (ps : List (List Nat × Int)) : ∃ r, lt (.tn s L ps) = wTurn ++ 32 :: r := by
  unfold lt lw
  exact ⟨_, rfl⟩
theorem head_lt {l : Ln} (h : isT l = false) : ∃ a r, lt l = a :: r ∧ a ≠ 116 := by
  cases l with
  | tn s L ps => cases h
  | ab q s L =>
    cases q
    · exact ⟨102, _, rfl, by decide⟩
    · exact ⟨113, _, rfl, by decide⟩
  | h a => exact ⟨104, _, rfl, by decide⟩
  | pr k a b =>
    by_cases h0 : k = 0
    · subst h0
      exact ⟨99, _, rfl, by decide⟩
    · by_cases h1 : k = 1
      · subst h1
        exact ⟨99, _, rfl, by decide⟩
      · have e : pn k = [115, 119, 97, 112] := by unfold pn; rw [if_neg h0, if_neg h1]
        refine ⟨115, [119, 97, 112] ++ ([32] ++ TL.joinL [32] [[48 + a], [48 + b]]), ?_, by decide⟩
        show TL.joinL [32] [pn k, [48 + a], [48 + b]] = _
        rw [e]
        rfl
theorem starts_turn (l : Ln) : Txt.startswith (st (lt l)) (Str.ofString "turn ") = isT l := by
  rw [show Str.ofString "turn " = st [116, 117, 114, 110, 32] from rfl, starts_st]
  cases h : isT l with
  | true =>
    cases l with
    | tn s L ps =>
      obtain ⟨r, hr⟩ := lt_tn s L ps
      rw [hr]
      exact decide_eq_true rfl
    | _ => cases h
  | false =>
    obtain ⟨a, r, hr, ha⟩ := head_lt h
    rw [hr]
    refine decide_eq_false fun e => ha ?_
    have : (a :: r.take 4) = [116, 117, 114, 110, 32] := e
    exact (List.cons.inj this).1
/-! ## contrary lines -/
/-! ## circuits out of circuits -/
theorem okC.sub {w : Nat} {ls ms : List Ln} (h : okC w ls) (q : ms.Sublist ls) : okC w ms :=
  ⟨h.w1, h.w4, fun l hl => h.ok l (q.subset hl), Nat.le_trans q.length_le h.len, Nat.le_trans (q.filter _).length_le h.six⟩
theorem fstr_wires {w : Nat} (h1 : 1 ≤ w) (h4 : w ≤ 4) : catS Str.empty [Str.ofString "wires ", Str.ofString (toString ((w : Nat) : Int))] = st (wT w) := by
  have : ∀ w, w ≤ 4 → 1 ≤ w → catS Str.empty [Str.ofString "wires ", Str.ofString (toString ((w : Nat) : Int))] = st (wT w) := by decide +kernel
  exact this w h4 h1
theorem join_ct (w : Nat) (ls : List Ln) : Txt.join (Str.ofString "\n") ((wT w :: ls.map lt).map st) = st (ct w ls) := SX.join_S [10] _
theorem sum_len : ∀ (ws : List (List Nat)) (m : Nat), (∀ v ∈ ws, v.length ≤ m) → ((ws.map st).map (·.length)).sum ≤ ws.length * m
  | [], m, _ => Nat.zero_le _
  | v :: ws, m, h => by
    have := sum_len ws m fun x hx => h x (by simp [hx])
    have h0 := h v (by simp)
    rw [List.map_cons, List.map_cons, List.sum_cons, List.length_cons, Nat.succ_mul, st_len]
    omega
theorem ct_sum {w : Nat} {ls : List Ln} (h : okC w ls) : (((wT w :: ls.map lt).map st).map (·.length)).sum + ((wT w :: ls.map lt).map st).length * (Str.ofString "\n").length ≤ 16777216 := by
  have h1 := sum_len (wT w :: ls.map lt) 81 (fun v hv => by
    rcases List.mem_cons.mp hv with rfl | hv
    · show 7 ≤ 81; decide
    · obtain ⟨l, hl, rfl⟩ := List.mem_map.mp hv
      exact lt_len (h.ok l hl))
  have h2 : (wT w :: ls.map lt).length ≤ 41 := by have := h.len; simp; omega
  have h3 : (wT w :: ls.map lt).length * 81 ≤ 41 * 81 := Nat.mul_le_mul_right _ h2
  rw [List.length_map, show (Str.ofString "\n").length = 1 from rfl, Nat.mul_one]
  omega
/-- a comprehension with a test -/
theorem of_filt {X : Cx} {K : PySem.W.Frag} {nn : Nat} {scope : Scope} {c elt : Expr} {f : As} {δ : List (Option S)} {μ : List M} {α : Type} {gd fy : α → D} {q : α → Bool} : ∀ {l : List α}, (∀ a ∈ l, ∃ δt, f (gd a) δ = some δt ∧ DTB X K nn scope c δt μ (q a) μ ∧ (q a = true → DEB X K nn scope elt δt μ (fy a) μ)) → CmpL (El1 X K nn scope c elt) f δ (l.map gd) μ ((l.filter q).map fy) μ
  | [], _ => .nil
  | a :: l, h => by
    obtain ⟨δt, h1, h2, h3⟩ := h a (by simp)
    have ih := of_filt (l := l) fun b hb => h b (by simp [hb])
    rw [List.filter_cons]
    cases hq : q a with
    | true =>
      rw [hq] at h2
      exact .keep h1 ⟨μ, h2, h3 hq⟩ ih
    | false =>
      rw [hq] at h2
      exact .drop h1 ⟨μ, h2, rfl⟩ ih
/-- numbers of lines that are turns, in a comprehension over enumerate -/
theorem of_enum {X : Cx} {K : PySem.W.Frag} {nn : Nat} {scope : Scope} {c elt : Expr} {f : As} {δ : List (Option S)} {μ : List M} {gd : Ln → D} {fy : Nat → D} : ∀ {l : List Ln} (k : Nat), (∀ a ∈ l, ∀ i : Nat, ∃ δt, f (.tup [.int ((i : Nat) : Int), gd a]) δ = some δt ∧ DTB X K nn scope c δt μ (isT a) μ ∧ (isT a = true → DEB X K nn scope elt δt μ (fy i) μ)) → CmpL (El1 X K nn scope c elt) f δ (enumD k (l.map gd)) μ ((turnsG k l).map fy) μ
  | [], k, _ => .nil
  | a :: l, k, h => by
    obtain ⟨δt, h1, h2, h3⟩ := h a (by simp) k
    have ih := of_enum (l := l) (fy := fy) (k + 1) fun b hb => h b (by simp [hb])
    show CmpL _ f δ (.tup [.int ((k : Nat) : Int), gd a] :: enumD (k + 1) (l.map gd)) μ _ μ
    unfold turnsG
    cases hq : isT a with
    | true =>
      rw [hq] at h2
      exact .keep h1 ⟨μ, h2, h3 hq⟩ ih
    | false =>
      rw [hq] at h2
      exact .drop h1 ⟨μ, h2, rfl⟩ ih
/-! ## knobs and turns of the contrary circuit -/
end Cq
set_option Elab.async false
set_option linter.all false
set_option maxRecDepth 100000
set_option maxHeartbeats 4000000
set_option autoImplicit false
namespace Dl
/-! ## words led by quarters: products go along -/
abbrev Wp := Int × List Nat
structure okX (n : Nat) (x : Wp) : Prop where
  ok : okL x.2
  len : x.2.length = n
  pm : x.1 = 1 ∨ x.1 = -1
def prM (m : Int) (x y : Wp) : Wp := (x.1 * y.1 * sg (qs x.2 y.2 + m), mk x.2 y.2)
theorem okX.mul {n : Nat} {x y : Wp} {m : Int} (hx : okX n x) (hy : okX n y) : okX n (prM m x y) := by
  have l := hx.len.trans hy.len.symm
  refine ⟨mk_ok hx.ok hy.ok l, (mk_len l).trans hx.len, ?_⟩
  have h : sg (qs x.2 y.2 + m) = 1 ∨ sg (qs x.2 y.2 + m) = -1 := by unfold sg; split <;> simp
  show x.1 * y.1 * sg (qs x.2 y.2 + m) = 1 ∨ x.1 * y.1 * sg (qs x.2 y.2 + m) = -1
  rcases hx.pm with h1 | h1 <;> rcases hy.pm with h2 | h2 <;> rcases h with h3 | h3 <;> rw [h1, h2, h3] <;> decide
end Dl
set_option Elab.async false
set_option linter.all false
set_option maxRecDepth 100000
set_option maxHeartbeats 4000000
set_option autoImplicit false
namespace Dl
/-! ## maps of words that keep products; words put together of letters -/
/-! letters at one wire -/
def ln1 (n k c : Nat) : List Nat := List.replicate k 73 ++ [c] ++ List.replicate (n - k - 1) 73
def lones (n : Nat) : List Wp := (List.range n).flatMap fun k => [(1, ln1 n k 88), (1, ln1 n k 90)]
end Dl
set_option Elab.async false
set_option linter.all false
set_option maxRecDepth 100000
set_option maxHeartbeats 4000000
set_option autoImplicit false
namespace Cq
open PySem PySem.Spec PyProof.Rows L2 Dl
/-! ## words led back through fixed lines, by tables of letters -/
def hL (a : Nat) : List Nat := if a = 88 then [90] else if a = 90 then [88] else [a]
def hS (a : Nat) : Int := if a = 89 then -1 else 1
def czT : List (List Nat × List Nat × Int) := [([73, 73], [73, 73], 1), ([73, 88], [90, 88], 1), ([73, 89], [90, 89], 1), ([73, 90], [73, 90], 1), ([88, 73], [88, 90], 1), ([88, 88], [89, 89], 1), ([88, 89], [89, 88], -1), ([88, 90], [88, 73], 1), ([89, 73], [89, 90], 1), ([89, 88], [88, 89], -1), ([89, 89], [88, 88], 1), ([89, 90], [89, 73], 1), ([90, 73], [90, 73], 1), ([90, 88], [73, 88], 1), ([90, 89], [73, 89], 1), ([90, 90], [90, 90], 1)]
def cxT : List (List Nat × List Nat × Int) := [([73, 73], [73, 73], 1), ([73, 88], [73, 88], 1), ([73, 89], [90, 89], 1), ([73, 90], [90, 90], 1), ([88, 73], [88, 88], 1), ([88, 88], [88, 73], 1), ([88, 89], [89, 90], 1), ([88, 90], [89, 89], -1), ([89, 73], [89, 88], 1), ([89, 88], [89, 73], 1), ([89, 89], [88, 90], -1), ([89, 90], [88, 89], 1), ([90, 73], [90, 73], 1), ([90, 88], [90, 88], 1), ([90, 89], [73, 89], 1), ([90, 90], [73, 90], 1)]
def pT (T : List (List Nat × List Nat × Int)) (a b : Nat) : List Nat × Int := ((T.find? fun e => decide (e.1 = [a, b])).map (·.2)).getD ([73, 73], 1)
def exL (L ps u : List Nat) : List Nat := (ps.zip u).foldl (fun r p => r.set p.1 p.2) L
def at7 (L : List Nat) (i : Nat) : Nat := L.getD i 73
def abF (q : Bool) (s : Int) (A L : List Nat) : List Nat × Int := if qs A L % 2 = 0 then (L, 1) else if q = false then (L, -1) else (mk A L, sg (qs A L + 1) * s)
def prF (k a b : Nat) (L : List Nat) : List Nat × Int := if k = 0 then (exL L [a, b] (pT czT (at7 L a) (at7 L b)).1, (pT czT (at7 L a) (at7 L b)).2) else if k = 1 then (exL L [a, b] (pT cxT (at7 L a) (at7 L b)).1, (pT cxT (at7 L a) (at7 L b)).2) else (exL L [a, b] [at7 L b, at7 L a], 1)
def thr1 : Ln → List Nat → List Nat × Int
  | .h a, L => (exL L [a] (hL (at7 L a)), hS (at7 L a))
  | .ab q s A, L => abF q s A L
  | .pr k a b, L => prF k a b L
  | .tn _ _ _, L => (L, 1)
def thrX (l : Ln) (x : Wp) : Wp := (x.1 * (thr1 l x.2).2, (thr1 l x.2).1)
def thrF (ls : List Ln) (x : Wp) : Wp := ls.reverse.foldl (fun x l => thrX l x) x
def fixF (ls : List Ln) : List Ln := ls.filter fun l => !isT l
theorem at7_in {L : List Nat} (h : ∀ c ∈ L, c ∈ IXYZ) (i : Nat) : at7 L i ∈ IXYZ := by
  unfold at7
  rw [List.getD_eq_getElem?_getD]
  cases e : L[i]? with
  | none => show 73 ∈ IXYZ; decide
  | some c => exact h c (List.mem_of_getElem? e)
theorem hL_ok : ∀ a ∈ IXYZ, okL (hL a) ∧ (hS a = 1 ∨ hS a = -1) ∧ (hL a).length = 1 := by
  have : ∀ a ∈ IXYZ, (1 ≤ (hL a).length ∧ (hL a).length ≤ 4 ∧ ∀ c ∈ hL a, c ∈ IXYZ) ∧ (hS a = 1 ∨ hS a = -1) ∧ (hL a).length = 1 := by decide
  intro a ha
  obtain ⟨⟨q1, q2, q3⟩, h2, h3⟩ := this a ha
  exact ⟨⟨q1, q2, q3⟩, h2, h3⟩
theorem pT_ok : ∀ T ∈ [czT, cxT], ∀ a ∈ IXYZ, ∀ b ∈ IXYZ, okL (pT T a b).1 ∧ ((pT T a b).2 = 1 ∨ (pT T a b).2 = -1) ∧ (pT T a b).1.length = 2 := by
  have : ∀ T ∈ [czT, cxT], ∀ a ∈ IXYZ, ∀ b ∈ IXYZ, (1 ≤ (pT T a b).1.length ∧ (pT T a b).1.length ≤ 4 ∧ ∀ c ∈ (pT T a b).1, c ∈ IXYZ) ∧ ((pT T a b).2 = 1 ∨ (pT T a b).2 = -1) ∧ (pT T a b).1.length = 2 := by decide +kernel
  intro T hT a ha b hb
  obtain ⟨⟨q1, q2, q3⟩, h2, h3⟩ := this T hT a ha b hb
  exact ⟨⟨q1, q2, q3⟩, h2, h3⟩
theorem exL_len : ∀ (z : List (Nat × Nat)) (L : List Nat), (z.foldl (fun r p => r.set p.1 p.2) L).length = L.length
  | [], _ => rfl
  | p :: z, L => by rw [List.foldl_cons, exL_len z, List.length_set]
theorem exL_in : ∀ (z : List (Nat × Nat)) (L : List Nat), (∀ c ∈ L, c ∈ IXYZ) → (∀ p ∈ z, p.2 ∈ IXYZ) → ∀ c ∈ z.foldl (fun r p => r.set p.1 p.2) L, c ∈ IXYZ
  | [], _, h, _ => h
  | p :: z, L, h, k => by
    rw [List.foldl_cons]
    refine exL_in z _ (fun c hc => ?_) (fun q hq => k q (List.mem_cons_of_mem _ hq))
    rcases List.mem_or_eq_of_mem_set hc with hc | rfl
    · exact h c hc
    · exact k p List.mem_cons_self
theorem exL_ok {L ps u : List Nat} (h : okL L) (hu : ∀ c ∈ u, c ∈ IXYZ) : okL (exL L ps u) ∧ (exL L ps u).length = L.length := by
  have l := exL_len (ps.zip u) L
  refine ⟨⟨Nat.le_trans h.1 (Nat.le_of_eq l.symm), Nat.le_trans (Nat.le_of_eq l) h.four, exL_in _ _ h.all fun p hp => hu _ (List.of_mem_zip (show (p.1, p.2) ∈ ps.zip u from hp)).2⟩, l⟩
theorem thr1_ok {n : Nat} {l : Ln} {L : List Nat} (hl : okLn n l) (h : okL L) (e : L.length = n) : okL (thr1 l L).1 ∧ (thr1 l L).1.length = n ∧ ((thr1 l L).2 = 1 ∨ (thr1 l L).2 = -1) := by
  cases l with
  | h a =>
    obtain ⟨p1, p2, _⟩ := hL_ok _ (at7_in h.all a)
    obtain ⟨q1, q2⟩ := exL_ok (ps := [a]) h p1.all
    exact ⟨q1, q2.trans e, p2⟩
  | ab q s A =>
    have hA : okWd n s A := hl
    show okL (abF q s A L).1 ∧ (abF q s A L).1.length = n ∧ ((abF q s A L).2 = 1 ∨ (abF q s A L).2 = -1)
    unfold abF
    split
    · exact ⟨h, e, .inl rfl⟩
    · split
      · exact ⟨h, e, .inr rfl⟩
      · have hln : A.length = L.length := hA.len.trans e.symm
        have m := mk_ok hA.okL h hln
        refine ⟨m, (mk_len hln).trans hA.len, ?_⟩
        have h1 : sg (qs A L + 1) = 1 ∨ sg (qs A L + 1) = -1 := by unfold sg; split <;> simp
        show sg (qs A L + 1) * s = 1 ∨ sg (qs A L + 1) * s = -1
        rcases h1 with h1 | h1 <;> rcases hA.pm with h2 | h2 <;> rw [h1, h2] <;> decide
  | pr k a b =>
    have ha := at7_in h.all a
    have hb := at7_in h.all b
    show okL (prF k a b L).1 ∧ (prF k a b L).1.length = n ∧ ((prF k a b L).2 = 1 ∨ (prF k a b L).2 = -1)
    unfold prF
    split
    · obtain ⟨p1, p2, _⟩ := pT_ok czT (by simp) _ ha _ hb
      obtain ⟨q1, q2⟩ := exL_ok (ps := [a, b]) h p1.all
      exact ⟨q1, q2.trans e, p2⟩
    · split
      · obtain ⟨p1, p2, _⟩ := pT_ok cxT (by simp) _ ha _ hb
        obtain ⟨q1, q2⟩ := exL_ok (ps := [a, b]) h p1.all
        exact ⟨q1, q2.trans e, p2⟩
      · obtain ⟨q1, q2⟩ := exL_ok (ps := [a, b]) (u := [at7 L b, at7 L a]) h (fun c hc => by
          simp only [List.mem_cons, List.not_mem_nil, or_false] at hc
          rcases hc with rfl | rfl
          · exact hb
          · exact ha)
        exact ⟨q1, q2.trans e, .inl rfl⟩
  | tn s A ps => exact ⟨h, e, .inl rfl⟩
theorem pm_mul {s t : Int} (h : s = 1 ∨ s = -1) (k : t = 1 ∨ t = -1) : s * t = 1 ∨ s * t = -1 := by
  rcases h with rfl | rfl <;> rcases k with rfl | rfl <;> decide
theorem thrX_ok {n : Nat} {l : Ln} {x : Wp} (hl : okLn n l) (h : okX n x) : okX n (thrX l x) := by
  obtain ⟨a, b, c⟩ := thr1_ok hl h.ok h.len
  exact ⟨a, b, pm_mul h.pm c⟩
theorem thrF_ok {n : Nat} : ∀ {ls : List Ln} {x : Wp}, (∀ l ∈ ls, okLn n l) → okX n x → okX n (thrF ls x) := by
  intro ls x h hx
  unfold thrF
  have : ∀ (ms : List Ln) (x : Wp), (∀ l ∈ ms, okLn n l) → okX n x → okX n (ms.foldl (fun x l => thrX l x) x) := by
    intro ms
    induction ms with
    | nil => exact fun x _ h => h
    | cons l ms ih => exact fun x h k => ih _ (fun m hm => h m (List.mem_cons_of_mem _ hm)) (thrX_ok (h l List.mem_cons_self) k)
  exact this _ x (fun l hl => h l (List.mem_reverse.mp hl)) hx
end Cq
set_option Elab.async false
set_option linter.all false
set_option maxRecDepth 100000
set_option maxHeartbeats 4000000
set_option autoImplicit false
namespace Dl
open PySem PySem.Spec PyProof.Rows L2
section
variable {X : Cx} {N : En} {W : WX} {f : As} {body : List Stmt}
/-- a loop whose turns know their number -/
theorem loop_ix {T α : Type} {mu : T → List M} {nx : α → T → T} {gd : α → D} (I : Nat → T → Prop) (Δ : T → List (Option S) → Prop) : ∀ (l : List α) (m : Nat) (δ : List (Option S)) (t : T),
    (∀ i a, l[i]? = some a → ∀ t δ, Δ t δ → I (m + i) t → I (m + i + 1) (nx a t) ∧ ∃ δt δ1, f (gd a) δ = some δt ∧ DSs X N W δt (mu t) body (.nx δ1 (mu (nx a t))) ∧ Δ (nx a t) δ1) → Δ t δ → I m t →
    ∃ δ', Loop X N W f body (l.map gd) δ (mu t) (.nx δ' (mu (l.foldl (fun t a => nx a t) t))) ∧ Δ (l.foldl (fun t a => nx a t) t) δ' ∧ I (m + l.length) (l.foldl (fun t a => nx a t) t)
  | [], m, δ, t, _, h0, hi => ⟨δ, .nil, h0, hi⟩
  | a :: l, m, δ, t, h, h0, hi => by
    obtain ⟨h1, δt, δ1, h2, h3, h4⟩ := h 0 a rfl t δ h0 hi
    obtain ⟨δ', h5, h6, h7⟩ := loop_ix I Δ l (m + 1) δ1 (nx a t) (fun i b hb t δ hd hi => by
      have := h (i + 1) b (by simpa using hb) t δ hd (by rw [show m + (i + 1) = m + 1 + i by omega]; exact hi)
      rw [show m + (i + 1) = m + 1 + i by omega] at this
      exact this) h4 h1
    refine ⟨δ', .next h2 h3 h5, h6, ?_⟩
    rw [List.length_cons, show m + (l.length + 1) = m + 1 + l.length by omega]
    exact h7
end
end Dl
set_option Elab.async false
set_option linter.all false
set_option maxRecDepth 100000
set_option maxHeartbeats 4000000
set_option autoImplicit false
namespace Dl
open PySem PySem.Spec PyProof.Rows L2
/-! ## list(x), x a text: a list that changes -/
abbrev charV (c : Nat) : V := .str ⟨#[c]⟩
section
variable {X : Cx}
theorem vals_signs {z : Str} {acc : Array Value} (h : ItemsOf (SignAt z) acc z.cps.size) : Vals (z.cps.toList.map charV) acc.toList := by
  obtain ⟨h1, h2⟩ := h
  have key : ∀ (l : List Nat) (k : Nat) (vs : List Value), l.length = vs.length → (∀ (j : Nat) (v : Value), vs[j]? = some v → ∃ (c : Nat) (u : Tok), l[j]? = some c ∧ v = Value.str ⟨#[c]⟩ u) → Vals (l.map charV) vs := by
    intro l
    induction l with
    | nil =>
      intro k vs hl _
      cases vs with
      | nil => exact .nil
      | cons v vs => simp at hl
    | cons a l ih =>
      intro k vs hl h
      cases vs with
      | nil => simp at hl
      | cons v vs =>
        obtain ⟨c, u, e1, e2⟩ := h 0 v rfl
        have e1' : a = c := by simpa using e1
        subst e1' e2
        exact .cons ⟨u, rfl⟩ (ih k vs (by simpa using hl) fun j v hj => h (j + 1) v hj)
  refine key z.cps.toList 0 acc.toList (by simp [h1]) fun j v hj => ?_
  rw [Array.getElem?_toList] at hj
  obtain ⟨c, u, e1, e2⟩ := h2 j v hj
  exact ⟨c, u, by rw [Array.getElem?_toList]; exact e1, e2⟩
theorem call_listS (hc : X.calm = true) : CallR X (.type "list") (fun xs H Q => ∃ z, xs = [V.str z] ∧ z.cps.size ≤ sizeLine ∧ ∀ l, H l = none → Q (.ref l) (upd H l (.lst (z.cps.toList.map charV)))) := by
  intro pins s σ H xs us Q I r h
  obtain ⟨z, rfl, hz, q⟩ := h
  obtain ⟨u, rfl, t, rfl⟩ := vals1 r
  refine call_list_str (I.ok.hd hc) z t (fun h' tk acc' c' kp e it => ?_) hz
  have hv := vals_signs it
  exact ⟨.ref s.heap.objs.size, _, I.laid (t' := tk) kp (Nat.le_refl _) (show ObjOk X.prog X.w _ h' _ (.lst (z.cps.toList.map charV)) from ⟨by simpa using hz, acc'.toList, c', hv, by simpa using e⟩), rfl, q _ (I.hok.fresh (Nat.le_refl _))⟩
end
section
variable {X : Cx} {N : En} {W : WX} {n : Nat} {δ : List (Option S)} {μ μ1 : List M} {e : Expr} {pos p2 p3 p4 : Pos}
theorem reps_signs {K : PySem.W.Frag} {F : Hp} : ∀ l : List Nat, Reps K F (l.map charV) (l.map fun c => D.str ⟨#[c]⟩)
  | [] => .nil
  | _ :: l => .cons (.str _) (reps_signs l)
theorem c_listS (g : Go X N W n) {L : List Nat} (hl : L.length ≤ 1000) : CallOk X N W (.type "list") μ [.p (.str (st L))] (.v (.l μ.length)) (μ ++ [.lst (L.map fun c => .str ⟨#[c]⟩)]) :=
  ⟨_, call_listS g.calm, fun σ δ F A H vs Q R rv k => by
    obtain ⟨v, rfl, h⟩ := one_of rv
    cases (show Rep N.K F v (.str (st L)) from h)
    refine ⟨st L, rfl, by show L.toArray.size ≤ sizeLine; rw [List.size_toArray, sizeLine_eq]; omega, fun p np => ?_⟩
    have pp : A <+: A ++ [p] := List.prefix_append _ _
    have e : (st L).cps.toList = L := rfl
    rw [e]
    refine k (.ref p) _ (A ++ [p]) _ (Same.refl _) pp (R.to (Same.refl _) pp (R.rc.newM np ⟨_, upd_same, reps_signs L⟩)) ⟨p, rfl, ?_⟩
    rw [← R.rc.len]; simp⟩
theorem made_rev (a b : Nat) (t u : Tok) : sliceMade (st [a, b]) t none none (some (-1, u)) = Made.str ⟨#[b, a]⟩ := by
  have p : slicePicked (st [a, b]) none none (some (-1, u)) = [1, 0] := by
    show Builtin.Str.strSliceIndices none none (-1) 2 = [1, 0]
    decide +kernel
  unfold sliceMade
  rw [p]
  rfl
/-- ab[::-1], two letters -/
theorem pe_revS {te : TE} {tc : TO} {st_ : Expr} (he : PE X e te) (hc : PO X (some st_) tc) : PE X (.Subscript e (.Slice none none (some st_) p2) pos) (fun σ H Q => te σ H fun x H1 => tc σ H1 fun c H2 => ∃ a b, x = .str (st [a, b]) ∧ c = some (-1) ∧ Q (.str (st [b, a])) H2) := by
  refine ⟨fun pins s σ H Q I h => ?_⟩
  refine Subscript_ (thn (he.run pins s σ H _ I h) fun v s1 ⟨x, H1, I1, r1, q1⟩ => ?_)
  refine wpAny_Slice ?_
  rw [evalPart_none]; refine wpAny_pure ?_
  refine wpAny_pure ?_
  refine thn (hc.run pins s1 σ H1 _ I1 q1) fun vc s4 ⟨c, H4, I4, pc, q4⟩ => ?_
  have I5 : Inv X pins σ H4 { s4 with heap := s4.heap.push { cls := .type "slice", data := .fields #[.none, .none, vc] } } := I4.kept (t' := s4.toks) fun b ob q => Heap.get?_push_of_some _ q
  obtain ⟨a, b, rfl, rfl, q⟩ := q4
  obtain ⟨t, rfl⟩ := r1
  obtain ⟨l, rfl, hl⟩ := IsPart.raw pc
  cases l with
  | none => cases hl
  | some iu =>
    obtain ⟨i, u⟩ := iu
    have hl' : i = -1 := by simpa using hl
    subst hl'
    have z : wpAny (model X.prog X.w) X.A (getItem (.str (st [a, b]) t) (.ref s4.heap.objs.size)) (EP X pins σ Q) X.xe { s4 with heap := s4.heap.push { cls := .type "slice", data := .fields #[.none, .none, .int (-1) u] } } := by
      refine wpAny_getItem_str_slice (l := none) (u := none) (st := some (-1, u)) ⟨_, Heap.get?_push_size _ rfl, rfl, rfl⟩ rfl ?_
      rw [made_rev]
      exact ⟨by show 2 ≤ sizeLine; decide, .str (st [b, a]), H4, I5.tok _, ⟨_, rfl⟩, q⟩
    show wpAny (model X.prog X.w) X.A (subscriptTail e (.Slice none none (some st_) p2) (.str (st [a, b]) t) (.ref s4.heap.objs.size)) (EP X pins σ Q) X.xe { s4 with heap := s4.heap.push { cls := .type "slice", data := .fields #[.none, .none, .int (-1) u] } }
    exact tail_any (ops := [.ref s4.heap.objs.size, .str (st [a, b]) t]) (typeIs_str _ _ _) F.slot_str_getitem.lookup z (by with_unfolding_all rfl)
theorem de_revS {kk} {a b : Nat} (g : Go X N W n) (he : DE X N W δ μ e (.v (.p (.str (st [a, b])))) μ1) : DE X N W δ μ (.Subscript e (.Slice none none (some (.UnaryOp .USub (.Constant (.int 1) kk p3) p4)) p2) pos) (.v (.p (.str (st [b, a])))) μ1 :=
  PE.imp (pe_revS he (po_some (de_un (N := N) (W := W) (δ := δ) (μ := μ1) de_int u_neg))) fun σ H Q ⟨F, A, R, k⟩ => ⟨F, A, R, fun v F1 A1 H1 e1 a1 R1 rv => by
    cases (show Rep N.K F1 v (.str (st [a, b])) from rv)
    refine ⟨F1, A1, R1, fun z F2 A2 H2 e2 a2 R2 rz => ?_⟩
    cases (show Rep N.K F2 z (.int (-1)) from rz)
    exact ⟨-1, rfl, a, b, rfl, rfl, k _ F2 A2 H2 (e1.trans e2) (a1.trans a2) R2 (.str _)⟩⟩
end
end Dl
set_option Elab.async false
set_option linter.all false
set_option maxRecDepth 100000
set_option maxHeartbeats 4000000
set_option autoImplicit false
namespace Dl
open PySem PySem.Spec PyProof.Rows L2
/-! ## comprehensions over a list that changes, elements that change nothing -/
end Dl
set_option Elab.async false
set_option linter.all false
set_option maxRecDepth 100000
set_option maxHeartbeats 4000000
set_option autoImplicit false
namespace Dl
open PySem PySem.Spec PyProof.Rows L2
/-! ## ends of which one comes -/
def tDy (N : En) (W : WX) (δ : List (Option S)) (μ : List M) (O : Os → Prop) : TS := fun K σ H => ∃ F A, Rl N F A H σ δ μ ∧ ∀ o, O o → EndS N W F A K o
def Dy (X : Cx) (N : En) (W : WX) (δ : List (Option S)) (μ : List M) (st : Stmt) (O : Os → Prop) : Prop := PS X st (tDy N W δ μ O)
def Dys (X : Cx) (N : En) (W : WX) (δ : List (Option S)) (μ : List M) (sts : List Stmt) (O : Os → Prop) : Prop := PSs X sts (tDy N W δ μ O)
def isNx : Os → Prop
  | .nx _ _ => True
  | _ => False
section
variable {X : Cx} {N : En} {W : WX} {n : Nat} {δ δ1 : List (Option S)} {μ μ1 μ2 μ3 : List M} {e a b o c iter tg : Expr} {es : List Expr} {pos p p2 tpos : Pos} {ds : List D} {elts : List Expr} {kk : Nat} {d : D} {st : Stmt} {sts rest : List Stmt} {O O1 : Os → Prop} {o1 : Os} {m : M} {s : S}
theorem dy_of (h : DS X N W δ μ st o1) (ho : O o1) : Dy X N W δ μ st O := PS.imp h fun K σ H ⟨F, A, R, k⟩ => ⟨F, A, R, k o1 ho⟩
theorem dys_of (h : DSs X N W δ μ sts o1) (ho : O o1) : Dys X N W δ μ sts O := PSs.imp h fun K σ H ⟨F, A, R, k⟩ => ⟨F, A, R, k o1 ho⟩
theorem dys_nil (h : O (.nx δ μ)) : Dys X N W δ μ [] O := dys_of dss_nil h
theorem dys_cons (h : Dy X N W δ μ st O1) (hn : ∀ δ1 μ1, O1 (.nx δ1 μ1) → Dys X N W δ1 μ1 rest O) (ho : ∀ o, O1 o → ¬ isNx o → O o) : Dys X N W δ μ (st :: rest) O := by
  have hb : PSs X rest (fun K σ H => ∃ δt μt, O1 (.nx δt μt) ∧ tDy N W δt μt O K σ H) := ⟨fun p s σ H K I ⟨δt, μt, h1, q⟩ => (hn δt μt h1).run p s σ H K I q⟩
  refine PSs.imp (pss_cons h hb) fun K σ H ⟨F, A, R, k⟩ => ⟨F, A, R, fun o h1 => ?_⟩
  cases o with
  | nx δ1 μ1 => exact fun σ1 F1 A1 H1 e1 p1 R1 => ⟨δ1, μ1, h1, F1, A1, R1, fun o2 h2 => (k o2 h2).to e1 p1⟩
  | rt s μ1 => exact k _ (ho _ h1 id)
  | xx C d δ1 μ1 => exact k _ (ho _ h1 id)
  | bk δ1 μ1 => exact k _ (ho _ h1 id)
  | ct δ1 μ1 => exact k _ (ho _ h1 id)
/-- a statement of one end ahead -/
theorem dys_one (h : DS X N W δ μ st (.nx δ1 μ1)) (h' : Dys X N W δ1 μ1 rest O) : Dys X N W δ μ (st :: rest) O :=
  dys_cons (O1 := fun o => o = .nx δ1 μ1) (dy_of h rfl) (fun δ2 μ2 e => by cases e; exact h') (fun o e hn => by subst e; exact (hn trivial).elim)
/-! ## for, by what stays true -/
def YG (N : En) (F1 : Hp) (A1 : List Addr) (J : It) (ds : List D) (I : Nat → List (Option S) → List M → Prop) : Prop :=
  ∀ i H' F' A' σ' δ' μ', Same F1 F' → A1 <+: A' → Rl N F' A' H' σ' δ' μ' → I i δ' μ' → (i < ds.length → J.go i H' ∧ ∀ x H2, J.yld i H' x H2 → ∃ d, ds[i]? = some d ∧ ItemAt N.K F' H' x H2 d) ∧ (i = ds.length → J.stop i H')
def DIy (X : Cx) (N : En) (W : WX) (δ : List (Option S)) (μ : List M) (tg iter : Expr) (ds : List D) (μ1 : List M) (I : Nat → List (Option S) → List M → Prop) : Prop :=
  PI X tg iter (fun σ H Rk => ∃ F A, Rl N F A H σ δ μ ∧ ∀ J F' A' H', Same F F' → A <+: A' → Rl N F' A' H' σ δ μ1 → YG N F' A' J ds I → Rk J H')
theorem dy_for {body : List Stmt} {f : As} {ix : List Nat} {I : Nat → List (Option S) → List M → Prop} (g : Go X N W n) (hi : DIy X N W δ μ tg iter ds μ1 I) (hg : DG X N tg f ix) (h0 : I 0 δ μ1)
    (hl : ∀ i d, ds[i]? = some d → ∀ δ' μ', I i δ' μ' → ∃ δt, f d δ' = some δt ∧ Dys X N W δt μ' body (fun o => ∃ δ2 μ2, o = .nx δ2 μ2 ∧ I (i + 1) δ2 μ2)) (hs : ∀ x, foldedSetIterable iter X.env x = pure x := by intro _; rfl) :
    Dy X N W δ μ (.For tg iter body [] pos) (fun o => ∃ δ' μ', o = .nx δ' μ' ∧ I ds.length δ' μ') := by
  have hb : PSs X body (fun K σ H => ∃ δt μt O, Dys X N W δt μt body O ∧ tDy N W δt μt O K σ H) := ⟨fun p s σ H K I ⟨δt, μt, O, hd, q⟩ => hd.run p s σ H K I q⟩
  refine PS.imp (ps_for g.po g.calm hi hg hb hs) fun K σ H ⟨F, A, R, k⟩ => ⟨F, A, R, fun J F1 A1 H1 e1 p1 R1 y => ?_⟩
  refine ⟨fun i m σ' H' => i ≤ ds.length ∧ m = ds.length - i ∧ ∃ F' A' δ' μ', Same F1 F' ∧ A1 <+: A' ∧ Rl N F' A' H' σ' δ' μ' ∧ I i δ' μ', ⟨ds.length, Nat.zero_le _, by simp, F1, A1, δ, μ1, Same.refl _, List.prefix_refl _, R1, h0⟩, ?_⟩
  rintro i m σ' H' ⟨hi, rfl, F', A', δ', μ', e', p', R', hI⟩
  obtain ⟨y1, y2⟩ := y i H' F' A' σ' δ' μ' e' p' R' hI
  by_cases hlt : i < ds.length
  · obtain ⟨y3, y4⟩ := y1 hlt
    refine .inr ⟨y3, fun σ2 H2 => ∃ F2 A2 δ2 μ2, Same F1 F2 ∧ A1 <+: A2 ∧ Rl N F2 A2 H2 σ2 δ2 μ2 ∧ I (i + 1) δ2 μ2, fun σ2 H2 ⟨F2, A2, δ2, μ2, a, b, c, d⟩ => ⟨ds.length - (i + 1), by omega, hlt, rfl, F2, A2, δ2, μ2, a, b, c, d⟩, fun x H2 hy => ?_⟩
    obtain ⟨d, hd, it⟩ := y4 x H2 hy
    obtain ⟨F2, e2, R2, rx⟩ := R'.item it
    obtain ⟨δt, hf, hbd⟩ := hl i d hd δ' μ' hI
    exact ⟨F2, A', δ', μ', d, _, R2, rx, hf, fun σ3 _ R3 => ⟨_, _, _, hbd, F2, A', R3, fun o ⟨δ4, μ4, eo, hI4⟩ => by
      subst eo
      exact fun σ4 F4 A4 H4 e4 p4 R4 => ⟨F4, A4, δ4, μ4, (e'.trans e2).trans e4, p'.trans p4, R4, hI4⟩⟩⟩
  · have e : i = ds.length := by omega
    subst e
    exact .inl ⟨y2 rfl, ((k _ ⟨δ', μ', rfl, hI⟩).to (e1.trans e') (p1.trans p')) σ' F' A' H' (Same.refl _) (List.prefix_refl _) R'⟩
theorem yg_of {F : Hp} {A : List Addr} {J : It} {I : Nat → List (Option S) → List M → Prop} (y : Yl N.K J F ds) : YG N F A J ds I := fun i H' F' A' σ' δ' μ' e p R hI => by
  have y' := y.mono e
  exact ⟨fun hlt => ⟨y'.goes i H' hlt R.rc.sub, fun x H2 hy => y'.yields i H' x H2 hlt R.rc.sub hy⟩, fun e => by subst e; exact y'.stops H' R.rc.sub⟩
theorem diy_of {I : Nat → List (Option S) → List M → Prop} (h : DI X N W δ μ tg iter ds μ1) : DIy X N W δ μ tg iter ds μ1 I :=
  PI.imp h fun σ H Rk ⟨F, A, R, k⟩ => ⟨F, A, R, fun J F1 A1 H1 e1 p1 R1 y => k J F1 A1 H1 e1 p1 R1 (yg_of y)⟩
/-! ## what stands at a known place -/
theorem Rl.pin {F : Hp} {A : List Addr} {H : Hp} {σ : L2.St} {k : Nat} {b : Addr} (R : Rl N F A H σ δ μ) (h : μ[k]? = some m) (ha : A[k]? = some b) (ng : notGone m) : Rl N F A H σ δ (μ.set k (.pin b m)) := by
  have r := R.rc
  refine ⟨⟨r.sub, r.base, r.new, r.keep, r.pre, r.nd, by rw [List.length_set]; exact r.len, fun j a m' h1 h2 => ?_, fun j a m' h1 h2 h3 => ?_⟩, R.len, R.sl⟩
  · by_cases hj : k = j
    · subst hj
      rw [List.getElem?_set_self (List.getElem?_eq_some_iff.mp h).1] at h2
      cases h2
      rw [ha] at h1
      cases h1
      exact ⟨rfl, r.mus _ _ _ ha h⟩
    · rw [List.getElem?_set_ne hj] at h2
      exact r.mus _ _ _ h1 h2
  · by_cases hj : k = j
    · subst hj
      exact r.fr _ _ _ h1 h ng
    · rw [List.getElem?_set_ne hj] at h2
      exact r.fr _ _ _ h1 h2 h3
end
/-! ## a def by its body, with ends of which one comes -/
theorem fn_Dy {P : Program} {w : World} {K : PySem.W.Frag} {mg : Str → Option Value} {base : Heap} {x qual : Str} {st : Stmt} {f : Addr} {fd : FuncData} {Nn ps : List Str} {k : Nat} {R : Rel} (F : Fun K x qual st f fd) (Sc : FnScope Nn ps (defScope st)) (hlen : ∀ ss μ r μ', R ss μ r μ' → ss.length = ps.length)
    (body : ∀ (cdv : Value) (A : Around) (outer : List Env) (s : Shared) (H : Hp) (E : XK) (N : En) (W : WX) (ss : List S) (μ : List M) (r : Rx) (μ' : List M), Go (cxOf (L2.CX P w) P w K mg base Nn qual (defScope st) f cdv A outer s H E) N W k → N.A0.length = μ.length → R ss μ r μ' →
      Dys (cxOf (L2.CX P w) P w K mg base Nn qual (defScope st) f cdv A outer s H E) N W (starts Nn ss) μ (defBody st) (fun o => Fit μ.length o r μ')) :
    FnOk P w K mg base (L2.CX P w) (k + 1) f fd ps (spD K R) := by
  refine F.okX Sc (fun vs H Q E h => ?_) (fun cdv A outer s H vs Q E hr h => ?_)
  · obtain ⟨F0, A0, ss, μ, r, μ', hR, _, rv, _⟩ := h
    rw [rv.length]
    exact hlen _ _ _ _ hR
  · obtain ⟨F0, A0, ss, μ, r, μ', hR, rc, rv, hq⟩ := h
    have g : Go (cxOf (L2.CX P w) P w K mg base Nn qual (defScope st) f cdv A outer s H E) ⟨K, H, F0, A0⟩ (fun cls d _ H => E cls d H) k :=
      ⟨takes_of rfl rfl rfl rfl, rfl, rfl, hr, passes_of rfl, Sc.nd⟩
    have h0 : A0.length = μ.length := rc.len
    have hd := body cdv A outer s H E ⟨K, H, F0, A0⟩ _ ss μ r μ' g h0 hR
    refine ⟨_, hd, F0, A0, ⟨rc, (start_slots (N := ⟨K, H, F0, A0⟩) Nn rv).1, (start_slots (N := ⟨K, H, F0, A0⟩) Nn rv).2⟩, fun o fit => ?_⟩
    · cases fit with
      | rt => exact fun v F' A' H' e p rc' rv' => hq v F' A' H' rc' rv'
      | rtT hn => exact fun v F' A' H' e p rc' rv' => hq v F' _ H' (rc'.trim (by show A0.length ≤ _; omega)) rv'
      | nx => exact fun σ' F' A' H' e p R' => hq .non F' A' H' R'.rc .non
      | nxT hn => exact fun σ' F' A' H' e p R' => hq .non F' _ H' (R'.rc.trim (by show A0.length ≤ _; omega)) .non
      | xx => exact fun σ' dx v F' A' H' e p R' h1 h2 => hq dx v F' A' H' R'.rc h1 h2
      | xxT hn => exact fun σ' dx v F' A' H' e p R' h1 h2 => hq dx v F' _ H' (R'.rc.trim (by show A0.length ≤ _; omega)) h1 h2
end Dl
set_option Elab.async false
set_option linter.all false
set_option maxRecDepth 100000
set_option maxHeartbeats 4000000
set_option autoImplicit false
namespace K79
open PySem PySem.Spec PyProof.Rows L2 Dl Cq
/-! ### words led back through fixed lines, as the program does -/
theorem scPassBy : FnScope ["one", "other"] ["one", "other"] (defScope sPassBy) := ⟨rfl, rfl, rfl, by decide +kernel, rfl, by decide +kernel, by decide +kernel⟩
theorem scBentF : FnScope ["one", "other", "sign"] ["one", "other"] (defScope sBentF) := ⟨rfl, rfl, rfl, by decide +kernel, rfl, by decide +kernel, by decide +kernel⟩
theorem scLedThr : FnScope ["steps", "letters", "sign", "step", "made", "other"] ["steps", "letters", "sign"] (defScope sLedThr) := ⟨rfl, rfl, rfl, by decide +kernel, rfl, by decide +kernel, by decide +kernel⟩
theorem scThrOne : FnScope ["step", "letters", "name", "pair"] ["step", "letters"] (defScope sThrOne) := ⟨rfl, rfl, rfl, by decide +kernel, rfl, by decide +kernel, by decide +kernel⟩
theorem scThrAbout : FnScope ["step", "letters", "name", "about", "turned", "made", "sign"] ["step", "letters"] (defScope sThrAbout) := ⟨rfl, rfl, rfl, by decide +kernel, rfl, by decide +kernel, by decide +kernel⟩
theorem scExch : FnScope ["letters", "places", "text", "row", "place", "letter"] ["letters", "places", "text"] (defScope sExch) := ⟨rfl, rfl, rfl, by decide +kernel, rfl, by decide +kernel, by decide +kernel⟩
section
variable {X : Cx} {N : En} {W : WX} {f : As} {body : List Stmt}
theorem loop_fo {T α : Type} {mu : T → List M} {nx : α → T → T} {gd : α → D} (I : Nat → T → Prop) (Δ : T → List (Option S) → Prop) :
    ∀ (l : List α) (δ : List (Option S)) (t : T), (∀ a ∈ l, ∀ k t δ, Δ t δ → I (k + 1) t → I k (nx a t) ∧ ∃ δt δ1, f (gd a) δ = some δt ∧ DSs X N W δt (mu t) body (.nx δ1 (mu (nx a t))) ∧ Δ (nx a t) δ1) → Δ t δ → I l.length t →
      ∃ δ', Loop X N W f body (l.map gd) δ (mu t) (.nx δ' (mu (l.foldl (fun t a => nx a t) t))) ∧ Δ (l.foldl (fun t a => nx a t) t) δ' ∧ I 0 (l.foldl (fun t a => nx a t) t)
  | [], δ, t, _, h0, hi => ⟨δ, .nil, h0, hi⟩
  | a :: l, δ, t, h, h0, hi => by
    obtain ⟨h1, δt, δ1, h2, h3, h4⟩ := h a List.mem_cons_self l.length t δ h0 hi
    obtain ⟨δ', h5, h6, h7⟩ := loop_fo I Δ l δ1 (nx a t) (fun b hb => h b (List.mem_cons_of_mem _ hb)) h4 h1
    exact ⟨δ', .next h2 h3 h5, h6, h7⟩
theorem ds_to {δ δ' : List (Option S)} {μ μ1 μ2 : List M} {stm : Stmt} (h : DS X N W δ μ stm (.nx δ' μ1)) (q : μ1 = μ2) : DS X N W δ μ stm (.nx δ' μ2) := q ▸ h
end
abbrev chS (c : Nat) : D := .str ⟨#[c]⟩
def resD (x : List Nat × Int) : D := .tup [.str (st x.1), .int x.2]
structure TD (w : World) (K : PySem.W.Frag) (mg : Str → Option Value) (ha za xa : Addr) : Prop where
  mh : mg "H" = some (.ref ha)
  mz : mg "CZ" = some (.ref za)
  mx : mg "CX" = some (.ref xa)
  kh : ∃ es m, KDict K w ha es m
  kz : ∃ es m, KDict K w za es m
  kx : ∃ es m, KDict K w xa es m
  dh : ∀ a ∈ IXYZ, ∃ u, PySem.W.nsIn K ha (st [a]) = some (some u) ∧ RelV (.str (sgn (hL a) (hS a))) u
  dz : ∀ a ∈ IXYZ, ∀ b ∈ IXYZ, ∃ u, PySem.W.nsIn K za (st [a, b]) = some (some u) ∧ RelV (.str (sgn (pT czT a b).1 (pT czT a b).2)) u
  dx : ∀ a ∈ IXYZ, ∀ b ∈ IXYZ, ∃ u, PySem.W.nsIn K xa (st [a, b]) = some (some u) ∧ RelV (.str (sgn (pT cxT a b).1 (pT cxT a b).2)) u
def rPassBy : Rel := fun ss μ r μ' => ∃ (A B : List Nat), okL A ∧ okL B ∧ A.length = B.length ∧ ss = [.p (.str (st A)), .p (.str (st B))] ∧ r = .v (.p (.bl (decide (qs A B % 2 = 0)))) ∧ μ' = μ
def rBentF : Rel := fun ss μ r μ' => ∃ (A B : List Nat), okL A ∧ okL B ∧ A.length = B.length ∧ ss = [.p (.str (st A)), .p (.str (st B))] ∧ r = .v (.p (resD (mk A B, sg (qs A B + 1)))) ∧ μ' = μ
def rExch : Rel := fun ss μ r μ' => ∃ (L ps u : List Nat) (s : Int), okL L ∧ okL u ∧ pm s ∧ ps.length ≤ 2 ∧ (∀ p ∈ ps, p < L.length) ∧ ss = [.p (.str (st L)), .p (.tup (ps.map inD)), .p (.str (sgn u s))] ∧ r = .v (.p (resD (exL L ps u, s))) ∧ μ' = μ
def rThrAbout : Rel := fun ss μ r μ' => ∃ (n : Nat) (q : Bool) (s : Int) (A L : List Nat), okWd n s A ∧ okL L ∧ L.length = n ∧ ss = [.p (stpD (.ab q s A)), .p (.str (st L))] ∧ r = .v (.p (resD (abF q s A L))) ∧ μ' = μ
def rThrOne : Rel := fun ss μ r μ' => ∃ (n : Nat) (l : Ln) (L : List Nat), okLn n l ∧ isT l = false ∧ okL L ∧ L.length = n ∧ ss = [.p (stpD l), .p (.str (st L))] ∧ r = .v (.p (resD (thr1 l L))) ∧ μ' = μ
def rLedThr : Rel := fun ss μ r μ' => ∃ (n : Nat) (ls : List Ln) (x : Wp), (∀ l ∈ ls, okLn n l ∧ isT l = false) ∧ ls.length ≤ 100 ∧ okX n x ∧ ss = [.p (.lst (ls.map stpD)), .p (.str (st x.2)), .p (.int x.1)] ∧ r = .v (.p (resD ((thrF ls x).2, (thrF ls x).1))) ∧ μ' = μ
section
variable {P : Program} {w : World} {K : PySem.W.Frag} {mg : Str → Option Value} {base : Heap} {qa ta ha za xa f C : Addr} {fd : FuncData}
theorem ok_passby (F : Fun K "pass_by" "pass_by" sPassBy f fd) (cq : Cf P w K mg base 1 "quarters" [] rQuarters) : FnOk P w K mg base (L2.CX P w) 2 f fd ["one", "other"] (spD K rPassBy) := by
  refine fn_D (k := 1) F scPassBy (fun ss μ r μ' h => by obtain ⟨_, _, _, _, _, rfl, _⟩ := h; rfl) ?_
  intro cdv A0 outer s0 H E N W ss μ r μ' g hA hR
  obtain ⟨A, B, hLA, hLB, hl, rfl, rfl, rfl⟩ := hR
  exact ⟨_, dss_ret (de_cmp (de_bin (de_call g cq (da_cons (de_var 0) (da_cons (de_var 1) da_nil)) ⟨A, B, hLA, hLB, hl, rfl, rfl, rfl⟩) de_int (o_mod (by decide))) de_int o_eqI), .rt⟩
theorem ok_bentf (F : Fun K "bent" "bent" sBentF f fd) (cq : Cf P w K mg base 1 "quarters" [] rQuarters) (cm : Cf P w K mg base 2 "made_letters" [] rMade) : FnOk P w K mg base (L2.CX P w) 3 f fd ["one", "other"] (spD K rBentF) := by
  refine fn_D (k := 2) F scBentF (fun ss μ r μ' h => by obtain ⟨_, _, _, _, _, rfl, _⟩ := h; rfl) ?_
  intro cdv A0 outer s0 H E N W ss μ r μ' g hA hR
  obtain ⟨A, B, hLA, hLB, hl, rfl, rfl, rfl⟩ := hR
  refine ⟨_, dss_cons (ds_set 2 (de_if (r := .v (.p (.int (sg (qs A B + 1))))) (k := decide ((qs A B + 1) % 4 = 0)) (dt_cmp (de_bin (de_bin (de_call g cq (da_cons (de_var 0) (da_cons (de_var 1) da_nil)) ⟨A, B, hLA, hLB, hl, rfl, rfl, rfl⟩) de_int o_add) de_int (o_mod (by decide))) de_int o_eqI) (fun h => de_of de_int (congrArg D.int ?_)) (fun h => de_of (de_un de_int u_neg) (congrArg D.int ?_))) g.nd) (cn
    (dss_ret (de_tup (dp_cons (de_call g cm (da_cons (de_var 0) (da_cons (de_var 1) da_nil)) ⟨A, B, hLA, hLB, hl, rfl, rfl, rfl⟩) (dp_cons (de_var 2) dp_nil))))), .rt⟩
  · unfold sg; rw [if_pos (of_decide_eq_true h)]
  · unfold sg; rw [if_neg (of_decide_eq_false h)]
theorem zip_tup (ps u : List Nat) : (ps.map inD).zipWith (fun a b => D.tup [a, b]) (chars (st u)) = (ps.zip u).map fun p => .tup [inD p.1, chS p.2] := by
  rw [chars_st, List.zipWith_map, List.zip, List.map_zipWith]
theorem sgn_len {u : List Nat} (h : okL u) (s : Int) : (sgn u s).length ≤ sizeLine := by
  have h4 := h.four
  unfold sgn
  rw [st_len]
  split
  · exact size4 (by rw [List.length_cons]; omega)
  · exact size4 (by omega)
theorem ok_exch (F : Fun K "_exchanged" "_exchanged" sExch f fd) (T : TM mg) : FnOk P w K mg base (L2.CX P w) 1 f fd ["letters", "places", "text"] (spD K rExch) := by
  refine fn_D (k := 0) F scExch (fun ss μ r μ' h => by obtain ⟨_, _, _, _, _, _, _, _, _, rfl, _⟩ := h; rfl) ?_
  intro cdv A0 outer s0 H E N W ss μ r μ' g hA hR
  obtain ⟨L, ps, u, s, hL, hu, hs, hp2, hps, rfl, rfl, rfl⟩ := hR
  have h4 := hL.four
  obtain ⟨δ', hlo, ⟨x4, x5, rfl⟩, hI⟩ := loop_fo (X := cxOf (L2.CX P w) P w K mg base ["letters", "places", "text", "row", "place", "letter"] "_exchanged" (defScope sExch) f cdv A0 outer s0 H E) (N := N) (W := W) (f := asTup [asName 4, asName 5]) (body := bodyOf sExch 1) (T := List Nat) (mu := fun t => μ' ++ [.lst (t.map chS)]) (nx := fun p t => t.set p.1 p.2) (gd := fun p : Nat × Nat => D.tup [inD p.1, chS p.2])
    (fun _ t => t.length = L.length) (fun t δ => ∃ x4 x5, δ = [some (.p (.str (st L))), some (.p (.tup (ps.map inD))), some (.p (.str (sgn u s))), some (.l μ'.length), x4, x5]) (ps.zip u) [some (.p (.str (st L))), some (.p (.tup (ps.map inD))), some (.p (.str (sgn u s))), some (.l μ'.length), none, none] L
    (fun p hp k t δ hδ hI => by
      obtain ⟨x4, x5, rfl⟩ := hδ
      have hlt : p.1 < t.length := by rw [hI]; exact hps _ (List.of_mem_zip (show (p.1, p.2) ∈ ps.zip u from hp)).1
      refine ⟨by rw [List.length_set]; exact hI, _, _, rfl, dss_cons (ds_to (ds_setM (k := p.1) (de_var 5) (de_var 3) (de_var 4) (end_at rfl) ?_) (by rw [end_set rfl, ← List.map_set])) (cn dss_nil), _, _, rfl⟩
      unfold ixN
      rw [List.length_map]
      simp
      omega) ⟨_, _, rfl⟩ rfl
  have e2 : (μ' ++ [M.lst ((exL L ps u).map chS)]).set μ'.length .gone = μ' ++ [.gone] := end_set rfl
  have hle : (exL L ps u).length = L.length := exL_len _ _
  refine ⟨_, dss_cons (ds_set 3 (de_callT (T := "list") (da_cons (de_var 0) da_nil) (c_listS g (by omega)) T.list (by decide +kernel)) g.nd) (cn (dss_cons (ds_for g (di_of (di_zip g (da_cons (de_var 1) (da_cons (de_of (d' := .str (st u)) (de_bm PySem.F.plainAttrs_str PySem.F.slot_str_removeprefix PySem.F.type_str_removeprefix (de_var 2) (da_cons de_str da_nil) (m_removeprefix (sgn_len hu s))) (congrArg D.str (sgn_prefix hu))) da_nil)) (.tup _) (.str _) T.zip) (zip_tup ps u)) (dg_tup (dgs_cons (dg_name 4 g.nd) (dgs_cons (dg_name 5 g.nd) dgs_nil)) g.hK g.calm) hlo) (cn
    (dss_freeze (j := μ'.length) (ds := (exL L ps u).map chS) (end_at rfl) (by omega) 3 rfl (Eq.mp (congrArg (fun ν => DSs _ N W _ ν _ _) e2.symm) (dss_ret (de_tup (dp_cons (de_of (d' := .str (st (exL L ps u))) (de_bm PySem.F.plainAttrs_str PySem.F.slot_str_join PySem.F.type_str_join de_str (da_cons (de_var 3) da_nil) (m_joinm (l := exL L ps u) (q := fun c => c) (by rw [hle]; omega))) (by rw [List.map_id'] <;> rfl))
      (dp_cons (de_if (r := .v (.p (.int s))) (k := decide (s < 0)) (dt_of (dt_val (de_bm PySem.F.plainAttrs_str PySem.F.slot_str_startswith PySem.F.type_str_startswith (de_var 2) (da_cons de_str da_nil) m_startswith)) (sgn_starts hu)) (fun h => de_of (de_un de_int u_neg) (congrArg D.int ?_)) (fun h => de_of de_int (congrArg D.int ?_))) dp_nil))))))))), ?_⟩
  · rcases hs with rfl | rfl
    · simp at h
    · rfl
  · rcases hs with rfl | rfl
    · rfl
    · simp at h
  · have e : (μ' ++ [M.gone]).take μ'.length = μ' := List.take_left ..
    conv => rhs; rw [← e, ← e2]
    exact .rtT (Nat.le_refl _)
theorem ok_thrabout (F : Fun K "_through_about" "_through_about" sThrAbout f fd) (cp : Cf P w K mg base 2 "pass_by" [] rPassBy) (cb : Cf P w K mg base 3 "bent" [] rBentF) : FnOk P w K mg base (L2.CX P w) 4 f fd ["step", "letters"] (spD K rThrAbout) := by
  refine fn_D (k := 3) F scThrAbout (fun ss μ r μ' h => by obtain ⟨_, _, _, _, _, _, _, _, rfl, _⟩ := h; rfl) ?_
  intro cdv A0 outer s0 H E N W ss μ r μ' g hA hR
  obtain ⟨n, q, s, A, L, hA0, hL, hl, rfl, rfl, rfl⟩ := hR
  have hln : A.length = L.length := hA0.len.trans hl.symm
  have d0 : DS (cxOf (L2.CX P w) P w K mg base ["step", "letters", "name", "about", "turned", "made", "sign"] "_through_about" (defScope sThrAbout) f cdv A0 outer s0 H E) N W (starts ["step", "letters", "name", "about", "turned", "made", "sign"] [.p (stpD (.ab q s A)), .p (.str (st L))]) μ' ((defBody sThrAbout).getD 0 (.Pass ⟨0, 0, 0, 0⟩)) (.nx [some (.p (stpD (.ab q s A))), some (.p (.str (st L))), some (.p (.str (st (if q then wQuarter else wFlip)))), some (.p (.str (st A))), some (.p (.int s)), none, none] μ') :=
    ds_asg (de_var 0) (dg_tup (dgs_cons (dg_name 2 g.nd) (dgs_cons (dg_name 3 g.nd) (dgs_cons (dg_name 4 g.nd) dgs_nil))) g.hK g.calm) rfl
  by_cases h1 : qs A L % 2 = 0
  · rw [show abF q s A L = (L, 1) from if_pos h1]
    exact ⟨_, dss_cons d0 (cn (dss_ifT (dt_of (dt_val (de_call g cp (da_cons (de_var 3) (da_cons (de_var 1) da_nil)) ⟨A, L, hA0.okL, hL, hln, rfl, rfl, rfl⟩)) (decide_eq_true h1)) (dss_ret (de_tup (dp_cons (de_var 1) (dp_cons de_int dp_nil)))) cr)), .rt⟩
  · cases q with
    | false =>
      rw [show abF false s A L = (L, -1) from by unfold abF; rw [if_neg h1, if_pos rfl]]
      exact ⟨_, dss_cons d0 (cn (dss_skip (dt_of (dt_val (de_call g cp (da_cons (de_var 3) (da_cons (de_var 1) da_nil)) ⟨A, L, hA0.okL, hL, hln, rfl, rfl, rfl⟩)) (decide_eq_false h1)) (dss_ifT (dt_of (dt_cmp (de_var 2) de_str o_eqS) (by decide)) (dss_ret (de_tup (dp_cons (de_var 1) (dp_cons (de_un de_int u_neg) dp_nil)))) cr))), .rt⟩
    | true =>
      rw [show abF true s A L = (mk A L, sg (qs A L + 1) * s) from by unfold abF; rw [if_neg h1, if_neg (by decide)]]
      have d3 : DS (cxOf (L2.CX P w) P w K mg base ["step", "letters", "name", "about", "turned", "made", "sign"] "_through_about" (defScope sThrAbout) f cdv A0 outer s0 H E) N W [some (.p (stpD (.ab true s A))), some (.p (.str (st L))), some (.p (.str (st wQuarter))), some (.p (.str (st A))), some (.p (.int s)), none, none] μ' ((defBody sThrAbout).getD 3 (.Pass ⟨0, 0, 0, 0⟩)) (.nx [some (.p (stpD (.ab true s A))), some (.p (.str (st L))), some (.p (.str (st wQuarter))), some (.p (.str (st A))), some (.p (.int s)), some (.p (.str (st (mk A L)))), some (.p (.int (sg (qs A L + 1))))] μ') :=
        ds_asg (de_call g cb (da_cons (de_var 3) (da_cons (de_var 1) da_nil)) ⟨A, L, hA0.okL, hL, hln, rfl, rfl, rfl⟩) (dg_tup (dgs_cons (dg_name 5 g.nd) (dgs_cons (dg_name 6 g.nd) dgs_nil)) g.hK g.calm) rfl
      have sm : -(2 ^ 64) < sg (qs A L + 1) ∧ sg (qs A L + 1) < 2 ^ 64 := by unfold sg; split <;> decide
      exact ⟨_, dss_cons d0 (cn (dss_skip (dt_of (dt_val (de_call g cp (da_cons (de_var 3) (da_cons (de_var 1) da_nil)) ⟨A, L, hA0.okL, hL, hln, rfl, rfl, rfl⟩)) (decide_eq_false h1)) (dss_skip (dt_of (dt_cmp (de_var 2) de_str o_eqS) (by decide)) (dss_cons d3 (cn (dss_ret (de_tup (dp_cons (de_var 5) (dp_cons (de_bin (de_var 6) (de_var 4) (o_mul (.inl sm))) dp_nil))))))))), .rt⟩
end
end K79
set_option Elab.async false
set_option linter.all false
set_option maxRecDepth 100000
set_option maxHeartbeats 4000000
set_option autoImplicit false
namespace K79F
open PySem PySem.Spec PyProof.Rows L2 Dl Cq
def top (i : Nat) : Stmt := PySem.Challenge.pw_looseknobs_k79_tables_by_hand.main.body.getD i (.Pass ⟨0, 0, 0, 0⟩)
abbrev sName : Stmt := top 18
abbrev sAsc : Stmt := top 20
abbrev sMerged : Stmt := top 21
abbrev sInit : Stmt := inClass (top 27) 0
abbrev sAre : Stmt := top 30
abbrev sReadC : Stmt := top 45
abbrev sReadL : Stmt := top 46
abbrev sIsTurn : Stmt := top 47
abbrev sAbout : Stmt := top 48
abbrev sTurn : Stmt := top 49
abbrev sIsAbout : Stmt := top 50
abbrev sWires : Stmt := top 51
abbrev sCInit : Stmt := inClass (top 53) 0
abbrev sCText : Stmt := inClass (top 53) 1
abbrev sCLen : Stmt := inClass (top 53) 3
abbrev sJoined : Stmt := top 55
abbrev sFitting : Stmt := top 56
abbrev sTurns : Stmt := top 57
abbrev sIsWhole : Stmt := top 17
abbrev sCPut : Stmt := inClass (top 53) 9
theorem scMerged : FnScope ["runs", "one", "other", "found", "at", "by"] ["runs"] (defScope sMerged) := ⟨rfl, rfl, rfl, by decide +kernel, rfl, by decide +kernel, by decide +kernel⟩
theorem scAsc : FnScope ["rows", "row", "runs", "at", "run"] ["rows"] (defScope sAsc) := ⟨rfl, rfl, rfl, by decide +kernel, rfl, by decide +kernel, by decide +kernel⟩
theorem scName : FnScope ["value", "letter"] ["value"] (defScope sName) := ⟨rfl, rfl, rfl, by decide +kernel, rfl, by decide +kernel, by decide +kernel⟩
theorem scAre : FnScope ["text", "letter"] ["text"] (defScope sAre) := ⟨rfl, rfl, rfl, by decide +kernel, rfl, by decide +kernel, by decide +kernel⟩
theorem scInit : FnScope ["self", "text", "letters"] ["self", "text"] (defScope sInit) := ⟨rfl, rfl, rfl, by decide +kernel, rfl, by decide +kernel, by decide +kernel⟩
structure TM (mg : Str → Option Value) : Prop where
  len : mg "len" = none
  int : mg "int" = none
  abs : mg "abs" = none
  max : mg "max" = none
  min : mg "min" = none
  range : mg "range" = none
  list : mg "list" = none
  all : mg "all" = none
  isinstance : mg "isinstance" = none
  str : mg "str" = none
  tuple : mg "tuple" = none
  enum : mg "enumerate" = none
  zip : mg "zip" = none
  set : mg "set" = none
  repr : mg "repr" = none
end K79F
set_option Elab.async false
set_option linter.all false
set_option maxRecDepth 100000
set_option maxHeartbeats 4000000
set_option autoImplicit false
namespace K79F
open PySem PySem.Spec PyProof.Rows L2 Dl Cq
/-! ### what is compared by < and == -/
structure KdOk (T : Type) [DecidableEq T] (toD : T → D) (le : T → T → Bool) (ok : T → Prop) : Prop where
  l : ∀ {X : Cx} {N : En} {W : WX} {n : Nat} {μ : List M}, Go X N W n → ∀ p q : T, OpOk X N W (compareOp .Lt) μ (.p (toD p)) (.p (toD q)) (.v (.p (.bl (le p q)))) μ
  e : ∀ {X : Cx} {N : En} {W : WX} {n : Nat} {μ : List M}, Go X N W n → ∀ p q : T, ok p → ok q → OpOk X N W (compareOp .Eq) μ (.p (toD p)) (.p (toD q)) (.v (.p (.bl (decide (p = q))))) μ
theorem pair_py (p : Str × Int) : PyD (pairD p) (.tuple [.str p.1, .int p.2]) := .tup (.cons (.str _) (.cons (.int _) .nil))
theorem pair_eqv (p q : Str × Int) : PyData.eqv (.tuple [.str p.1, .int p.2]) (.tuple [.str q.1, .int q.2]) = decide (p = q) := by
  obtain ⟨a, b⟩ := p
  obtain ⟨c, d⟩ := q
  simp [PyData.eqv, PyData.eqvAll, Bool.beq_eq_decide_eq, Prod.ext_iff]
def okS (_ : Str) : Prop := True
def okP (p : Str × Int) : Prop := PyData.strOk p.1 = true
theorem pair_shaped {p : Str × Int} (h : okP p) : SeqAt.shaped (.tuple [.str p.1, .int p.2]) = true := by
  unfold SeqAt.shaped
  have e1 : (PyData.tuple [.str p.1, .int p.2]).canLay0 = true := by
    rw [PyData.canLay0]
    simp only [PyData.canLayAll0, PyData.canLay0, Bool.and_true]
    exact h
  rw [e1]
  rfl
theorem kd_str : KdOk Str D.str sltB okS := ⟨fun _ _ _ => o_ltS, fun _ _ _ _ _ => o_eqS⟩
theorem kd_pair : KdOk (Str × Int) pairD pltB okP := ⟨fun g _ _ => o_ltP g, fun g p q h1 h2 => o_eqD g (pair_py p) (pair_py q) (pair_shaped h1) (pair_shaped h2) (pair_eqv p q)⟩
def mRel {T : Type} [DecidableEq T] (toD : T → D) (le : T → T → Bool) (ok : T → Prop) : Rel := fun ss μ r μ' => μ' = μ ∧
  ((∃ xs : List T, ss = [.p (.lst [.lst (xs.map toD)])] ∧ r = .v (.p (.lst (xs.map toD)))) ∨
   ∃ xs ys : List T, (∀ x ∈ xs, ok x) ∧ (∀ x ∈ ys, ok x) ∧ xs.length ≤ 100 ∧ ys.length ≤ 100 ∧ ss = [.p (.lst [.lst (xs.map toD), .lst (ys.map toD)])] ∧ r = .v (.p (.lst ((mrg le xs ys).map toD))))
def rMerged : Rel := fun ss μ r μ' => mRel D.str sltB okS ss μ r μ' ∨ mRel pairD pltB okP ss μ r μ'
def aRel {T : Type} [DecidableEq T] (toD : T → D) (le : T → T → Bool) (ok : T → Prop) : Rel := fun ss μ r μ' => μ' = μ ∧ ∃ xs : List T, (∀ x ∈ xs, ok x) ∧ xs.length ≤ 50 ∧ ss = [.p (.lst (xs.map toD))] ∧ r = .v (.p (.tup ((ascF le xs).map toD)))
def rAsc : Rel := fun ss μ r μ' => aRel D.str sltB okS ss μ r μ' ∨ aRel pairD pltB okP ss μ r μ'
theorem end_at {μ : List M} {a : M} {k : Nat} (h : μ.length = k) : (μ ++ [a])[k]? = some a := by
  subst h
  rw [List.getElem?_append_right (Nat.le_refl _), Nat.sub_self]
  rfl
theorem end_set {μ : List M} {a b : M} {k : Nat} (h : μ.length = k) : (μ ++ [a]).set k b = μ ++ [b] := by
  subst h
  rw [List.set_append_right _ _ (Nat.le_refl _)]
  simp
theorem sz {n : Nat} (h : n ≤ 100000) : n ≤ sizeLine := by rw [sizeLine_eq]; omega
theorem sz' {n : Nat} (h : n ≤ 100000) : n < sizeLine := by rw [sizeLine_eq]; omega
def whB (s : Stmt) (i : Nat) : List Stmt := match (defBody s).getD i (.Pass ⟨0, 0, 0, 0⟩) with
  | .While _ b _ _ => b
  | _ => []
def whC (s : Stmt) (i : Nat) : Expr := match (defBody s).getD i (.Pass ⟨0, 0, 0, 0⟩) with
  | .While c _ _ _ => c
  | _ => .Constant .none 0 ⟨0, 0, 0, 0⟩
theorem atm {T : Type} {toD : T → D} {xs : List T} {a : Nat} (h : a < xs.length) : atI (xs.map toD) (a : Int) = some (toD xs[a]) := atI_nat (by rw [List.getElem?_map, List.getElem?_eq_getElem h]; rfl)
theorem dropA {T : Type} {xs : List T} {a : Nat} (h : a < xs.length) : xs.drop a = xs[a] :: xs.drop (a + 1) := List.drop_eq_getElem_cons h
theorem mrg_nil {T : Type} [DecidableEq T] {le : T → T → Bool} (xs : List T) : mrg le xs [] = xs := by
  cases xs <;> unfold mrg <;> rfl
theorem mrg_nil' {T : Type} [DecidableEq T] {le : T → T → Bool} (xs : List T) : mrg le [] xs = xs := by unfold mrg; rfl
section
variable {P : Program} {w : World} {K : PySem.W.Frag} {mg : Str → Option Value} {base : Heap} {f C : Addr} {fd : FuncData}
abbrev dM (T1 : Type) (toD : T1 → D) (xs ys : List T1) (j a b : Nat) : List (Option S) := [some (.p (.lst [.lst (xs.map toD), .lst (ys.map toD)])), some (.p (.lst (xs.map toD))), some (.p (.lst (ys.map toD))), some (.l j), some (.p (.int (a : Nat))), some (.p (.int (b : Nat)))]
theorem mer_loop {T1 : Type} [DecidableEq T1] {toD : T1 → D} {le : T1 → T1 → Bool} {ok : T1 → Prop} (kd : KdOk T1 toD le ok) (T : TM mg) {cdv : Value} {A0 : Around} {outer : List Env} {s0 : Shared} {H : Hp} {E : XK} {N : En} {W : WX} {μ : List M} (g : Go (cxOf (L2.CX P w) P w K mg base ["runs", "one", "other", "found", "at", "by"] "_merged" (defScope sMerged) f cdv A0 outer s0 H E) N W 0) (xs ys : List T1) (ox : ∀ x ∈ xs, ok x) (oy : ∀ x ∈ ys, ok x) (lx : xs.length ≤ 100) (ly : ys.length ≤ 100) :
    ∀ (m a b : Nat) (acc : List T1), (xs.length - a) + (ys.length - b) ≤ m → a ≤ xs.length → b ≤ ys.length → acc.length ≤ a + b → ∃ q a' b' acc', Wl (cxOf (L2.CX P w) P w K mg base ["runs", "one", "other", "found", "at", "by"] "_merged" (defScope sMerged) f cdv A0 outer s0 H E) N W (whC sMerged 5) (whB sMerged 5) q (dM T1 toD xs ys μ.length a b) (μ ++ [.lst (acc.map toD)]) (.nx (dM T1 toD xs ys μ.length a' b') (μ ++ [.lst (acc'.map toD)])) ∧ a' ≤ xs.length ∧ b' ≤ ys.length ∧ acc'.length ≤ a' + b' ∧ acc' ++ xs.drop a' ++ ys.drop b' = acc ++ mrg le (xs.drop a) (ys.drop b) := by
  intro m
  induction m with
  | zero =>
    intro a b acc hm ha hb hl
    refine ⟨0, a, b, acc, .stop ?_, ha, hb, hl, ?_⟩
    · exact dt_w (k := false) (dw_and (k := false) (k' := true) (dt_of (dt_cmp (de_var 4) (de_callB (id := "len") (da_cons (de_var 1) da_nil) (c_lenL g) T.len (by decide +kernel)) o_lt) (decide_eq_false (by rw [List.length_map]; omega))) (fun h => by cases h))
    · rw [List.drop_of_length_le (show xs.length ≤ a by omega), List.drop_of_length_le (show ys.length ≤ b by omega), mrg_nil]
      simp
  | succ m ih =>
    intro a b acc hm ha hb hl
    by_cases h1 : a < xs.length
    case neg =>
      refine ⟨0, a, b, acc, .stop ?_, ha, hb, hl, ?_⟩
      · exact dt_w (k := false) (dw_and (k := false) (k' := true) (dt_of (dt_cmp (de_var 4) (de_callB (id := "len") (da_cons (de_var 1) da_nil) (c_lenL g) T.len (by decide +kernel)) o_lt) (decide_eq_false (by rw [List.length_map]; omega))) (fun h => by cases h))
      · rw [List.drop_of_length_le (show xs.length ≤ a by omega), mrg_nil']
        simp
    by_cases h2 : b < ys.length
    case neg =>
      refine ⟨0, a, b, acc, .stop ?_, ha, hb, hl, ?_⟩
      · exact dt_w (k := false) (dw_and (k := true) (k' := false) (dt_of (dt_cmp (de_var 4) (de_callB (id := "len") (da_cons (de_var 1) da_nil) (c_lenL g) T.len (by decide +kernel)) o_lt) (decide_eq_true (by rw [List.length_map]; omega))) (fun h => dw_and1 (dt_of (dt_cmp (de_var 5) (de_callB (id := "len") (da_cons (de_var 2) da_nil) (c_lenL g) T.len (by decide +kernel)) o_lt) (decide_eq_false (by rw [List.length_map]; omega)))))
      · rw [List.drop_of_length_le (show ys.length ≤ b by omega), mrg_nil]
        simp
    have cond : ∀ ν, DT (cxOf (L2.CX P w) P w K mg base ["runs", "one", "other", "found", "at", "by"] "_merged" (defScope sMerged) f cdv A0 outer s0 H E) N W (dM T1 toD xs ys μ.length a b) ν (whC sMerged 5) true ν := fun ν => dt_w (k := true) (dw_and (k := true) (k' := true) (dt_of (dt_cmp (de_var 4) (de_callB (id := "len") (da_cons (de_var 1) da_nil) (c_lenL g) T.len (by decide +kernel)) o_lt) (decide_eq_true (by rw [List.length_map]; omega))) (fun h => dw_and1 (dt_of (dt_cmp (de_var 5) (de_callB (id := "len") (da_cons (de_var 2) da_nil) (c_lenL g) T.len (by decide +kernel)) o_lt) (decide_eq_true (by rw [List.length_map]; omega)))))
    have e1 : ((a : Int) + 1) = ((a + 1 : Nat) : Int) := by omega
    have e2 : ((b : Int) + 1) = ((b + 1 : Nat) : Int) := by omega
    have app : ∀ z : T1, μ ++ [M.lst ((acc ++ [z]).map toD)] = (μ ++ [M.lst (acc.map toD)]).set μ.length (.lst (acc.map toD ++ [toD z])) := fun z => by rw [end_set rfl, List.map_append]; rfl
    rw [dropA h1, dropA h2]
    unfold mrg
    cases hc : le xs[a] ys[b] with
    | true =>
      obtain ⟨q, a', b', acc', w1, w2, w3, w4, w5⟩ := ih (a + 1) b (acc ++ [xs[a]]) (by omega) h1 hb (by rw [List.length_append]; simp; omega)
      refine ⟨q + 1, a', b', acc', .turn (cond _) (dss_ifT (dt_of (dt_cmp (de_ix (de_var 1) (de_var 4) (i_lst g (atm h1))) (de_ix (de_var 2) (de_var 5) (i_lst g (atm h2))) (kd.l g _ _)) hc) (dss_cons (ds_expr (de_bm PySem.F.plainAttrs_list PySem.F.slot_list_append PySem.F.type_list_append (de_var 3) (da_cons (de_ix (de_var 1) (de_var 4) (i_lst g (atm h1))) da_nil) (m_append (end_at rfl) (end_at rfl) (by rw [List.length_map]; exact sz' (by omega))))) (cn (dss_cons (ds_inc 4 de_int rfl g.nd) (cn dss_nil)))) (cn dss_nil)) (by rw [e1, ← app]; exact w1), w2, w3, w4, ?_⟩
      rw [w5, if_pos rfl, dropA h2]
      simp
    | false =>
      by_cases he : xs[a] = ys[b]
      · obtain ⟨q, a', b', acc', w1, w2, w3, w4, w5⟩ := ih (a + 1) (b + 1) (acc ++ [ys[b]]) (by omega) h1 h2 (by rw [List.length_append]; simp; omega)
        refine ⟨q + 1, a', b', acc', .turn (cond _) (dss_ifF (dt_of (dt_cmp (de_ix (de_var 1) (de_var 4) (i_lst g (atm h1))) (de_ix (de_var 2) (de_var 5) (i_lst g (atm h2))) (kd.l g _ _)) hc) (dss_ifT (dt_of (dt_cmp (de_ix (de_var 1) (de_var 4) (i_lst g (atm h1))) (de_ix (de_var 2) (de_var 5) (i_lst g (atm h2))) (kd.e g _ _ (ox _ (List.getElem_mem h1)) (oy _ (List.getElem_mem h2)))) (decide_eq_true he)) (dss_cons (ds_inc 4 de_int rfl g.nd) (cn dss_nil)) (cn (dss_cons (ds_expr (de_bm PySem.F.plainAttrs_list PySem.F.slot_list_append PySem.F.type_list_append (de_var 3) (da_cons (de_ix (de_var 2) (de_var 5) (i_lst g (atm h2))) da_nil) (m_append (end_at rfl) (end_at rfl) (by rw [List.length_map]; exact sz' (by omega))))) (cn (dss_cons (ds_inc 5 de_int rfl g.nd) (cn dss_nil)))))) (cn dss_nil)) (by rw [e1, e2, ← app]; exact w1), w2, w3, w4, ?_⟩
        rw [w5, if_neg (by simp), if_pos he]
        simp
      · obtain ⟨q, a', b', acc', w1, w2, w3, w4, w5⟩ := ih a (b + 1) (acc ++ [ys[b]]) (by omega) ha h2 (by rw [List.length_append]; simp; omega)
        refine ⟨q + 1, a', b', acc', .turn (cond _) (dss_ifF (dt_of (dt_cmp (de_ix (de_var 1) (de_var 4) (i_lst g (atm h1))) (de_ix (de_var 2) (de_var 5) (i_lst g (atm h2))) (kd.l g _ _)) hc) (dss_skip (dt_of (dt_cmp (de_ix (de_var 1) (de_var 4) (i_lst g (atm h1))) (de_ix (de_var 2) (de_var 5) (i_lst g (atm h2))) (kd.e g _ _ (ox _ (List.getElem_mem h1)) (oy _ (List.getElem_mem h2)))) (decide_eq_false he)) (dss_cons (ds_expr (de_bm PySem.F.plainAttrs_list PySem.F.slot_list_append PySem.F.type_list_append (de_var 3) (da_cons (de_ix (de_var 2) (de_var 5) (i_lst g (atm h2))) da_nil) (m_append (end_at rfl) (end_at rfl) (by rw [List.length_map]; exact sz' (by omega))))) (cn (dss_cons (ds_inc 5 de_int rfl g.nd) (cn dss_nil))))) (cn dss_nil)) (by rw [e2, ← app]; exact w1), w2, w3, w4, ?_⟩
        rw [w5, if_neg (by simp), if_neg he, dropA h1]
        simp
theorem mer_body {T1 : Type} [DecidableEq T1] {toD : T1 → D} {le : T1 → T1 → Bool} {ok : T1 → Prop} (kd : KdOk T1 toD le ok) (T : TM mg) {cdv : Value} {A0 : Around} {outer : List Env} {s0 : Shared} {H : Hp} {E : XK} {N : En} {W : WX} {ss : List S} {μ μ' : List M} {r : Rx} (g : Go (cxOf (L2.CX P w) P w K mg base ["runs", "one", "other", "found", "at", "by"] "_merged" (defScope sMerged) f cdv A0 outer s0 H E) N W 0) (hA : N.A0.length = μ.length) (hR : mRel toD le ok ss μ r μ') : ∃ o, DSs (cxOf (L2.CX P w) P w K mg base ["runs", "one", "other", "found", "at", "by"] "_merged" (defScope sMerged) f cdv A0 outer s0 H E) N W (starts ["runs", "one", "other", "found", "at", "by"] ss) μ (defBody sMerged) o ∧ Fit μ.length o r μ' := by
  obtain ⟨rfl, (⟨xs, rfl, rfl⟩ | ⟨xs, ys, ox, oy, lx, ly, rfl, rfl⟩)⟩ := hR
  · exact ⟨_, (dss_ifT (dt_of (dt_cmp (de_callB (id := "len") (da_cons (de_var 0) da_nil) (c_lenL g) T.len (by decide +kernel)) de_int o_eqI) rfl) (dss_ret (de_ix (de_var 0) de_int (i_lst g rfl))) cr), .rt⟩
  · obtain ⟨q, a', b', acc, w1, w2, w3, w4, w5⟩ := mer_loop (μ := μ') kd T g xs ys ox oy lx ly (xs.length + ys.length) 0 0 [] (by omega) (Nat.zero_le _) (Nat.zero_le _) (Nat.le_refl _)
    refine ⟨_, dss_skip (dt_of (dt_cmp (de_callB (id := "len") (da_cons (de_var 0) da_nil) (c_lenL g) T.len (by decide +kernel)) de_int o_eqI) rfl) (dss_cons (ds_asg (de_var 0) (dg_lst (dgs_cons (dg_name 1 g.nd) (dgs_cons (dg_name 2 g.nd) dgs_nil)) g.hK g.calm) rfl) (cn (dss_cons (ds_set 3 (de_lstM dp_nil) g.nd) (cn (dss_cons (ds_set 4 de_int g.nd) (cn (dss_cons (ds_set 5 de_int g.nd) (cn (dss_cons (ds_while g (by exact w1)) (cn
      (dss_freeze (end_at rfl) (by omega) 3 rfl (dss_ret (de_of (d' := .lst ((mrg le xs ys).map toD)) (de_lst (dp_star (de_var 3) (dp_star (de_cutLf g (de_var 1) (de_var 4)) (dp_star (de_cutLf g (de_var 2) (de_var 5)) dp_nil g.hK) g.hK) g.hK) ?hl) ?hd))))))))))))), ?_⟩
    case hl =>
      rw [cutX_from, cutX_from, List.append_nil]
      simp only [List.length_append, List.length_map, List.length_drop]
      exact sz (by omega)
    case hd =>
      rw [cutX_from, cutX_from, List.append_nil, ← List.map_drop, ← List.map_drop, ← List.map_append, ← List.map_append, ← List.append_assoc, w5]
      rfl
    rw [end_set rfl]
    have e2 : (μ' ++ [M.gone]).take μ'.length = μ' := by simp
    conv => rhs; rw [← e2]
    exact .rtT (Nat.le_refl _)
theorem ok_merged (F : Fun K "_merged" "_merged" sMerged f fd) (T : TM mg) : FnOk P w K mg base (L2.CX P w) 1 f fd ["runs"] (spD K rMerged) := by
  refine fn_D (k := 0) F scMerged (fun ss μ r μ' h => by obtain (⟨_, (⟨_, rfl, _⟩ | ⟨_, _, _, _, _, _, rfl, _⟩)⟩ | ⟨_, (⟨_, rfl, _⟩ | ⟨_, _, _, _, _, _, rfl, _⟩)⟩) := h <;> rfl) ?_
  intro cdv A0 outer s0 H E N W ss μ r μ' g hA hR
  rcases hR with hR | hR
  · exact mer_body kd_str T g hA hR
  · exact mer_body kd_pair T g hA hR
end
end K79F
set_option Elab.async false
set_option linter.all false
set_option maxRecDepth 100000
set_option maxHeartbeats 4000000
set_option autoImplicit false
namespace K79F
open PySem PySem.Spec PyProof.Rows L2 Dl Cq
theorem pairUp_at {T1 : Type} [DecidableEq T1] (le : T1 → T1 → Bool) : ∀ (rs : List (List T1)) (i : Nat), i < (rs.length + 1) / 2 → (∃ a, a ∈ rs ∧ (rs.drop (2 * i)).take 2 = [a] ∧ (pairUp le rs).getD i [] = a) ∨ (∃ a b, a ∈ rs ∧ b ∈ rs ∧ (rs.drop (2 * i)).take 2 = [a, b] ∧ (pairUp le rs).getD i [] = mrg le a b)
  | [], i, h => by simp at h
  | [a], i, h => by
    have : i = 0 := by simp at h; omega
    subst this
    exact .inl ⟨a, by simp, rfl, rfl⟩
  | a :: b :: r, 0, _ => .inr ⟨a, b, by simp, by simp, rfl, rfl⟩
  | a :: b :: r, i + 1, h => by
    have h' : i < (r.length + 1) / 2 := by simp at h; omega
    have e : (a :: b :: r).drop (2 * (i + 1)) = r.drop (2 * i) := by
      rw [show 2 * (i + 1) = 2 * i + 2 by omega]
      rfl
    rw [e]
    rcases pairUp_at le r i h' with ⟨x, h1, h2, h3⟩ | ⟨x, y, h1, h2, h3, h4⟩
    · exact .inl ⟨x, by simp [h1], h2, h3⟩
    · exact .inr ⟨x, y, by simp [h1], by simp [h2], h3, h4⟩
abbrev lsD {T1 : Type} (toD : T1 → D) (rs : List (List T1)) : List D := rs.map fun r => .lst (r.map toD)
theorem range_getD {α β : Type} (q : α → β) (d : α) (l : List α) : (List.range l.length).map (fun i => q (l.getD i d)) = l.map q := by
  apply List.ext_getElem?
  intro i
  rw [List.getElem?_map, List.getElem?_map]
  by_cases h : i < l.length
  · rw [List.getElem?_range h, List.getElem?_eq_getElem h]
    simp [List.getD, h]
  · rw [List.getElem?_eq_none (by simpa using h), List.getElem?_eq_none (by omega)]
    rfl
def esL : D → List D
  | .lst l => l
  | _ => []
theorem flat_ls {T1 : Type} (toD : T1 → D) : ∀ rs : List (List T1), flat2 (fun _ => true) esL (fun _ e => e) (lsD toD rs) = rs.flatten.map toD
  | [] => rfl
  | a :: r => by
    show (esL (.lst (a.map toD))).map (fun e => e) ++ flat2 (fun _ => true) esL (fun _ e => e) (lsD toD r) = _
    rw [flat_ls toD r, List.flatten_cons, List.map_append, List.map_id']
    rfl
theorem rg_two {n : Nat} (h : n ≤ 50) : RgC 0 (n : Int) 2 ((n + 1) / 2) := by
  have hs : Builtin.Range.rangeSize 0 (n : Int) 2 = (((n + 1) / 2 : Nat) : Int) := by
    unfold Builtin.Range.rangeSize
    rw [if_pos (by decide)]
    split <;> omega
  refine ⟨by decide, by decide, ?_, hs⟩
  unfold Builtin.Range.small
  rw [hs]
  have h2 : (n : Int) ≤ 50 := by omega
  have h0 : (0 : Int) ≤ n := by omega
  have h3 : (((n + 1) / 2 : Nat) : Int) ≤ 50 := by omega
  have h4 : (0 : Int) ≤ (((n + 1) / 2 : Nat) : Int) := by omega
  generalize (((n + 1) / 2 : Nat) : Int) = k at h3 h4
  generalize (n : Int) = m at h2 h0
  simp only [Builtin.Range.rangeFitsLong, Bool.and_eq_true, Bool.or_eq_true, decide_eq_true_eq, beq_iff_eq, show ((2 : Int) > 0) by decide, if_true]
  omega
theorem mem_flat_le {α : Type} {a : List α} : ∀ {rs : List (List α)}, a ∈ rs → a.length ≤ rs.flatten.length
  | [], h => by cases h
  | x :: r, h => by
    rw [List.flatten_cons, List.length_append]
    rcases List.mem_cons.mp h with rfl | h
    · omega
    · have := mem_flat_le h
      omega
section
variable {P : Program} {w : World} {K : PySem.W.Frag} {mg : Str → Option Value} {base : Heap} {f C : Addr} {fd : FuncData}
theorem asc_loop {T1 : Type} [DecidableEq T1] {toD : T1 → D} {le : T1 → T1 → Bool} {ok : T1 → Prop} (T : TM mg) (cm : Cf P w K mg base 1 "_merged" [] rMerged) (emb : ∀ ss μ r μ', mRel toD le ok ss μ r μ' → rMerged ss μ r μ') {cdv : Value} {A0 : Around} {outer : List Env} {s0 : Shared} {H : Hp} {E : XK} {N : En} {W : WX} {μ : List M} (g : Go (cxOf (L2.CX P w) P w K mg base ["rows", "row", "runs", "at", "run"] "ascending" (defScope sAsc) f cdv A0 outer s0 H E) N W 1) (d0 : D) :
    ∀ (m : Nat) (rs : List (List T1)), rs.length ≤ m → rs.length ≤ 50 → rs.flatten.length ≤ 50 → (∀ x ∈ rs.flatten, ok x) → ∃ q, Wl (cxOf (L2.CX P w) P w K mg base ["rows", "row", "runs", "at", "run"] "ascending" (defScope sAsc) f cdv A0 outer s0 H E) N W (whC sAsc 1) (whB sAsc 1) q [some (.p d0), none, some (.p (.lst (lsD toD rs))), none, none] μ (.nx [some (.p d0), none, some (.p (.lst (lsD toD (ascR le rs)))), none, none] μ) := by
  intro m
  induction m with
  | zero =>
    intro rs h0 h1 h2 h3
    have e : ascR le rs = rs := by unfold ascR; rw [dif_neg (by omega)]
    rw [e]
    exact ⟨0, .stop (dt_of (dt_cmp (de_callB (id := "len") (da_cons (de_var 2) da_nil) (c_lenL g) T.len (by decide +kernel)) de_int o_gt) (decide_eq_false (by rw [List.length_map]; omega)))⟩
  | succ m ih =>
    intro rs h0 h1 h2 h3
    by_cases hl : 1 < rs.length
    case neg =>
      have e : ascR le rs = rs := by unfold ascR; rw [dif_neg hl]
      rw [e]
      exact ⟨0, .stop (dt_of (dt_cmp (de_callB (id := "len") (da_cons (de_var 2) da_nil) (c_lenL g) T.len (by decide +kernel)) de_int o_gt) (decide_eq_false (by rw [List.length_map]; omega)))⟩
    have e : ascR le rs = ascR le (pairUp le rs) := by conv => lhs; unfold ascR; rw [dif_pos hl]
    have hp := pairUp_len le rs
    have hs := pairUp_sum le rs
    obtain ⟨q, hq⟩ := ih (pairUp le rs) (by omega) (by omega) (by omega) (fun x hx => h3 x ((mem_pairUp le x rs).mp hx))
    rw [e]
    refine ⟨q + 1, .turn (dt_of (dt_cmp (de_callB (id := "len") (da_cons (de_var 2) da_nil) (c_lenL g) T.len (by decide +kernel)) de_int o_gt) (decide_eq_true (by rw [List.length_map]; omega))) (dss_cons (ds_set 2 (de_lc g [("at", 3)] (di_range3 (m := (rs.length + 1) / 2) (da_cons de_int (da_cons (de_callB (id := "len") (da_cons (de_var 2) da_nil) (c_lenL g) T.len (by decide +kernel)) (da_cons de_int da_nil))) T.range ?rg) (fun s H C cl fp => dg_name 3 g.nd) (of_maps (l := List.range ((rs.length + 1) / 2)) (gd := fun i => D.int (0 + ((i : Nat) : Int) * 2)) (fy := fun i => .lst (((pairUp le rs).getD i []).map toD)) ?el) (ok := blkOk_by (by rfl)) (hds := ?hds)) g.nd) (cn dss_nil)) ?fin⟩
    case rg =>
      rw [List.length_map]
      exact rg_two h1
    case hds =>
      show (List.map _ (List.range ((rs.length + 1) / 2))).length < _
      rw [List.length_map, List.length_range]
      exact sz' (by omega)
    case fin =>
      rw [← hp, range_getD (fun r => D.lst (r.map toD)) []]
      exact hq
    case el =>
      intro i hi
      have hi : i < (rs.length + 1) / 2 := List.mem_range.mp hi
      refine ⟨_, rfl, fun s H C cl fp N' hK g' => de_call g' cm (da_cons (de_cutLm g' (de_var 2) (de_var 3) (de_bin (de_var 3) de_int o_add)) da_nil) (emb _ _ _ _ ⟨rfl, ?_⟩)⟩
      have ec : cutX (lsD toD rs) (some (0 + (i : Int) * 2)) (some (0 + (i : Int) * 2 + 2)) = lsD toD ((rs.drop (2 * i)).take 2) := by
        rw [show (0 + (i : Int) * 2) = ((2 * i : Nat) : Int) by omega, show (((2 * i : Nat) : Int) + 2) = ((2 * i + 2 : Nat) : Int) by omega, cutX_mid, show 2 * i + 2 - 2 * i = 2 by omega]
        simp only [lsD, List.map_take, List.map_drop]
      show (∃ xs : List T1, [S.p (D.lst (cutX (lsD toD rs) (some (0 + (i : Int) * 2)) (some (0 + (i : Int) * 2 + 2))))] ++ [] = _ ∧ _) ∨ _
      rcases pairUp_at le rs i hi with ⟨a, m1, h4, h5⟩ | ⟨a, b, m1, m2, h4, h5⟩
      · exact .inl ⟨a, by rw [ec, h4]; rfl, by rw [h5]⟩
      · refine .inr ⟨a, b, fun x hx => h3 x (List.mem_flatten.mpr ⟨a, m1, hx⟩), fun x hx => h3 x (List.mem_flatten.mpr ⟨b, m2, hx⟩), ?_, ?_, ?_, by rw [h5]⟩
        · have := mem_flat_le m1
          omega
        · have := mem_flat_le m2
          omega
        · show [S.p (D.lst (cutX (lsD toD rs) (some (0 + (i : Int) * 2)) (some (0 + (i : Int) * 2 + 2))))] ++ [] = _
          rw [ec, h4]
          rfl
theorem asc_body {T1 : Type} [DecidableEq T1] {toD : T1 → D} {le : T1 → T1 → Bool} {ok : T1 → Prop} (T : TM mg) (cm : Cf P w K mg base 1 "_merged" [] rMerged) (emb : ∀ ss μ r μ', mRel toD le ok ss μ r μ' → rMerged ss μ r μ') {cdv : Value} {A0 : Around} {outer : List Env} {s0 : Shared} {H : Hp} {E : XK} {N : En} {W : WX} {ss : List S} {μ μ' : List M} {r : Rx} (g : Go (cxOf (L2.CX P w) P w K mg base ["rows", "row", "runs", "at", "run"] "ascending" (defScope sAsc) f cdv A0 outer s0 H E) N W 1) (hA : N.A0.length = μ.length) (hR : aRel toD le ok ss μ r μ') : ∃ o, DSs (cxOf (L2.CX P w) P w K mg base ["rows", "row", "runs", "at", "run"] "ascending" (defScope sAsc) f cdv A0 outer s0 H E) N W (starts ["rows", "row", "runs", "at", "run"] ss) μ (defBody sAsc) o ∧ Fit μ.length o r μ' := by
  obtain ⟨rfl, xs, hl, ho, rfl, rfl⟩ := hR
  have hfl : (xs.map fun x => [x]).flatten = xs := by
    clear hl ho
    induction xs with
    | nil => rfl
    | cons x xs ih => rw [List.map_cons, List.flatten_cons, ih]; rfl
  obtain ⟨q, w1⟩ := asc_loop (le := le) (μ := μ') T cm emb g (.lst (xs.map toD)) xs.length (xs.map fun x => [x]) (by simp) (by simp; exact ho) (by rw [hfl]; exact ho) (by rw [hfl]; exact hl)
  refine ⟨_, dss_cons (ds_set 2 (de_lc g [("row", 1)] (di_lst g (de_var 0)) (fun s H C cl fp => dg_name 1 g.nd) (of_maps (gd := toD) (fy := fun x => .lst [toD x]) fun x hx => ⟨_, rfl, fun s H C cl fp N' hK g' => de_lst (dp_cons (de_var 1) dp_nil) (sz (by show 1 ≤ 100000; decide))⟩) (ok := blkOk_by (by rfl)) (hds := by rw [List.length_map]; exact sz' (by omega))) g.nd) (cn
    (dss_cons (ds_while g (by
      have e : (xs.map fun x => D.lst [toD x]) = lsD toD (xs.map fun x => [x]) := by simp [lsD, List.map_map, Function.comp_def]
      rw [e]
      exact w1)) (cn
    (dss_ret (de_of (d' := .tup ((ascF le xs).map toD)) (de_callT (T := "tuple") (da_cons (de_lc2 esL (fun _ e => e) g [("run", 4), ("row", 1)] [1] (di_lst g (de_var 2)) (fun s H C cl fp => dg_name 4 g.nd) (fun s H C cl fp => dg_name 1 g.nd) ?hf ?hz (ok := blkOk_by (by rfl))) da_nil) c_tupL T.tuple (by decide +kernel)) ?hd))))), .rt⟩
  case hf =>
    intro d hd
    obtain ⟨a, ha, rfl⟩ := List.mem_map.mp hd
    exact ⟨_, rfl, fun s H C cl fp N' hK g' => di_lst g' (de_var 4), fun e he => ⟨_, rfl, fun s H C cl fp N' hK g' => de_var 1⟩⟩
  case hz =>
    rw [flat_ls, List.length_map]
    have := ascF_len le xs
    exact sz (by unfold ascF at this; omega)
  case hd =>
    rw [flat_ls]
    rfl
theorem ok_asc (F : Fun K "ascending" "ascending" sAsc f fd) (T : TM mg) (cm : Cf P w K mg base 1 "_merged" [] rMerged) : FnOk P w K mg base (L2.CX P w) 2 f fd ["rows"] (spD K rAsc) := by
  refine fn_D (k := 1) F scAsc (fun ss μ r μ' h => by obtain (⟨_, _, _, _, rfl, _⟩ | ⟨_, _, _, _, rfl, _⟩) := h <;> rfl) ?_
  intro cdv A0 outer s0 H E N W ss μ r μ' g hA hR
  rcases hR with hR | hR
  · exact asc_body T cm (fun _ _ _ _ h => .inl h) g hA hR
  · exact asc_body T cm (fun _ _ _ _ h => .inr h) g hA hR
end
end K79F
set_option Elab.async false
set_option linter.all false
set_option maxRecDepth 100000
set_option maxHeartbeats 4000000
set_option autoImplicit false
namespace K79F
open PySem PySem.Spec PyProof.Rows L2 Dl Cq
theorem scIsTurn : FnScope ["step"] ["step"] (defScope sIsTurn) := ⟨rfl, rfl, rfl, by decide +kernel, rfl, by decide +kernel, by decide +kernel⟩
theorem scIsAbout : FnScope ["text", "wires", "letters"] ["text", "wires"] (defScope sIsAbout) := ⟨rfl, rfl, rfl, by decide +kernel, rfl, by decide +kernel, by decide +kernel⟩
theorem scWires : FnScope ["texts", "wires", "text"] ["texts", "wires"] (defScope sWires) := ⟨rfl, rfl, rfl, by decide +kernel, rfl, by decide +kernel, by decide +kernel⟩
theorem scAbout : FnScope ["name", "rest", "wires", "word"] ["name", "rest", "wires"] (defScope sAbout) := ⟨rfl, rfl, rfl, by decide +kernel, rfl, by decide +kernel, by decide +kernel⟩
def AZ : List Nat := [97, 98, 99, 100, 101, 102, 103, 104, 105, 106, 107, 108, 109, 110, 111, 112, 113, 114, 115, 116, 117, 118, 119, 120, 121, 122]
theorem mem_AZ {c : Nat} (h : 97 ≤ c ∧ c ≤ 122) : c ∈ AZ := by
  unfold AZ
  simp only [List.mem_cons, List.not_mem_nil, or_false]
  omega
/-- a tuple of texts among the module's own -/
def TupK (K : PySem.W.Frag) (a : Addr) (zs : List Str) : Prop := ∃ (o : Obj) (its : Array Value) (n : Nat), K.lookup a = some o ∧ o.cls = .type "tuple" ∧ o.data = .seq its n ∧ its.size ≤ sizeLine ∧ Vals (zs.map V.str) its.toList
def DicK (w : World) (K : PySem.W.Frag) (a : Addr) : Prop := ∃ es m, KDict K w a es m
structure TG (w : World) (K : PySem.W.Frag) (mg : Str → Option Value) (aS aT aW aA aP : Addr) : Prop where
  lets : ∃ u, mg "LETTERS" = some u ∧ RelV (.str (st IXYZ)) u
  most : ∃ u, mg "MOST_WIRES" = some u ∧ RelV (.int 4) u
  nml : ∃ u, mg "NAME_LETTERS" = some u ∧ RelV (.str (st AZ)) u
  lnm : ∃ u, mg "LONGEST_NAME" = some u ∧ RelV (.int 8) u
  mln : ∃ u, mg "MOST_LINES" = some u ∧ RelV (.int 40) u
  mtn : ∃ u, mg "MOST_TURNS" = some u ∧ RelV (.int 6) u
  mkn : ∃ u, mg "MOST_KNOBS" = some u ∧ RelV (.int 3) u
  gS : mg "SIZES" = some (.ref aS)
  gT : mg "TIMES" = some (.ref aT)
  gW : mg "WIRES" = some (.ref aW)
  gA : mg "ABOUT" = some (.ref aA)
  gP : mg "PAIRS" = some (.ref aP)
  kS : DicK w K aS
  kT : DicK w K aT
  nS : ∀ n, 1 ≤ n → n ≤ 4 → ∃ u, PySem.W.nsIn K aS (st (wT n)) = some (some u) ∧ RelV (.int (n : Nat)) u
  nT : ∀ i ∈ manys, ∃ u, PySem.W.nsIn K aT (st (mt i)) = some (some u) ∧ RelV (.int i) u
  tW : TupK K aW [st [48], st [49], st [50], st [51]]
  tA : TupK K aA [st wFlip, st wQuarter]
  tP : TupK K aP [st (pn 0), st (pn 1), st (pn 2)]
theorem reps_strs {K : PySem.W.Frag} {F : Hp} : ∀ zs : List Str, Reps K F (zs.map V.str) (zs.map D.str)
  | [] => .nil
  | z :: zs => .cons (.str z) (reps_strs zs)
theorem TupK.sq {K : PySem.W.Frag} {a : Addr} {zs : List Str} (h : TupK K a zs) : ∀ H, ∃ vs, SqT K H a vs ∧ ∀ F, Reps K F vs (zs.map D.str) := fun H => by
  obtain ⟨o, its, n, h1, h2, h3, h4, h5⟩ := h
  exact ⟨_, .inr ⟨o, its, n, h1, h2, h3, h4, h5⟩, fun F => reps_strs zs⟩
def rName : Rel := fun ss μ r μ' => ∃ k, okNm k ∧ ss = [.p (.str (st k))] ∧ r = .v (.p (.bl true)) ∧ μ' = μ
def rAre : Rel := fun ss μ r μ' => ∃ L, okL L ∧ ss = [.p (.str (st L))] ∧ r = .v (.p (.bl true)) ∧ μ' = μ
def rIsTurn : Rel := fun ss μ r μ' => ∃ l, ss = [.p (stpD l)] ∧ r = .v (.p (.bl (isT l))) ∧ μ' = μ
def rIsAbout : Rel := fun ss μ r μ' => ∃ w s L, w ≤ 4 ∧ okWd w s L ∧ ss = [.p (.str (st (sgL L s))), .p (.int (w : Nat))] ∧ r = .v (.p (.bl true)) ∧ μ' = μ
def digs (as : List Nat) : List D := as.map fun a => .str (st [48 + a])
def rWires : Rel := fun ss μ r μ' => ∃ (w : Nat) (as : List Nat), 1 ≤ w ∧ w ≤ 4 ∧ as.length ≤ 2 ∧ as.Nodup ∧ (∀ a ∈ as, a < w) ∧ ss = [.p (.lst (digs as)), .p (.int (w : Nat))] ∧ r = .v (.p (.bl true)) ∧ μ' = μ
structure TC (K : PySem.W.Frag) (mg : Str → Option Value) (C : Addr) : Prop where
  ci : ClsI K C
  nL : NoAttr K C "letters"
  nS : NoAttr K C "sign"
  at_ : mg "Word" = some (.ref C)
def pm (s : Int) : Prop := s = 1 ∨ s = -1
def wF : List Str := ["letters", "sign"]
def rInit (C : Addr) : Rel := fun ss μ r μ' => ∃ (j : Nat) (L : List Nat) (s : Int), okL L ∧ pm s ∧ ss = [.l j, .p (.str (sgn L s))] ∧ μ[j]? = some (.obj C [] []) ∧ r = .v (.p .non) ∧ μ' = μ.set j (.obj C wF [.str (st L), .int s])
def rAbout : Rel := fun ss μ r μ' => ∃ w q s L, w ≤ 4 ∧ okWd w s L ∧ ss = [.p (.str (st (if q = true then wQuarter else wFlip))), .p (.lst [.str (st (sgL L s))]), .p (.int (w : Nat))] ∧ r = .v (.p (stpD (.ab q s L))) ∧ μ' = μ
theorem sgn_sgL (L : List Nat) (s : Int) : sgn L s = st (sgL L s) := by
  unfold sgn sgL
  split <;> rfl
theorem kit_same {K : PySem.W.Frag} {t : Value} : PySem.W.kitOne K t t = some true := by
  unfold PySem.W.kitOne
  rw [if_pos (by simp)]
theorem sgn_prefix {L : List Nat} {s : Int} (h : okL L) : Txt.removeprefix (sgn L s) (Str.ofString "-") = st L := by
  obtain ⟨h1, h4, ha⟩ := h
  unfold sgn
  split
  · match L, h1, h4 with
    | [a], _, _ => rfl
    | [a, b], _, _ => rfl
    | [a, b, c], _, _ => rfl
    | [a, b, c, d], _, _ => rfl
  · match L, h1, h4, ha with
    | a :: l, _, h4, ha =>
      have hm := ha a (by simp)
      clear ha
      simp only [IXYZ, List.mem_cons, List.not_mem_nil, or_false] at hm
      rcases hm with rfl | rfl | rfl | rfl <;> (match l, h4 with
        | [], _ => rfl
        | [b], _ => rfl
        | [b, c], _ => rfl
        | [b, c, d], _ => rfl)
theorem sgn_starts {L : List Nat} {s : Int} (h : okL L) : Txt.startswith (sgn L s) (Str.ofString "-") = decide (s < 0) := by
  obtain ⟨h1, h4, ha⟩ := h
  unfold sgn
  split
  · rename_i hs
    rw [decide_eq_true hs]
    match L, h1, h4 with
    | [a], _, _ => rfl
    | [a, b], _, _ => rfl
    | [a, b, c], _, _ => rfl
    | [a, b, c, d], _, _ => rfl
  · rename_i hs
    rw [decide_eq_false hs]
    match L, h1, h4, ha with
    | a :: l, _, h4, ha =>
      have hm := ha a (by simp)
      clear ha
      simp only [IXYZ, List.mem_cons, List.not_mem_nil, or_false] at hm
      rcases hm with rfl | rfl | rfl | rfl <;> (match l, h4 with
        | [], _ => rfl
        | [b], _ => rfl
        | [b, c], _ => rfl
        | [b, c, d], _ => rfl)
theorem st_ne {L M : List Nat} (h : L ≠ M) : (!decide (st L = st M)) = true := by
  rw [decide_eq_false (fun e => h (st_inj.mp e))]
  rfl
theorem uniq_nodup : ∀ {zs : List Str}, zs.Nodup → zs.length ≤ 3 → (uniqN zs).length = zs.length
  | [], _, _ => rfl
  | [a], _, _ => rfl
  | [a, b], h, _ => by
    have h1 : ¬ b = a := fun e => by subst e; simp at h
    show (addN (addN [] a) b).length = 2
    unfold addN
    simp [h1]
  | [a, b, c], h, _ => by
    have h1 : ¬ b = a := fun e => by subst e; simp at h
    have h2 : ¬ c = a := fun e => by subst e; simp at h
    have h3 : ¬ c = b := fun e => by subst e; simp at h
    show (addN (addN (addN [] a) b) c).length = 3
    unfold addN
    simp [h1, h2, h3]
  | _ :: _ :: _ :: _ :: _, _, h => by simp at h
section
variable {P : Program} {w : World} {K : PySem.W.Frag} {mg : Str → Option Value} {base : Heap} {f C aS aT aW aA aP : Addr} {fd : FuncData}
theorem ok_are (F : Fun K "are_letters" "are_letters" sAre f fd) (T : TM mg) (Z : TG w K mg aS aT aW aA aP) : FnOk P w K mg base (L2.CX P w) 1 f fd ["text"] (spD K rAre) := by
  refine fn_D (k := 0) F scAre (fun ss μ r μ' h => by obtain ⟨L, _, rfl, _⟩ := h; rfl) ?_
  intro cdv A outer s H E N W ss μ r μ' g hA hR
  obtain ⟨L, hL, rfl, rfl, rfl⟩ := hR
  obtain ⟨u1, hu1, ru1⟩ := Z.lets
  obtain ⟨u2, hu2, ru2⟩ := Z.most
  have h4 := hL.four
  have h1 := hL.one
  refine ⟨_, dss_ret (de_of (de_and (de_chn de_int (de_callB (id := "len") (da_cons (de_var 0) da_nil) (c_lenS (by rw [st_len]; exact size4 (by omega))) T.len (by decide +kernel)) o_le (fun _ => de_glob hu2 ru2 (fun _ _ => .int 4)) (fun _ => o_le))
    (fun _ => de_one (de_callB (id := "all") (da_cons (de_lc g [("letter", 1)] (di_of (di_str (de_var 0)) (chars_st L)) (fun s H C cl fp => dg_name 1 g.nd)
      (of_maps (fy := fun c => .bl (decide (c ∈ IXYZ))) fun c hc => ⟨_, rfl, fun s H C cl fp N' hK g' => de_cmp (de_var 1) (de_glob hu1 ru1 (fun _ _ => .str _)) o_inS⟩) (ok := blkOk_by (by rfl)) (hds := by rw [List.length_map]; exact size4' (by omega))) da_nil) (c_allm g) T.all (by decide +kernel)))) ?_), .rt⟩
  rw [st_len, decide_eq_true (show (1 : Int) ≤ (L.length : Int) by omega), decide_eq_true (show (L.length : Int) ≤ 4 by omega), show (L.all fun c => decide (c ∈ IXYZ)) = true by simpa using hL.all]
  rfl
theorem ok_name (F : Fun K "is_name" "is_name" sName f fd) (T : TM mg) (Z : TG w K mg aS aT aW aA aP) : FnOk P w K mg base (L2.CX P w) 1 f fd ["value"] (spD K rName) := by
  refine fn_D (k := 0) F scName (fun ss μ r μ' h => by obtain ⟨L, _, rfl, _⟩ := h; rfl) ?_
  intro cdv A outer s H E N W ss μ r μ' g hA hR
  obtain ⟨L, hL, rfl, rfl, rfl⟩ := hR
  obtain ⟨u1, hu1, ru1⟩ := Z.nml
  obtain ⟨u2, hu2, ru2⟩ := Z.lnm
  have h4 := hL.eight
  have h1 := hL.one
  refine ⟨_, dss_skip (dt_w (dw_or (k := false) (k' := false) (dt_not (dt_val (de_callB (id := "isinstance") (da_cons (de_var 0) (da_cons (de_ty T.str (by decide +kernel)) da_nil)) (c_isi g (.str _) (.ty _) kit_same) T.isinstance (by decide +kernel)))) (fun _ => dw_or1 (dt_of (dt_not (dt_chn de_int (de_callB (id := "len") (da_cons (de_var 0) da_nil) (c_lenS (by rw [st_len]; exact size4 (by omega))) T.len (by decide +kernel)) o_le (fun _ => de_glob hu2 ru2 (fun _ _ => .int 8)) (fun _ => o_le))) ?_))))
    (dss_ret (de_of (de_callB (id := "all") (da_cons (de_lc g [("letter", 1)] (di_of (di_str (de_var 0)) (chars_st L)) (fun s H C cl fp => dg_name 1 g.nd)
      (of_maps (fy := fun c => .bl (decide (c ∈ AZ))) fun c hc => ⟨_, rfl, fun s H C cl fp N' hK g' => de_cmp (de_var 1) (de_glob hu1 ru1 (fun _ _ => .str _)) o_inS⟩) (ok := blkOk_by (by rfl)) (hds := by rw [List.length_map]; exact size4' (by omega))) da_nil) (c_allm g) T.all (by decide +kernel)) ?_)), .rt⟩
  · rw [st_len, decide_eq_true (show (1 : Int) ≤ (L.length : Int) by omega), decide_eq_true (show (L.length : Int) ≤ 8 by omega)]
    rfl
  · rw [show (L.all fun c => decide (c ∈ AZ)) = true by simpa using fun c hc => mem_AZ (hL.az c hc)]
theorem ok_init (F : Fun K "__init__" "Word.__init__" sInit f fd) (T : TM mg) (T2 : TC K mg C) (ca : Cf P w K mg base 1 "are_letters" [] rAre) : FnOk P w K mg base (L2.CX P w) 2 f fd ["self", "text"] (spD K (rInit C)) := by
  refine fn_D (k := 1) F scInit (fun ss μ r μ' h => by obtain ⟨j, L, s, _, _, rfl, _⟩ := h; rfl) ?_
  intro cdv A0 outer s0 H E N W ss μ r μ' g hA hR
  obtain ⟨j, L, s, hL, hs, rfl, hj, rfl, rfl⟩ := hR
  have h4 := hL.four
  have hlen : (sgn L s).length ≤ sizeLine := by
    unfold sgn
    rw [st_len]
    split
    · exact size4 (by rw [List.length_cons]; omega)
    · exact size4 (by omega)
  refine ⟨_, dss_skip (dt_not (dt_val (de_callB (id := "isinstance") (da_cons (de_var 1) (da_cons (de_ty T.str (by decide +kernel)) da_nil)) (c_isi g (.str _) (.ty _) kit_same) T.isinstance (by decide +kernel))))
    (dss_cons (ds_set 2 (de_of (de_bm PySem.F.plainAttrs_str PySem.F.slot_str_removeprefix PySem.F.type_str_removeprefix (de_var 1) (da_cons de_str da_nil) (m_removeprefix hlen)) (congrArg D.str (sgn_prefix hL))) g.nd) (cn
    (dss_skip (dt_not (dt_val (de_call g ca (da_cons (de_var 2) da_nil) ⟨L, hL, rfl, rfl, rfl⟩)))
    (dss_cons (ds_fldNew (de_var 2) (de_var 0) T2.ci.cl T2.nL hj) (cn
    (dss_cons (ds_fldNew (de_if (r := .v (.p (.int s))) (k := decide (s < 0)) (dt_of (dt_val (de_bm PySem.F.plainAttrs_str PySem.F.slot_str_startswith PySem.F.type_str_startswith (de_var 1) (da_cons de_str da_nil) m_startswith)) (sgn_starts hL)) (fun h => de_of (de_un de_int u_neg) (congrArg D.int ?_)) (fun h => de_of de_int (congrArg D.int ?_))) (de_var 0) T2.ci.cl T2.nS (List.getElem?_set_self (List.getElem?_eq_some_iff.mp hj).1)) (cn dss_nil))))))), ?_⟩
  · rcases hs with rfl | rfl
    · simp at h
    · rfl
  · rcases hs with rfl | rfl
    · rfl
    · simp at h
  · rw [List.set_set]
    exact .nx
theorem ok_isturn (F : Fun K "is_turn" "is_turn" sIsTurn f fd) : FnOk P w K mg base (L2.CX P w) 1 f fd ["step"] (spD K rIsTurn) := by
  refine fn_D (k := 0) F scIsTurn (fun ss μ r μ' h => by obtain ⟨l, rfl, _⟩ := h; rfl) ?_
  intro cdv A outer s H E N W ss μ r μ' g hA hR
  obtain ⟨l, rfl, rfl, rfl⟩ := hR
  cases l with
  | ab q s L => exact ⟨_, dss_ret (de_of (de_cmp (de_ix (de_var 0) de_int (i_tup (i := 0) g rfl)) de_str o_eqS) (congrArg D.bl (by cases q <;> (show decide _ = false; decide +kernel)))), .rt⟩
  | h a => exact ⟨_, dss_ret (de_of (de_cmp (de_ix (de_var 0) de_int (i_tup (i := 0) g rfl)) de_str o_eqS) (congrArg D.bl (by show decide _ = false; decide +kernel))), .rt⟩
  | pr k a b =>
    refine ⟨_, dss_ret (de_of (de_cmp (de_ix (de_var 0) de_int (i_tup (i := 0) g rfl)) de_str o_eqS) (congrArg D.bl ?_)), .rt⟩
    show decide _ = false
    unfold pn
    split
    · decide +kernel
    · split <;> decide +kernel
  | tn s L ps => exact ⟨_, dss_ret (de_of (de_cmp (de_ix (de_var 0) de_int (i_tup (i := 0) g rfl)) de_str o_eqS) (congrArg D.bl (by show decide _ = true; decide +kernel))), .rt⟩
theorem ok_isabout (F : Fun K "_is_about" "_is_about" sIsAbout f fd) (T : TM mg) (ca : Cf P w K mg base 1 "are_letters" [] rAre) : FnOk P w K mg base (L2.CX P w) 2 f fd ["text", "wires"] (spD K rIsAbout) := by
  refine fn_D (k := 1) F scIsAbout (fun ss μ r μ' h => by obtain ⟨_, _, _, _, _, rfl, _⟩ := h; rfl) ?_
  intro cdv A outer s0 H E N W ss μ r μ' g hA hR
  obtain ⟨n, s, L, hn, ⟨hL, hs, rfl, hne⟩, rfl, rfl, rfl⟩ := hR
  have h4 := hL.four
  have h1 := hL.one
  have e1 := sgn_prefix (s := s) hL
  rw [sgn_sgL] at e1
  refine ⟨_, dss_cons (ds_set 2 (de_of (de_bm PySem.F.plainAttrs_str PySem.F.slot_str_removeprefix PySem.F.type_str_removeprefix (de_var 0) (da_cons de_str da_nil) (m_removeprefix ?hl)) (congrArg D.str e1)) g.nd) (cn
    (dss_ret (de_of (d' := .bl true) (de_and (k := true) (k' := true) (de_of (de_cmp (de_callB (id := "len") (da_cons (de_var 2) da_nil) (c_lenS (by rw [st_len]; exact size4 (by omega))) T.len (by decide +kernel)) (de_var 1) o_eqI) ?e1) (fun _ => de_and (k := true) (k' := true) (de_call g ca (da_cons (de_var 2) da_nil) ⟨L, hL, rfl, rfl, rfl⟩) (fun _ => de_one (de_of (de_cmp (de_var 2) (de_bin de_str (de_var 1) (o_mulSn (c := 73) ⟨h1, h4⟩)) o_neS) ?e2)))) rfl))), .rt⟩
  case hl =>
    rw [st_len]
    unfold sgL
    split
    · exact size4 (by rw [List.length_cons]; omega)
    · exact size4 (by omega)
  case e1 => rw [st_len]; simp
  case e2 => exact congrArg D.bl (st_ne hne)
theorem ok_wires (F : Fun K "_are_wires" "_are_wires" sWires f fd) (T : TM mg) (Z : TG w K mg aS aT aW aA aP) : FnOk P w K mg base (L2.CX P w) 1 f fd ["texts", "wires"] (spD K rWires) := by
  refine fn_D (k := 0) F scWires (fun ss μ r μ' h => by obtain ⟨_, _, _, _, _, _, _, rfl, _⟩ := h; rfl) ?_
  intro cdv A outer s0 H E N W ss μ r μ' g hA hR
  obtain ⟨n, as, h1, h4, hl, hnd, hlt, rfl, rfl, rfl⟩ := hR
  have hu : (uniqN (as.map fun a => st [48 + a])).length = as.length := by
    rw [uniq_nodup ?_ (by rw [List.length_map]; omega), List.length_map]
    refine List.Pairwise.map _ (fun a b hab e => hab ?_) hnd
    have := st_inj.mp e
    simpa using this
  have hin : ∀ a ∈ as, decide (st [48 + a] ∈ ([st [48], st [49], st [50], st [51]] : List Str).take n) = true := fun a ha => by
    have := hlt a ha
    refine decide_eq_true ?_
    match n, a, this, h4 with
    | 1, 0, _, _ => simp
    | 2, 0, _, _ => simp
    | 2, 1, _, _ => simp
    | 3, 0, _, _ => simp
    | 3, 1, _, _ => simp
    | 3, 2, _, _ => simp
    | 4, 0, _, _ => simp
    | 4, 1, _, _ => simp
    | 4, 2, _, _ => simp
    | 4, 3, _, _ => simp
  refine ⟨_, dss_ret (de_of (d' := .bl true) (de_and (k := true) (k' := true) (de_of (de_callB (id := "all") (da_cons (de_lc g [("text", 2)] (di_lst g (de_var 0)) (fun s H C cl fp => dg_name 2 g.nd) (of_maps (gd := fun a => .str (st [48 + a])) (fy := fun a => .bl (decide (st [48 + a] ∈ ([st [48], st [49], st [50], st [51]] : List Str).take n))) fun a ha => ⟨_, rfl, fun s H C cl fp N' hK g' => de_cmp (de_var 2) (de_of (d' := .tup ((([st [48], st [49], st [50], st [51]] : List Str).take n).map D.str)) (de_cutTt g' (de_globT g' Z.gW Z.tW.sq) (de_var 1)) ?cut) (o_inStrT g')⟩) (ok := blkOk_by (by rfl)) (hds := by rw [List.length_map]; exact size4' (by omega))) da_nil) (c_allm g) T.all (by decide +kernel)) ?all) (fun _ => de_one (de_of (de_cmp (de_lenSet (zs := as.map fun a => st [48 + a]) g (de_of (de_var 0) ?ls) (by rw [List.length_map]; omega) T.len T.set) (de_callB (id := "len") (da_cons (de_var 0) da_nil) (c_lenL g) T.len (by decide +kernel)) o_eqI) ?len))) rfl), .rt⟩
  case cut => rw [cutX_to, List.map_take]
  case all =>
    rw [show (as.all fun a => decide (st [48 + a] ∈ ([st [48], st [49], st [50], st [51]] : List Str).take n)) = true from List.all_eq_true.mpr hin]
  case ls => rw [List.map_map]; rfl
  case len =>
    rw [hu, digs, List.length_map]
    simp
theorem de_word {X : Cx} {N : En} {W : WX} {n : Nat} {δ : List (Option S)} {μ μ1 : List M} {e : Expr} {p pos : Pos} {L : List Nat} {s : Int} (g : Go X N W n) (ci : Ci X.prog X.w X.K X.mg X.base 2 C "Word" [] (rInit C)) (hL : okL L) (hs : pm s) (h : DE X N W δ μ e (.v (.p (.str (sgn L s)))) μ1) (hk : 2 + 1 ≤ n := by decide) (hg : Gl X "Word" := by rfl)
    (he : starEach [e] X.env = (false, eval e X.env) :: starEach [] X.env := by rfl) (hpl : (backTo pos (starEach [] X.env)).any (·.1) = false := by rfl) : DE X N W δ μ (.Call (.Name "Word" p) [e] [] pos) (.v (.p (wd C L s))) μ1 := by
  refine de_make g ci (da_cons h da_nil he) (μ0 := (μ1 ++ [M.obj C [] []]).set μ1.length (M.obj C wF [.str (st L), .int s])) ⟨μ1.length, L, s, hL, hs, rfl, by simp, rfl, rfl⟩ (List.getElem?_set_self (by simp)) ?_ hk hg (by decide) he hpl
  rw [List.set_append_right _ _ (Nat.le_refl _)]
  simp
theorem ok_rabout (F : Fun K "_read_about" "_read_about" sAbout f fd) (T : TM mg) (T2 : TC K mg C) (ca : Cf P w K mg base 2 "_is_about" [] rIsAbout) (ci : Ci P w K mg base 2 C "Word" [] (rInit C)) : FnOk P w K mg base (L2.CX P w) 4 f fd ["name", "rest", "wires"] (spD K rAbout) := by
  refine fn_D (k := 3) F scAbout (fun ss μ r μ' h => by obtain ⟨_, _, _, _, _, _, rfl, _⟩ := h; rfl) ?_
  intro cdv A outer s0 H E N W ss μ r μ' g hA hR
  obtain ⟨n, q, s, L, hn, hw, rfl, rfl, rfl⟩ := hR
  refine ⟨_, dss_skip (dt_w (dw_or (k := false) (k' := false) (dt_of (dt_cmp (de_callB (id := "len") (da_cons (de_var 1) da_nil) (c_lenL g) T.len (by decide +kernel)) de_int o_neI) rfl) (fun _ => dw_or1 (dt_not (dt_val (de_call g ca (da_cons (de_ix (de_var 1) de_int (i_lst g rfl)) (da_cons (de_var 2) da_nil)) ⟨n, s, L, hn, hw, rfl, rfl, rfl⟩))))))
    (dss_cons (ds_set 3 (de_word g ci hw.okL hw.pm (de_of (de_ix (de_var 1) de_int (i_lst g rfl)) (congrArg D.str (sgn_sgL L s).symm))) g.nd) (cn
    (dss_ret (de_tup (dp_cons (de_var 0) (dp_cons (de_fld (de_var 3) g T2.ci.cl T2.nL) (dp_cons (de_fld (de_var 3) g T2.ci.cl T2.nS) dp_nil))))))), .rt⟩
end
end K79F
set_option Elab.async false
set_option linter.all false
set_option maxRecDepth 100000
set_option maxHeartbeats 4000000
set_option autoImplicit false
namespace K79F
open PySem PySem.Spec PyProof.Rows L2 Dl Cq
theorem scTurn : FnScope ["rest", "wires", "about", "by", "pairs", "times", "knobs", "many", "knob", "word", "form"] ["rest", "wires"] (defScope sTurn) := ⟨rfl, rfl, rfl, by decide +kernel, rfl, by decide +kernel, by decide +kernel⟩
theorem scReadL : FnScope ["line", "wires", "name", "rest"] ["line", "wires"] (defScope sReadL) := ⟨rfl, rfl, rfl, by decide +kernel, rfl, by decide +kernel, by decide +kernel⟩
theorem scReadC : FnScope ["text", "first", "lines", "wires", "steps", "turns", "number", "line", "step"] ["text"] (defScope sReadC) := ⟨rfl, rfl, rfl, by decide +kernel, rfl, by decide +kernel, by decide +kernel⟩
abbrev wsD (ws : List (List Nat)) : List D := ws.map fun v => .str (st v)
def rTurn : Rel := fun ss μ r μ' => ∃ w s L ps, w ≤ 4 ∧ okLn w (.tn s L ps) ∧ ss = [.p (.lst (wsD ((lw (.tn s L ps)).drop 1))), .p (.int (w : Nat))] ∧ r = .v (.p (stpD (.tn s L ps))) ∧ μ' = μ
def rReadL : Rel := fun ss μ r μ' => ∃ w l, 1 ≤ w ∧ w ≤ 4 ∧ okLn w l ∧ ss = [.p (.str (st (lt l))), .p (.int (w : Nat))] ∧ r = .v (.p (stpD l)) ∧ μ' = μ
abbrev lnsD (ls : List Ln) : List D := ls.map fun l => .str (st (lt l))
def rReadC : Rel := fun ss μ r μ' => ∃ w ls, okC w ls ∧ ss = [.p (.str (st (ct w ls)))] ∧ r = .v (.p (.tup [.int (w : Nat), .tup (lnsD ls), .tup (ls.map stpD)])) ∧ μ' = μ
theorem okP_nm {p : List Nat × Int} (h : okNm p.1) : okP (pairS p) := by
  show (st p.1).cps.all (· < 0x110000) = true
  rw [Array.all_eq_true_iff_forall_mem]
  intro c hc
  have := h.az c (by simpa [Dl.st] using hc)
  simp only [decide_eq_true_eq]
  omega
theorem st_inj' : ∀ {ks : List (List Nat)}, ks.Nodup → (ks.map st).Nodup := fun {ks} h => List.Pairwise.map _ (fun a b hab e => hab (st_inj.mp e)) h
theorem split_is {w : Nat} {l : Ln} (hw : w ≤ 4) (h : okLn w l) : (Txt.split (st (lt l)) (Str.ofString " ")).map D.str = wsD (lw l) := by
  have e : Txt.split (st (lt l)) (Str.ofString " ") = (TL.spl [32] 0 [] (lt l)).map st := SX.split_S (b := [32]) (by simp) (by decide)
  rw [e, split_lt hw h, List.map_map]
  rfl
theorem split_ls {w : Nat} {ls : List Ln} (h : okC w ls) : (Txt.split (st (ct w ls)) (Str.ofString "\n")).map D.str = .str (st (wT w)) :: lnsD ls := by
  have e : Txt.split (st (ct w ls)) (Str.ofString "\n") = (TL.spl [10] 0 [] (ct w ls)).map st := SX.split_S (b := [10]) (by simp) (by decide)
  rw [e, split_ct h, List.map_cons, List.map_cons, List.map_map, List.map_map]
  rfl
theorem int_of {a : Nat} (h : a < 4) : PySem.intText? (st [48 + a]) = some ((a : Nat) : Int) := by
  have : ∀ a < 4, PySem.intText? (st [48 + a]) = some ((a : Nat) : Int) := by decide +kernel
  exact this a h
section
variable {P : Program} {w : World} {K : PySem.W.Frag} {mg : Str → Option Value} {base : Heap} {f C aS aT aW aA aP : Addr} {fd : FuncData}
theorem ok_rturn (F : Fun K "_read_turn" "_read_turn" sTurn f fd) (T : TM mg) (Z : TG w K mg aS aT aW aA aP) (T2 : TC K mg C) (ca : Cf P w K mg base 2 "_is_about" [] rIsAbout) (ci : Ci P w K mg base 2 C "Word" [] (rInit C)) (cn_ : Cf P w K mg base 1 "is_name" [] rName) (cas : Cf P w K mg base 2 "ascending" [] rAsc) : FnOk P w K mg base (L2.CX P w) 4 f fd ["rest", "wires"] (spD K rTurn) := by
  refine fn_D (k := 3) F scTurn (fun ss μ r μ' h => by obtain ⟨_, _, _, _, _, _, rfl, _⟩ := h; rfl) ?_
  intro cdv A outer s0 H E N W ss μ r μ' g hA hR
  obtain ⟨n, s, L, ps, hn, hok, rfl, rfl, rfl⟩ := hR
  obtain ⟨hw, h1, h3, hnd, hps⟩ := hok
  obtain ⟨u3, hu3, ru3⟩ := Z.mkn
  obtain ⟨es, m, Dk⟩ := Z.kT
  have hl2 : (ps.flatMap fun p => [mt p.2, p.1]).length = 2 * ps.length := flat_len _ _ ps
  have hpl : (wsD (ps.flatMap fun p => [mt p.2, p.1])).length ≤ 100000 := by rw [List.length_map, hl2]; omega
  have ev : evens (wsD (ps.flatMap fun p => [mt p.2, p.1])) = ps.map fun p => .str (st (mt p.2)) := by
    have := evens_pairs (fun p : List Nat × Int => D.str (st (mt p.2))) (fun p => .str (st p.1)) ps
    rw [← this]
    congr 1
    simp [List.map_flatMap]
  have od : evens ((wsD (ps.flatMap fun p => [mt p.2, p.1])).drop 1) = ps.map fun p => .str (st p.1) := by
    have := evens_pairs' (fun p : List Nat × Int => D.str (st (mt p.2))) (fun p => .str (st p.1)) ps
    rw [← this]
    congr 2
    simp [List.map_flatMap]
  have hu : (uniqN (ps.map fun p => st p.1)).length = ps.length := by
    rw [show (ps.map fun p => st p.1) = (ps.map (·.1)).map st by simp [List.map_map, Function.comp_def], uniq_nodup (st_inj' hnd) (by simp; omega)]
    simp
  refine ⟨_, dss_skip (dt_w (dw_or (k := false) (k' := false) (dt_of (dt_cmp (de_callB (id := "len") (da_cons (de_var 0) da_nil) (c_lenL g) T.len (by decide +kernel)) de_int o_lt) ?c1) (fun _ => dw_or (k := false) (k' := false) (dt_of (dt_cmp (de_callB (id := "len") (da_cons (de_var 0) da_nil) (c_lenL g) T.len (by decide +kernel)) (de_bin de_int (de_bin de_int (de_glob hu3 ru3 (fun _ _ => .int 3)) (o_mul (.inl (by decide)))) o_add) o_gt) ?c2) (fun _ => dw_or1 (dt_of (dt_cmp (de_bin (de_callB (id := "len") (da_cons (de_var 0) da_nil) (c_lenL g) T.len (by decide +kernel)) de_int (o_mod (by decide))) de_int o_neI) ?c3)))))
    (dss_cons (ds_star 2 g (de_var 0) (dgs_cons (dg_name 2 g.nd) (dgs_cons (dg_name 3 g.nd) (dgs_last (dg_name 4 g.nd)))) ?l2 rfl) (cn
    (dss_cons (ds_par 5 6 g (da_cons (de_of (d' := .lst (ps.map fun p => .str (st (mt p.2)))) (de_even g (de_var 4) hpl) (congrArg D.lst ev)) (da_cons (de_of (d' := .lst (ps.map fun p => .str (st p.1))) (de_odd g (de_var 4) hpl) (congrArg D.lst od)) da_nil))) (cn
    (dss_skip (dt_w (dw_or (k := false) (k' := false) (dt_of (dt_cmp (de_var 3) de_str o_neS) ?c4) (fun _ => dw_or (k := false) (k' := false) (dt_not (dt_val (de_call g ca (da_cons (de_var 2) (da_cons (de_var 1) da_nil)) ⟨n, s, L, hn, hw, rfl, rfl, rfl⟩))) (fun _ => dw_or1 (dt_of (dt_not (dt_val (de_callB (id := "all") (da_cons (de_lc g [("many", 7)] (di_lst g (de_var 5)) (fun s H C cl fp => dg_name 7 g.nd) (of_maps (gd := fun p : List Nat × Int => D.str (st (mt p.2))) (fy := fun _ => .bl true) fun p hp => ⟨_, rfl, fun s H C cl fp N' hK g' => ?in1⟩) (ok := blkOk_by (by rfl)) (hds := by rw [List.length_map]; exact sz' (by omega))) da_nil) (c_allm (q := fun _ => true) g) T.all (by decide +kernel)))) ?c5)))))
    (dss_skip (dt_w (dw_or (k := false) (k' := false) (dt_of (dt_not (dt_val (de_callB (id := "all") (da_cons (de_lc g [("knob", 8)] (di_lst g (de_var 6)) (fun s H C cl fp => dg_name 8 g.nd) (of_maps (gd := fun p : List Nat × Int => D.str (st p.1)) (fy := fun _ => .bl true) fun p hp => ⟨_, rfl, fun s H C cl fp N' hK g' => de_call g' cn_ (da_cons (de_var 8) da_nil) ⟨p.1, (hps p hp).1, rfl, rfl, rfl⟩⟩) (ok := blkOk_by (by rfl)) (hds := by rw [List.length_map]; exact sz' (by omega))) da_nil) (c_allm (q := fun _ => true) g) T.all (by decide +kernel)))) ?c6) (fun _ => dw_or1 (dt_of (dt_cmp (de_lenSet (zs := ps.map fun p => st p.1) g (de_of (de_var 6) ?ls) (by rw [List.length_map]; omega) T.len T.set) (de_callB (id := "len") (da_cons (de_var 6) da_nil) (c_lenL g) T.len (by decide +kernel)) o_neI) ?c7))))
    (dss_cons (ds_set 9 (de_word g ci hw.okL hw.pm (de_of (de_var 2) (congrArg D.str (sgn_sgL L s).symm))) g.nd) (cn
    (dss_cons (ds_set 10 (de_call (r := .v (.p (.tup ((formF ps).map Dl.pairD)))) g cas (da_cons (s := .p (.lst ((ps.map pairS).map Dl.pairD))) (de_of (de_lc g [("many", 7), ("knob", 8)] (di_of (di_zip g (da_cons (de_var 5) (da_cons (de_var 6) da_nil)) (.lst _) (.lst _) T.zip) (zip_self _ _ ps)) (fun s H C cl fp => dg_tup (dgs_cons (dg_name 7 g.nd) (dgs_cons (dg_name 8 g.nd) dgs_nil)) g.hK g.calm) (of_maps (gd := fun p : List Nat × Int => D.tup [.str (st (mt p.2)), .str (st p.1)]) (fy := fun p => Dl.pairD (pairS p)) fun p hp => ⟨_, rfl, fun s H C cl fp N' hK g' => ?el⟩) (ok := blkOk_by (by rfl)) (hds := by rw [List.length_map]; exact sz' (by omega))) ?ec) da_nil) (.inr ⟨rfl, ps.map pairS, ?oks, by rw [List.length_map]; omega, rfl, rfl⟩)) g.nd) (cn
    (dss_ret (de_tup (dp_cons de_str (dp_cons (de_fld (de_var 9) g T2.ci.cl T2.nL) (dp_cons (de_fld (de_var 9) g T2.ci.cl T2.nS) (dp_cons (de_var 10) dp_nil)))))))))))))))), .rt⟩
  case c1 => exact decide_eq_false (by show ¬ ((((wsD ((lw (.tn s L ps)).drop 1)).length : Nat) : Int) < 4); simp only [lw, List.drop_succ_cons, List.drop_zero, List.length_map, List.length_cons, hl2]; omega)
  case c2 => exact decide_eq_false (by show ¬ (2 + 2 * 3 < (((wsD ((lw (.tn s L ps)).drop 1)).length : Nat) : Int)); simp only [lw, List.drop_succ_cons, List.drop_zero, List.length_map, List.length_cons, hl2]; omega)
  case c3 =>
    show (!decide ((((wsD ((lw (.tn s L ps)).drop 1)).length : Nat) : Int) % 2 = 0)) = false
    rw [decide_eq_true (by simp only [lw, List.drop_succ_cons, List.drop_zero, List.length_map, List.length_cons, hl2]; omega)]
    rfl
  case l2 => simp [lw]
  case c4 => decide +kernel
  case in1 =>
    obtain ⟨u, hu1, hu2⟩ := Z.nT p.2 (hps p hp).2
    exact de_cmp (de_var 7) (de_glob (v := .ref aT) Z.gT rfl (fun _ _ => .adr _)) (o_inKd (r := some u) Dk hu1)
  case c5 => simp
  case c6 => simp
  case ls => rw [List.map_map]; rfl
  case c7 =>
    rw [hu, List.length_map]
    simp
  case el =>
    obtain ⟨u, hu1, hu2⟩ := Z.nT p.2 (hps p hp).2
    exact de_tup (dp_cons (de_var 8) (dp_cons (de_kdIx Dk (de_glob (v := .ref aT) Z.gT rfl (fun _ _ => .adr _)) (de_var 7) hu1 hu2 (fun _ _ => .int _)) dp_nil)) (sz (by show 2 ≤ 100000; decide))
  case ec => rw [List.map_map]; rfl
  case oks =>
    intro x hx
    obtain ⟨p, hp, rfl⟩ := List.mem_map.mp hx
    exact okP_nm (hps p hp).1
end
end K79F
set_option Elab.async false
set_option linter.all false
set_option maxRecDepth 100000
set_option maxHeartbeats 4000000
set_option autoImplicit false
namespace K79F
open PySem PySem.Spec PyProof.Rows L2 Dl Cq
def bodyOf (s : Stmt) (i : Nat) : List Stmt := match (defBody s).getD i (.Pass ⟨0, 0, 0, 0⟩) with
  | .For _ _ b _ _ => b
  | _ => []
def cntT (ls : List Ln) : Nat := (ls.filter isT).length
theorem cnt_snoc (ls : List Ln) (l : Ln) : cntT (ls ++ [l]) = cntT ls + (if isT l then 1 else 0) := by
  unfold cntT
  rw [List.filter_append, List.length_append]
  congr 1
  rw [List.filter_cons]
  split <;> rfl
theorem cnt_le {ls done rest : List Ln} (h : ls = done ++ rest) : cntT done ≤ cntT ls := by
  subst h
  unfold cntT
  rw [List.filter_append, List.length_append]
  omega
theorem isNon_stp (l : Ln) : Dl.isNon (stpD l) = false := by cases l <;> rfl
section
variable {P : Program} {w : World} {K : PySem.W.Frag} {mg : Str → Option Value} {base : Heap} {f C aS aT aW aA aP : Addr} {fd : FuncData}
theorem ok_readl (F : Fun K "read_line" "read_line" sReadL f fd) (T : TM mg) (Z : TG w K mg aS aT aW aA aP) (ct_ : Cf P w K mg base 4 "_read_turn" [] rTurn) (ca : Cf P w K mg base 4 "_read_about" [] rAbout) (cw : Cf P w K mg base 1 "_are_wires" [] rWires) : FnOk P w K mg base (L2.CX P w) 5 f fd ["line", "wires"] (spD K rReadL) := by
  refine fn_D (k := 4) F scReadL (fun ss μ r μ' h => by obtain ⟨_, _, _, _, _, rfl, _⟩ := h; rfl) ?_
  intro cdv A outer s0 H E N W ss μ r μ' g hA hR
  obtain ⟨n, l, h1, h4, hok, rfl, rfl, rfl⟩ := hR
  have hlen := lt_len hok
  have hs := split_is h4 hok
  have hz : (st (lt l)).length + 2 ≤ sizeLine := by rw [st_len]; exact sz (by omega)
  cases l with
  | ab q s L =>
    have hn : ∀ z, z ≠ (if q = true then wQuarter else wFlip) → decide (st (if q = true then wQuarter else wFlip) = st z) = false := fun z hz => st_no (Ne.symm hz)
    exact ⟨_, dss_skip (dt_not (dt_val (de_callB (id := "isinstance") (da_cons (de_var 0) (da_cons (de_ty T.str (by decide +kernel)) da_nil)) (c_isi g (.str _) (.ty _) kit_same) T.isinstance (by decide +kernel))))
      (dss_cons (ds_star 1 g (de_of (d' := .lst (wsD (lw (.ab q s L)))) (de_bm PySem.F.plainAttrs_str PySem.F.slot_str_split PySem.F.type_str_split (de_var 0) (da_cons de_str da_nil) (m_split (by decide) hz)) (congrArg D.lst hs)) (dgs_cons (dg_name 2 g.nd) (dgs_last (dg_name 3 g.nd))) (by simp [lw]) rfl) (cn
      (dss_skip (dt_of (dt_cmp (de_var 2) de_str o_eqS) (hn wTurn (by cases q <;> decide)))
      (dss_ifT (dt_of (dt_cmp (de_var 2) (de_globT g Z.gA Z.tA.sq) (o_inStrT g)) (decide_eq_true (by cases q <;> simp))) (dss_ret (de_call g ca (da_cons (de_var 2) (da_cons (de_var 3) (da_cons (de_var 1) da_nil))) ⟨n, q, s, L, h4, hok, rfl, rfl, rfl⟩)) cr)))), .rt⟩
  | h a =>
    have ha : a < n := hok
    exact ⟨_, dss_skip (dt_not (dt_val (de_callB (id := "isinstance") (da_cons (de_var 0) (da_cons (de_ty T.str (by decide +kernel)) da_nil)) (c_isi g (.str _) (.ty _) kit_same) T.isinstance (by decide +kernel))))
      (dss_cons (ds_star 1 g (de_of (d' := .lst (wsD (lw (.h a)))) (de_bm PySem.F.plainAttrs_str PySem.F.slot_str_split PySem.F.type_str_split (de_var 0) (da_cons de_str da_nil) (m_split (by decide) hz)) (congrArg D.lst hs)) (dgs_cons (dg_name 2 g.nd) (dgs_last (dg_name 3 g.nd))) (by simp [lw]) rfl) (cn
      (dss_skip (dt_of (dt_cmp (de_var 2) de_str o_eqS) (by decide +kernel))
      (dss_skip (dt_of (dt_cmp (de_var 2) (de_globT g Z.gA Z.tA.sq) (o_inStrT g)) (by decide +kernel))
      (dss_ifT (dt_w (k := true) (dw_and (k := true) (k' := true) (dt_of (dt_cmp (de_var 2) de_str o_eqS) (by decide +kernel)) (fun _ => dw_and (k := true) (k' := true) (dt_of (dt_cmp (de_callB (id := "len") (da_cons (de_var 3) da_nil) (c_lenL g) T.len (by decide +kernel)) de_int o_eqI) rfl) (fun _ => dw_and1 (dt_val (de_call g cw (da_cons (de_var 3) (da_cons (de_var 1) da_nil)) ⟨n, [a], h1, h4, by simp, by simp, by simpa using ha, rfl, rfl, rfl⟩)))))) (dss_ret (de_tup (dp_cons (de_var 2) (dp_cons (de_callT (T := "int") (da_cons (de_ix (de_var 3) de_int (i_lst g rfl)) da_nil) (c_intT (int_of (by omega)) (by show 1 ≤ 640; decide)) T.int (by decide +kernel)) dp_nil)))) cr))))), .rt⟩
  | pr k a b =>
    obtain ⟨hk, ha, hb, hab⟩ := id hok
    have hpn : ∀ z, (∀ k < 3, z ≠ pn k) → decide (st (pn k) = st z) = false := fun z hz => st_no (Ne.symm (hz k hk))
    have hk3 : k = 0 ∨ k = 1 ∨ k = 2 := by omega
    exact ⟨_, dss_skip (dt_not (dt_val (de_callB (id := "isinstance") (da_cons (de_var 0) (da_cons (de_ty T.str (by decide +kernel)) da_nil)) (c_isi g (.str _) (.ty _) kit_same) T.isinstance (by decide +kernel))))
      (dss_cons (ds_star 1 g (de_of (d' := .lst (wsD (lw (.pr k a b)))) (de_bm PySem.F.plainAttrs_str PySem.F.slot_str_split PySem.F.type_str_split (de_var 0) (da_cons de_str da_nil) (m_split (by decide) hz)) (congrArg D.lst hs)) (dgs_cons (dg_name 2 g.nd) (dgs_last (dg_name 3 g.nd))) (by simp [lw]) rfl) (cn
      (dss_skip (dt_of (dt_cmp (de_var 2) de_str o_eqS) (hpn wTurn (by decide)))
      (dss_skip (dt_of (dt_cmp (de_var 2) (de_globT g Z.gA Z.tA.sq) (o_inStrT g)) (by rcases hk3 with rfl | rfl | rfl <;> decide +kernel))
      (dss_skip (dt_w (k := false) (dw_and (k := false) (k' := true) (dt_of (dt_cmp (de_var 2) de_str o_eqS) (hpn [104] (by decide))) (fun h => by cases h)))
      (dss_ifT (dt_w (k := true) (dw_and (k := true) (k' := true) (dt_of (dt_cmp (de_var 2) (de_globT g Z.gP Z.tP.sq) (o_inStrT g)) (decide_eq_true (by rcases hk3 with rfl | rfl | rfl <;> simp))) (fun _ => dw_and (k := true) (k' := true) (dt_of (dt_cmp (de_callB (id := "len") (da_cons (de_var 3) da_nil) (c_lenL g) T.len (by decide +kernel)) de_int o_eqI) rfl) (fun _ => dw_and1 (dt_val (de_call g cw (da_cons (de_var 3) (da_cons (de_var 1) da_nil)) ⟨n, [a, b], h1, h4, by simp, by simpa using hab, by simpa using ⟨ha, hb⟩, rfl, rfl, rfl⟩)))))) (dss_ret (de_tup (dp_cons (de_var 2) (dp_cons (de_callT (T := "int") (da_cons (de_ix (de_var 3) de_int (i_lst g rfl)) da_nil) (c_intT (int_of (by omega)) (by show 1 ≤ 640; decide)) T.int (by decide +kernel)) (dp_cons (de_callT (T := "int") (da_cons (de_ix (de_var 3) de_int (i_lst g rfl)) da_nil) (c_intT (int_of (by omega)) (by show 1 ≤ 640; decide)) T.int (by decide +kernel)) dp_nil))))) cr)))))), .rt⟩
  | tn s L ps =>
    exact ⟨_, dss_skip (dt_not (dt_val (de_callB (id := "isinstance") (da_cons (de_var 0) (da_cons (de_ty T.str (by decide +kernel)) da_nil)) (c_isi g (.str _) (.ty _) kit_same) T.isinstance (by decide +kernel))))
      (dss_cons (ds_star 1 g (de_of (d' := .lst (wsD (lw (.tn s L ps)))) (de_bm PySem.F.plainAttrs_str PySem.F.slot_str_split PySem.F.type_str_split (de_var 0) (da_cons de_str da_nil) (m_split (by decide) hz)) (congrArg D.lst hs)) (dgs_cons (dg_name 2 g.nd) (dgs_last (dg_name 3 g.nd))) (by simp [lw]) rfl) (cn
      (dss_ifT (dt_of (dt_cmp (de_var 2) de_str o_eqS) (by decide +kernel)) (dss_ret (de_call g ct_ (da_cons (de_var 3) (da_cons (de_var 1) da_nil)) ⟨n, s, L, ps, h4, hok, rfl, rfl, rfl⟩)) cr))), .rt⟩
abbrev rcN : List Str := ["text", "first", "lines", "wires", "steps", "turns", "number", "line", "step"]
theorem ok_readc (F : Fun K "read_circuit" "read_circuit" sReadC f fd) (T : TM mg) (Z : TG w K mg aS aT aW aA aP) (cr_ : Cf P w K mg base 5 "read_line" [] rReadL) (ci : Cf P w K mg base 1 "is_turn" [] rIsTurn) : FnOk P w K mg base (L2.CX P w) 6 f fd ["text"] (spD K rReadC) := by
  refine fn_D (k := 5) F scReadC (fun ss μ r μ' h => by obtain ⟨_, _, _, rfl, _⟩ := h; rfl) ?_
  intro cdv A outer s0 H E N W ss μ r μ' g hA hR
  obtain ⟨n, ls, hok, rfl, rfl, rfl⟩ := hR
  obtain ⟨u1, hu1, ru1⟩ := Z.mtn
  obtain ⟨u2, hu2, ru2⟩ := Z.mln
  obtain ⟨es, m, Dk⟩ := Z.kS
  obtain ⟨u3, hu3, ru3⟩ := Z.nS n hok.w1 hok.w4
  have hlen := ct_len hok
  have hz : (st (ct n ls)).length + 2 ≤ sizeLine := by rw [st_len]; exact sz (by omega)
  have hs := split_ls hok
  have go : ∀ (rest done : List Ln) (δ : List (Option S)), ls = done ++ rest → (∃ x6 x7 x8, δ = [some (.p (.str (st (ct n ls)))), some (.p (.str (st (wT n)))), some (.p (.lst (lnsD ls))), some (.p (.int (n : Nat))), some (.l μ'.length), some (.p (.int (cntT done : Nat))), x6, x7, x8]) →
      ∃ δ', Loop (cxOf (L2.CX P w) P w K mg base rcN "read_circuit" (defScope sReadC) f cdv A outer s0 H E) N W (asTup [asName 6, asName 7]) (bodyOf sReadC 6) (enumD done.length (lnsD rest)) δ (μ' ++ [.lst (done.map stpD)]) (.nx δ' (μ' ++ [.lst (ls.map stpD)])) ∧ (∃ x5 x6 x7 x8, δ' = [some (.p (.str (st (ct n ls)))), some (.p (.str (st (wT n)))), some (.p (.lst (lnsD ls))), some (.p (.int (n : Nat))), some (.l μ'.length), x5, x6, x7, x8]) := by
    intro rest
    induction rest with
    | nil =>
      rintro done _ he ⟨x6, x7, x8, rfl⟩
      rw [List.append_nil] at he
      subst he
      exact ⟨_, .nil, _, _, _, _, rfl⟩
    | cons l rest ih =>
      rintro done _ he ⟨x6, x7, x8, rfl⟩
      have hl : okLn n l := hok.ok l (by rw [he]; simp)
      have he' : ls = (done ++ [l]) ++ rest := by rw [he]; simp
      have hc := cnt_snoc done l
      have hc2 := cnt_le he'
      have h6 : cntT ls ≤ 6 := hok.six
      have hd : done.length < 40 := by have := hok.len; rw [he] at this; simp at this; omega
      obtain ⟨δ', h1, h2⟩ := ih (done ++ [l]) [some (.p (.str (st (ct n ls)))), some (.p (.str (st (wT n)))), some (.p (.lst (lnsD ls))), some (.p (.int (n : Nat))), some (.l μ'.length), some (.p (.int (cntT (done ++ [l]) : Nat))), some (.p (.int (done.length : Nat))), some (.p (.str (st (lt l)))), some (.p (stpD l))] he' ⟨_, _, _, rfl⟩
      refine ⟨δ', ?_, h2⟩
      rw [show (done ++ [l]).length = done.length + 1 by simp] at h1
      refine .next rfl ?_ h1
      have e1 : μ' ++ [M.lst ((done ++ [l]).map stpD)] = (μ' ++ [M.lst (done.map stpD)]).set μ'.length (.lst (done.map stpD ++ [stpD l])) := by rw [end_set rfl, List.map_append]; rfl
      have tail : ∀ (c : Nat), c = cntT (done ++ [l]) → DSs (cxOf (L2.CX P w) P w K mg base rcN "read_circuit" (defScope sReadC) f cdv A outer s0 H E) N W [some (.p (.str (st (ct n ls)))), some (.p (.str (st (wT n)))), some (.p (.lst (lnsD ls))), some (.p (.int (n : Nat))), some (.l μ'.length), some (.p (.int (c : Nat))), some (.p (.int (done.length : Nat))), some (.p (.str (st (lt l)))), some (.p (stpD l))] (μ' ++ [.lst (done.map stpD)]) ((bodyOf sReadC 6).drop 2) (.nx [some (.p (.str (st (ct n ls)))), some (.p (.str (st (wT n)))), some (.p (.lst (lnsD ls))), some (.p (.int (n : Nat))), some (.l μ'.length), some (.p (.int (cntT (done ++ [l]) : Nat))), some (.p (.int (done.length : Nat))), some (.p (.str (st (lt l)))), some (.p (stpD l))] (μ' ++ [.lst ((done ++ [l]).map stpD)])) := by
        rintro c rfl
        rw [e1]
        exact dss_skip (dt_w (dw_or (k := false) (k' := false) (dt_of (dt_cmp (de_var 8) de_non o_isN) (isNon_stp l)) (fun _ => dw_or (k := false) (k' := false) (dt_of (dt_cmp (de_var 5) (de_glob hu1 ru1 (fun _ _ => .int 6)) o_gt) (decide_eq_false (by omega))) (fun _ => dw_or1 (dt_of (dt_cmp (de_var 6) (de_glob hu2 ru2 (fun _ _ => .int 40)) o_eqI) (decide_eq_false (by omega)))))))
          (dss_cons (ds_expr (de_bm PySem.F.plainAttrs_list PySem.F.slot_list_append PySem.F.type_list_append (de_var 4) (da_cons (de_var 8) da_nil) (m_append (end_at rfl) (end_at rfl) (by rw [List.length_map]; exact sz' (by omega))))) (cn dss_nil))
      have hcond : ∀ b, isT l = b → DT (cxOf (L2.CX P w) P w K mg base rcN "read_circuit" (defScope sReadC) f cdv A outer s0 H E) N W [some (.p (.str (st (ct n ls)))), some (.p (.str (st (wT n)))), some (.p (.lst (lnsD ls))), some (.p (.int (n : Nat))), some (.l μ'.length), some (.p (.int (cntT done : Nat))), some (.p (.int (done.length : Nat))), some (.p (.str (st (lt l)))), some (.p (stpD l))] (μ' ++ [.lst (done.map stpD)]) (match (bodyOf sReadC 6).getD 1 (.Pass ⟨0, 0, 0, 0⟩) with | .If c _ _ _ => c | _ => .Constant .none 0 ⟨0, 0, 0, 0⟩) b (μ' ++ [.lst (done.map stpD)]) := by
        rintro b rfl
        exact dt_of (dt_w (dw_and (k := true) (k' := isT l) (dt_of (dt_cmp (de_var 8) de_non o_notN) (by rw [isNon_stp]; rfl)) (fun _ => dw_and1 (dt_val (de_call g ci (da_cons (de_var 8) da_nil) ⟨l, rfl, rfl, rfl⟩))))) (Bool.true_and _)
      cases hT : isT l with
      | true =>
        rw [hT, if_pos rfl] at hc
        exact dss_cons (ds_set 8 (de_call g cr_ (da_cons (de_var 7) (da_cons (de_var 3) da_nil)) ⟨n, l, hok.w1, hok.w4, hl, rfl, rfl, rfl⟩) g.nd) (cn (dss_ifT (hcond true hT) (dss_cons (ds_inc 5 de_int rfl g.nd) (cn dss_nil)) (cn (by
          have := tail (cntT done + 1) hc.symm
          rw [Int.natCast_add] at this
          exact this))))
      | false =>
        rw [hT, if_neg (by decide)] at hc
        exact dss_cons (ds_set 8 (de_call g cr_ (da_cons (de_var 7) (da_cons (de_var 3) da_nil)) ⟨n, l, hok.w1, hok.w4, hl, rfl, rfl, rfl⟩) g.nd) (cn (dss_skip (hcond false hT) (tail (cntT done) (by omega))))
  obtain ⟨δ', hl, x5, x6, x7, x8, rfl⟩ := go ls [] [some (.p (.str (st (ct n ls)))), some (.p (.str (st (wT n)))), some (.p (.lst (lnsD ls))), some (.p (.int (n : Nat))), some (.l μ'.length), some (.p (.int (0 : Nat))), none, none, none] rfl ⟨_, _, _, rfl⟩
  refine ⟨_, dss_skip (dt_not (dt_val (de_callB (id := "isinstance") (da_cons (de_var 0) (da_cons (de_ty T.str (by decide +kernel)) da_nil)) (c_isi g (.str _) (.ty _) kit_same) T.isinstance (by decide +kernel))))
    (dss_cons (ds_star 1 g (de_of (d' := .lst (.str (st (wT n)) :: lnsD ls)) (de_bm PySem.F.plainAttrs_str PySem.F.slot_str_split PySem.F.type_str_split (de_var 0) (da_cons de_str da_nil) (m_split (by decide) hz)) (congrArg D.lst hs)) (dgs_cons (dg_name 1 g.nd) (dgs_last (dg_name 2 g.nd))) (by simp) rfl) (cn
    (dss_skip (dt_cmp (de_var 1) (de_glob (v := .ref aS) Z.gS rfl (fun _ _ => .adr _)) (o_notInKd (r := some u3) Dk hu3))
    (dss_cons (ds_set 3 (de_kdIx Dk (de_glob (v := .ref aS) Z.gS rfl (fun _ _ => .adr _)) (de_var 1) hu3 ru3 (fun _ _ => .int _)) g.nd) (cn
    (dss_cons (ds_set 4 (de_lstM dp_nil) g.nd) (cn
    (dss_cons (ds_set 5 de_int g.nd) (cn
    (dss_cons (ds_for g (di_enum g (da_cons (de_var 2) da_nil) T.enum) (dg_tup (dgs_cons (dg_name 6 g.nd) (dgs_cons (dg_name 7 g.nd) dgs_nil)) g.hK g.calm) (by exact hl)) (cn
    (dss_freeze (end_at rfl) (by omega) 4 rfl
    (dss_ret (de_tup (dp_cons (de_var 3) (dp_cons (de_callT (T := "tuple") (da_cons (de_var 2) da_nil) c_tupL T.tuple (by decide +kernel)) (dp_cons (de_callT (T := "tuple") (da_cons (de_var 4) da_nil) c_tupL T.tuple (by decide +kernel)) dp_nil))))))))))))))))), ?_⟩
  rw [end_set rfl]
  have e2 : (μ' ++ [M.gone]).take μ'.length = μ' := by simp
  conv => rhs; rw [← e2]
  exact .rtT (Nat.le_refl _)
end
end K79F
set_option Elab.async false
set_option linter.all false
set_option maxRecDepth 100000
set_option maxHeartbeats 4000000
set_option autoImplicit false
namespace K79F
open PySem PySem.Spec PyProof.Rows L2 Dl Cq
theorem scCInit : FnScope ["self", "text", "wires", "lines", "steps", "step", "knob", "many", "number"] ["self", "text"] (defScope sCInit) := ⟨rfl, rfl, rfl, by decide +kernel, rfl, by decide +kernel, by decide +kernel⟩
theorem scCText : FnScope ["self"] ["self"] (defScope sCText) := ⟨rfl, rfl, rfl, by decide +kernel, rfl, by decide +kernel, by decide +kernel⟩
theorem scCLen : FnScope ["self"] ["self"] (defScope sCLen) := ⟨rfl, rfl, rfl, by decide +kernel, rfl, by decide +kernel, by decide +kernel⟩
theorem scJoined : FnScope ["wires", "lines"] ["wires", "lines"] (defScope sJoined) := ⟨rfl, rfl, rfl, by decide +kernel, rfl, by decide +kernel, by decide +kernel⟩
theorem scFitting : FnScope ["wires", "lines", "line"] ["wires", "lines"] (defScope sFitting) := ⟨rfl, rfl, rfl, by decide +kernel, rfl, by decide +kernel, by decide +kernel⟩
theorem scTurns : FnScope ["line"] ["line"] (defScope sTurns) := ⟨rfl, rfl, rfl, by decide +kernel, rfl, by decide +kernel, by decide +kernel⟩
structure TKc (K : PySem.W.Frag) (mg : Str → Option Value) (C : Addr) : Prop where
  ci : ClsI K C
  n1 : NoAttr K C "_text"
  n2 : NoAttr K C "_lines"
  n3 : NoAttr K C "steps"
  n4 : NoAttr K C "wires"
  n5 : NoAttr K C "knobs"
  n6 : NoAttr K C "turns"
  at_ : mg "Circuit" = some (.ref C)
abbrev cV (n : Nat) (ls : List Ln) : List D := [.str (st (ct n ls)), .tup (lnsD ls), .tup (ls.map stpD), .int (n : Nat), .tup ((knobsF ls).map D.str), .tup ((turnsF ls).map fun i => .int ((i : Nat) : Int))]
def rCInit (CC : Addr) : Rel := fun ss μ r μ' => ∃ (j n : Nat) (ls : List Ln), okC n ls ∧ ss = [.l j, .p (.str (st (ct n ls)))] ∧ μ[j]? = some (.obj CC [] []) ∧ r = .v (.p .non) ∧ μ' = μ.set j (.obj CC cF (cV n ls))
def rCText (CC : Addr) : Rel := fun ss μ r μ' => ∃ (n : Nat) (ls : List Ln), ss = [.p (circD CC n ls)] ∧ r = .v (.p (.str (st (ct n ls)))) ∧ μ' = μ
def rCLen (CC : Addr) : Rel := fun ss μ r μ' => ∃ (n : Nat) (ls : List Ln), ss = [.p (circD CC n ls)] ∧ r = .v (.p (.int (ls.length : Nat))) ∧ μ' = μ
def rJoined (CC : Addr) : Rel := fun ss μ r μ' => ∃ (n : Nat) (ls : List Ln), okC n ls ∧ ss = [.p (.int (n : Nat)), .p (.lst (lnsD ls))] ∧ r = .v (.p (circD CC n ls)) ∧ μ' = μ
def rTurns : Rel := fun ss μ r μ' => ∃ l, ss = [.p (.str (st (lt l)))] ∧ r = .v (.p (.bl (isT l))) ∧ μ' = μ
/-- the circuit of these lines, or the error that they are too many -/
def fitR (CC CL CM : Addr) (n : Nat) (ls : List Ln) (r : Rx) : Prop := if 40 < ls.length then r = .x CL (.int 40) else if 6 < (ls.filter isT).length then r = .x CM (.int 6) else r = .v (.p (circD CC n ls))
def rFitting (CC CL CM : Addr) : Rel := fun ss μ r μ' => ∃ (n : Nat) (ls : List Ln), 1 ≤ n ∧ n ≤ 4 ∧ (∀ l ∈ ls, okLn n l) ∧ ls.length ≤ 100 ∧ ss = [.p (.int (n : Nat)), .p (.lst (lnsD ls))] ∧ μ' = μ ∧ fitR CC CL CM n ls r
section
variable {P : Program} {w : World} {K : PySem.W.Frag} {mg : Str → Option Value} {base : Heap} {f C CC CL CM CO aS aT aW aA aP : Addr} {fd : FuncData}
theorem ok_cinit (F : Fun K "__init__" "Circuit.__init__" sCInit f fd) (T : TM mg) (TK : TKc K mg CC) (cr_ : Cf P w K mg base 6 "read_circuit" [] rReadC) (ci : Cf P w K mg base 1 "is_turn" [] rIsTurn) (cas : Cf P w K mg base 2 "ascending" [] rAsc) : FnOk P w K mg base (L2.CX P w) 7 f fd ["self", "text"] (spD K (rCInit CC)) := by
  refine fn_D (k := 6) F scCInit (fun ss μ r μ' h => by obtain ⟨_, _, _, _, rfl, _⟩ := h; rfl) ?_
  intro cdv A0 outer s0 H E N W ss μ r μ' g hA hR
  obtain ⟨j, n, ls, hok, rfl, hj, rfl, rfl⟩ := hR
  have hj2 : ∀ x, (μ.set j x)[j]? = some x := fun x => List.getElem?_set_self (List.getElem?_eq_some_iff.mp hj).1
  have hll : ls.length ≤ 40 := hok.len
  have hkl := knobs_len hok.ok
  have h6 := hok.six
  refine ⟨_, dss_cons (ds_asg (de_call g cr_ (da_cons (de_var 1) da_nil) ⟨n, ls, hok, rfl, rfl, rfl⟩) (dg_tup (dgs_cons (dg_name 2 g.nd) (dgs_cons (dg_name 3 g.nd) (dgs_cons (dg_name 4 g.nd) dgs_nil))) g.hK g.calm) rfl) (cn
    (dss_cons (ds_fldNew (de_var 1) (de_var 0) TK.ci.cl TK.n1 hj) (cn
    (dss_cons (ds_fldNew (de_var 3) (de_var 0) TK.ci.cl TK.n2 (hj2 _)) (cn
    (dss_cons (ds_fldNew (de_var 4) (de_var 0) TK.ci.cl TK.n3 (by simp only [List.set_set]; exact hj2 _)) (cn
    (dss_cons (ds_fldNew (de_var 2) (de_var 0) TK.ci.cl TK.n4 (by simp only [List.set_set]; exact hj2 _)) (cn
    (dss_cons (ds_fldNew (de_call (r := .v (.p (.tup ((knobsF ls).map D.str)))) g cas (da_cons (s := .p (.lst ((ls.flatMap formK).map D.str))) (de_of (de_lc2If isTD esT (fun _ e => fstD e) g [("step", 5), ("knob", 6), ("many", 7)] [6, 7] (di_tup g (de_var 4)) (fun s H C cl fp => dg_name 5 g.nd) (fun s H C cl fp => dg_tup (dgs_cons (dg_name 6 g.nd) (dgs_cons (dg_name 7 g.nd) dgs_nil)) g.hK g.calm) ?hf ?hz (ok := blkOk_by (by rfl))) (congrArg D.lst (flat_knobs ls))) da_nil) (.inl ⟨rfl, _, fun _ _ => trivial, by omega, rfl, rfl⟩)) (de_var 0) TK.ci.cl TK.n5 (by simp only [List.set_set]; exact hj2 _)) (cn
    (dss_cons (ds_fldNew (d := .tup ((turnsF ls).map fun i => .int ((i : Nat) : Int))) (de_callT (T := "tuple") (da_cons (de_lcIf g [("number", 8), ("step", 5)] (di_enumT g (da_cons (de_var 4) da_nil) T.enum) (fun s H C cl fp => dg_tup (dgs_cons (dg_name 8 g.nd) (dgs_cons (dg_name 5 g.nd) dgs_nil)) g.hK g.calm) (of_enum (fy := fun i => .int ((i : Nat) : Int)) 0 fun l hl i => ⟨_, rfl, fun s H C cl fp N' hK g' => dt_val (de_call g' ci (da_cons (de_var 5) da_nil) ⟨l, rfl, rfl, rfl⟩), fun _ => fun s H C cl fp N' hK g' => de_var 8⟩) (ok := blkOk_by (by rfl)) (hds := by rw [enumD_len, List.length_map]; exact sz' (by omega))) da_nil) c_tupL T.tuple (by decide +kernel)) (de_var 0) TK.ci.cl TK.n6 (by simp only [List.set_set]; exact hj2 _)) (cn dss_nil))))))))))))), ?_⟩
  case hz =>
    rw [flat_knobs, List.length_map]
    exact sz (by omega)
  case hf =>
    intro d hd
    obtain ⟨l, hl, rfl⟩ := List.mem_map.mp hd
    refine ⟨_, rfl, fun s H C cl fp N' hK g' => dt_of (dt_val (de_call g' ci (da_cons (de_var 5) da_nil) ⟨l, rfl, rfl, rfl⟩)) (isTD_stp l).symm, fun hb => ?_⟩
    rw [isTD_stp] at hb
    cases l with
    | tn s L ps =>
      refine ⟨fun s H C cl fp N' hK g' => di_tup g' (de_ix (de_var 5) de_int (i_tup (i := 3) g' rfl)), fun e he => ?_⟩
      obtain ⟨p, hp, rfl⟩ := List.mem_map.mp he
      exact ⟨_, rfl, fun s H C cl fp N' hK g' => de_var 6⟩
    | _ => cases hb
  · simp only [List.set_set]
    exact .nx
theorem ok_ctext (F : Fun K "text" "Circuit.text" sCText f fd) (TK : TKc K mg CC) : FnOk P w K mg base (L2.CX P w) 1 f fd ["self"] (spD K (rCText CC)) := by
  refine fn_D (k := 0) F scCText (fun ss μ r μ' h => by obtain ⟨_, _, rfl, _⟩ := h; rfl) ?_
  intro cdv A0 outer s0 H E N W ss μ r μ' g hA hR
  obtain ⟨n, ls, rfl, rfl, rfl⟩ := hR
  exact ⟨_, dss_ret (de_fld (de_var 0) g TK.ci.cl TK.n1), .rt⟩
theorem ok_clen (F : Fun K "__len__" "Circuit.__len__" sCLen f fd) (T : TM mg) (TK : TKc K mg CC) : FnOk P w K mg base (L2.CX P w) 1 f fd ["self"] (spD K (rCLen CC)) := by
  refine fn_D (k := 0) F scCLen (fun ss μ r μ' h => by obtain ⟨_, _, rfl, _⟩ := h; rfl) ?_
  intro cdv A0 outer s0 H E N W ss μ r μ' g hA hR
  obtain ⟨n, ls, rfl, rfl, rfl⟩ := hR
  exact ⟨_, dss_ret (de_of (de_callB (id := "len") (da_cons (de_fld (de_var 0) g TK.ci.cl TK.n2) da_nil) (c_lenT g) T.len (by decide +kernel)) (by rw [List.length_map])), .rt⟩
theorem de_circ {X : Cx} {N : En} {W : WX} {nn : Nat} {δ : List (Option S)} {μ μ1 : List M} {e : Expr} {p pos : Pos} {n : Nat} {ls : List Ln} (g : Go X N W nn) (ci : Ci X.prog X.w X.K X.mg X.base 7 CC "Circuit" [] (rCInit CC)) (hok : okC n ls) (h : DE X N W δ μ e (.v (.p (.str (st (ct n ls))))) μ1) (hk : 7 + 1 ≤ nn := by decide) (hg : Gl X "Circuit" := by rfl)
    (he : starEach [e] X.env = (false, eval e X.env) :: starEach [] X.env := by rfl) (hpl : (backTo pos (starEach [] X.env)).any (·.1) = false := by rfl) : DE X N W δ μ (.Call (.Name "Circuit" p) [e] [] pos) (.v (.p (circD CC n ls))) μ1 := by
  refine de_make g ci (da_cons h da_nil he) (μ0 := (μ1 ++ [M.obj CC [] []]).set μ1.length (M.obj CC cF (cV n ls))) ⟨μ1.length, n, ls, hok, rfl, by simp, rfl, rfl⟩ (List.getElem?_set_self (by simp)) ?_ hk hg (by decide) he hpl
  rw [List.set_append_right _ _ (Nat.le_refl _)]
  simp
theorem ok_joined (F : Fun K "_joined" "_joined" sJoined f fd) (TK : TKc K mg CC) (ci : Ci P w K mg base 7 CC "Circuit" [] (rCInit CC)) : FnOk P w K mg base (L2.CX P w) 9 f fd ["wires", "lines"] (spD K (rJoined CC)) := by
  refine fn_D (k := 8) F scJoined (fun ss μ r μ' h => by obtain ⟨_, _, _, rfl, _⟩ := h; rfl) ?_
  intro cdv A0 outer s0 H E N W ss μ r μ' g hA hR
  obtain ⟨n, ls, hok, rfl, rfl, rfl⟩ := hR
  have hw := hok.w4
  have hlg : ((n : Nat) : Int).natAbs.log2 < 1920 := by
    have : ∀ n, n ≤ 4 → ((n : Nat) : Int).natAbs.log2 < 1920 := by decide +kernel
    exact this n hw
  refine ⟨_, dss_ret (de_circ g ci hok (de_of (d' := .str (st (ct n ls))) (de_bm PySem.F.plainAttrs_str PySem.F.slot_str_join PySem.F.type_str_join de_str (da_cons (de_of (d' := .lst (((wT n :: ls.map lt).map st).map D.str)) (de_lst (dp_cons (de_fstr (.cons de_str (.cons (de_fmtI (de_var 0) hlg) .nil)) ?hf) (dp_star (de_var 1) dp_nil g.hK)) ?hl) ?hd) da_nil) (m_join (ct_sum hok))) (congrArg D.str (join_ct n ls)))), .rt⟩
  case hf =>
    rw [fstr_wires hok.w1 hw, st_len]
    exact sz (by show 7 ≤ 100000; decide)
  case hl =>
    have := hok.len
    simp
    exact sz (by omega)
  case hd =>
    rw [fstr_wires hok.w1 hw, List.append_nil]
    simp [lnsD, List.map_map, Function.comp_def]
theorem ok_turns (F : Fun K "_turns" "_turns" sTurns f fd) : FnOk P w K mg base (L2.CX P w) 1 f fd ["line"] (spD K rTurns) := by
  refine fn_D (k := 0) F scTurns (fun ss μ r μ' h => by obtain ⟨_, rfl, _⟩ := h; rfl) ?_
  intro cdv A0 outer s0 H E N W ss μ r μ' g hA hR
  obtain ⟨l, rfl, rfl, rfl⟩ := hR
  exact ⟨_, dss_ret (de_of (de_bm PySem.F.plainAttrs_str PySem.F.slot_str_startswith PySem.F.type_str_startswith (de_var 0) (da_cons de_str da_nil) m_startswith) (congrArg D.bl (starts_turn l))), .rt⟩
theorem ok_fitting (F : Fun K "_fitting" "_fitting" sFitting f fd) (T : TM mg) (Z : TG w K mg aS aT aW aA aP) (cj : Cf P w K mg base 9 "_joined" [] (rJoined CC)) (ct_ : Cf P w K mg base 1 "_turns" [] rTurns) (cL : Ce P w K mg base 1 CL "Long") (cM : Ce P w K mg base 1 CM "Many") : FnOk P w K mg base (L2.CX P w) 10 f fd ["wires", "lines"] (spD K (rFitting CC CL CM)) := by
  refine fn_D (k := 9) F scFitting (fun ss μ r μ' h => by obtain ⟨_, _, _, _, _, _, rfl, _⟩ := h; rfl) ?_
  intro cdv A0 outer s0 H E N W ss μ r μ' g hA hR
  obtain ⟨n, ls, h1, h4, hall, hsz, rfl, rfl, hR⟩ := hR
  obtain ⟨u1, hu1, ru1⟩ := Z.mln
  obtain ⟨u2, hu2, ru2⟩ := Z.mtn
  have el : ((lnsD ls).length : Int) = (ls.length : Int) := by rw [List.length_map]
  have cnt : ∀ {b : Bool}, b = decide (6 < (((ls.filter isT).length : Nat) : Int)) → DT (cxOf (L2.CX P w) P w K mg base ["wires", "lines", "line"] "_fitting" (defScope sFitting) f cdv A0 outer s0 H E) N W (starts ["wires", "lines", "line"] [.p (.int (n : Nat)), .p (.lst (lnsD ls))]) μ' (match (defBody sFitting).getD 1 (.Pass ⟨0, 0, 0, 0⟩) with | .If c _ _ _ => c | _ => .Constant .none 0 ⟨0, 0, 0, 0⟩) b μ' := by
    rintro b rfl
    refine dt_of (dt_cmp (de_callB (id := "len") (da_cons (de_lcIf g [("line", 2)] (di_lst g (de_var 1)) (fun s H C cl fp => dg_name 2 g.nd) (of_filt (q := isT) (gd := fun l => .str (st (lt l))) (fy := fun l => .str (st (lt l))) fun l hl => ⟨_, rfl, fun s H C cl fp N' hK g' => dt_val (de_call g' ct_ (da_cons (de_var 2) da_nil) ⟨l, rfl, rfl, rfl⟩), fun _ => fun s H C cl fp N' hK g' => de_var 2⟩) (ok := blkOk_by (by rfl)) (hds := by rw [List.length_map]; exact sz' (by omega))) da_nil) (c_lenL g) T.len (by decide +kernel)) (de_glob hu2 ru2 (fun _ _ => .int 6)) o_gt) ?_
    rw [List.length_map]
  unfold fitR at hR
  by_cases hl : 40 < ls.length
  · rw [if_pos hl] at hR
    subst hR
    exact ⟨_, dss_ifT (dt_of (dt_cmp (de_callB (id := "len") (da_cons (de_var 1) da_nil) (c_lenL g) T.len (by decide +kernel)) (de_glob hu1 ru1 (fun _ _ => .int 40)) o_gt) (decide_eq_true (by omega))) (dss_cons (ds_raise g cL (de_glob hu1 ru1 (fun _ _ => .int 40))) cx) cx, .xx⟩
  rw [if_neg hl] at hR
  by_cases h6 : 6 < (ls.filter isT).length
  · rw [if_pos h6] at hR
    subst hR
    exact ⟨_, dss_skip (dt_of (dt_cmp (de_callB (id := "len") (da_cons (de_var 1) da_nil) (c_lenL g) T.len (by decide +kernel)) (de_glob hu1 ru1 (fun _ _ => .int 40)) o_gt) (decide_eq_false (by omega))) (dss_ifT (cnt (b := true) (decide_eq_true (by omega)).symm) (dss_cons (ds_raise g cM (de_glob hu2 ru2 (fun _ _ => .int 6))) cx) cx), .xx⟩
  · rw [if_neg h6] at hR
    subst hR
    exact ⟨_, dss_skip (dt_of (dt_cmp (de_callB (id := "len") (da_cons (de_var 1) da_nil) (c_lenL g) T.len (by decide +kernel)) (de_glob hu1 ru1 (fun _ _ => .int 40)) o_gt) (decide_eq_false (by omega))) (dss_skip (cnt (b := false) (decide_eq_false (by omega)).symm) (dss_ret (de_call g cj (da_cons (de_var 0) (da_cons (de_var 1) da_nil)) ⟨n, ls, ⟨h1, h4, hall, by omega, by omega⟩, rfl, rfl, rfl⟩))), .rt⟩
end
end K79F
set_option Elab.async false
set_option linter.all false
set_option maxRecDepth 100000
set_option maxHeartbeats 4000000
set_option autoImplicit false
namespace K79
open PySem PySem.Spec PyProof.Rows L2 Dl Cq
/-! ### lines, their images, their Table -/
theorem scLone : FnScope ["letter", "at", "wires"] ["letter", "at", "wires"] (defScope sLone) := ⟨rfl, rfl, rfl, by decide +kernel, rfl, by decide +kernel, by decide +kernel⟩
theorem scFirst : FnScope ["wires", "at", "letter"] ["wires"] (defScope sFirstWords) := ⟨rfl, rfl, rfl, by decide +kernel, rfl, by decide +kernel, by decide +kernel⟩
theorem scFixSteps : FnScope ["circuit", "step"] ["circuit"] (defScope sFixSteps) := ⟨rfl, rfl, rfl, by decide +kernel, rfl, by decide +kernel, by decide +kernel⟩
theorem scFixImages : FnScope ["circuit", "fixed", "images", "letters", "sign"] ["circuit"] (defScope sFixImages) := ⟨rfl, rfl, rfl, by decide +kernel, rfl, by decide +kernel, by decide +kernel⟩
theorem scTableOf : FnScope ["circuit"] ["circuit"] (defScope sTableOf) := ⟨rfl, rfl, rfl, by decide +kernel, rfl, by decide +kernel, by decide +kernel⟩
abbrev sD (L : List Nat) : D := .str (Dl.st L)
def wdV (C : Addr) (x : Wp) : D := wd C x.2 x.1
def toEl (x : Wp) : El := .wd x.2 x.1
theorem els_D (C : Addr) (ws : List Wp) : (ws.map toEl).map (elD C) = ws.map (wdV C) := by
  rw [List.map_map]
  rfl
def tblL (C : Addr) (n : Nat) (ws : List Wp) : List D := [.tup (ws.map (wdV C)), .int ((n : Nat) : Int)]
def tblD (C CT : Addr) (n : Nat) (ws : List Wp) : D := .ins CT tF (tblL C n ws)
def firstF (n : Nat) : List (List Nat) := (lones n).map (·.2)
def imF (n : Nat) (ls : List Ln) : List Wp := (firstF n).map fun L => thrF (fixF ls) (1, L)
theorem first_ok : ∀ n, 1 ≤ n → n ≤ 4 → (firstF n).length = 2 * n ∧ ∀ L ∈ firstF n, okL L ∧ L.length = n := by
  have : ∀ n : Fin 5, (firstF n.val).length = 2 * n.val ∧ ∀ L ∈ firstF n.val, (L.length ≤ 4 ∧ ∀ c ∈ L, c ∈ IXYZ) ∧ L.length = n.val := by decide +kernel
  intro n h1 h4
  obtain ⟨a, b⟩ := this ⟨n, by omega⟩
  exact ⟨a, fun L hL => by obtain ⟨⟨q, r⟩, s⟩ := b L hL; exact ⟨⟨by rw [s]; exact h1, q, r⟩, s⟩⟩
def rLone : Rel := fun ss μ r μ' => ∃ (n k c : Nat), k < n ∧ n ≤ 4 ∧ ss = [.p (chS c), .p (inD k), .p (inD n)] ∧ r = .v (.p (sD (ln1 n k c))) ∧ μ' = μ
def rFirst : Rel := fun ss μ r μ' => ∃ (n : Nat), 1 ≤ n ∧ n ≤ 4 ∧ ss = [.p (inD n)] ∧ r = .v (.p (.lst ((firstF n).map sD))) ∧ μ' = μ
def rFixSteps (CC : Addr) : Rel := fun ss μ r μ' => ∃ (n : Nat) (ls : List Ln), okC n ls ∧ ss = [.p (circD CC n ls)] ∧ r = .v (.p (.lst ((fixF ls).map stpD))) ∧ μ' = μ
def rFixImages (C CC : Addr) : Rel := fun ss μ r μ' => ∃ (n : Nat) (ls : List Ln), okC n ls ∧ ss = [.p (circD CC n ls)] ∧ r = .v (.p (.tup ((imF n ls).map (wdV C)))) ∧ μ' = μ
def rTableOf (C CC CT : Addr) : Rel := fun ss μ r μ' => ∃ (n : Nat) (ls : List Ln), okC n ls ∧ imgB ((imF n ls).map toEl) = true ∧ ss = [.p (circD CC n ls)] ∧ r = .v (.p (tblD C CT n (imF n ls))) ∧ μ' = μ
def esW (_ : D) : List D := [chS 88, chS 90]
def yW (n : Nat) : D → D → D
  | .int i, .str z => sD (ln1 n i.toNat (z.cps.toList.getD 0 73))
  | _, _ => .non
theorem flat_first : ∀ n ≤ 4, flat2 (fun _ => true) esW (yW n) ((List.range n).map inD) = (firstF n).map sD := fun n h =>
  match n, h with
  | 0, _ => rfl
  | 1, _ => rfl
  | 2, _ => rfl
  | 3, _ => rfl
  | 4, _ => rfl
  | n + 5, h => by omega
theorem imF_ok {n : Nat} {ls : List Ln} (h : okC n ls) : (imF n ls).length = 2 * n ∧ ∀ x ∈ imF n ls, okX n x := by
  obtain ⟨a, b⟩ := first_ok n h.w1 h.w4
  refine ⟨by unfold imF; rw [List.length_map, a], fun x hx => ?_⟩
  obtain ⟨L, hL, rfl⟩ := List.mem_map.mp hx
  obtain ⟨p, q⟩ := b L hL
  exact thrF_ok (fun l hl => h.ok l (List.mem_filter.mp hl).1) ⟨p, q, .inl rfl⟩
section
variable {P : Program} {w : World} {K : PySem.W.Frag} {mg : Str → Option Value} {base : Heap} {qa ta ha za xa f C CC CT CB : Addr} {fd : FuncData}
theorem two_pre (a b : Nat) : (⟨#[a]⟩ : Str) ++ ⟨#[b]⟩ = st [a, b] := st_app [a] [b]
theorem at_L {n k : Nat} {L : List Nat} (h : L.length = n) (hk : k < n) : atI L ((k : Nat) : Int) = some (at7 L k) := at_getN (by omega)
theorem ok_throne (F : Fun K "_through_one" "_through_one" sThrOne f fd) (Z : TD w K mg ha za xa) (ce : Cf P w K mg base 1 "_exchanged" [] rExch) (ca : Cf P w K mg base 4 "_through_about" [] rThrAbout) : FnOk P w K mg base (L2.CX P w) 5 f fd ["step", "letters"] (spD K rThrOne) := by
  refine fn_D (k := 4) F scThrOne (fun ss μ r μ' h => by obtain ⟨_, _, _, _, _, _, _, rfl, _⟩ := h; rfl) ?_
  intro cdv A0 outer s0 H E N W ss μ r μ' g hA hR
  obtain ⟨n, l, L, hl, hT, hL, hn, rfl, rfl, rfl⟩ := hR
  have h4 := hL.four
  have hsz : (st L).length ≤ sizeLine := by rw [st_len]; exact sz (by omega)
  cases l with
  | tn s A ps => cases hT
  | h a =>
    have ha7 := at7_in hL.all a
    obtain ⟨p1, p2, _⟩ := hL_ok _ ha7
    obtain ⟨es, m, kh⟩ := Z.kh
    obtain ⟨u, h1, h2⟩ := Z.dh _ ha7
    have hlt : a < n := hl
    exact ⟨_, dss_cons (ds_set 2 (de_ix (de_var 0) de_int (i_tup (i := 0) g rfl)) g.nd) (cn (dss_ifT (dt_of (dt_cmp (de_var 2) de_str o_eqS) (by decide)) (dss_ret (de_call g ce (da_cons (de_var 1) (da_cons (de_of (d' := .tup ([a].map inD)) (de_cutTf g (de_var 0) de_int) rfl) (da_cons (de_kdIx kh (de_glob (v := .ref ha) Z.mh rfl (fun _ _ => .adr _)) (de_ix (de_var 1) (de_ix (de_var 0) de_int (i_tup (i := 1) g rfl)) (i_str hsz (at_L hn hlt))) h1 h2 (fun _ _ => .str _)) da_nil)))
      ⟨L, [a], Cq.hL (at7 L a), hS (at7 L a), hL, p1, p2, (by show 1 ≤ 2; decide), fun p hp => by rw [List.mem_singleton.mp hp]; omega, rfl, rfl, rfl⟩)) cr)), .rt⟩
  | ab q s A =>
    have d1 : decide (st (if q then wQuarter else wFlip) = Str.ofString "h") = false := by cases q <;> decide
    have d2 : decide (st (if q then wQuarter else wFlip) ∈ [st wFlip, st wQuarter]) = true := by cases q <;> decide
    exact ⟨_, dss_cons (ds_set 2 (de_ix (de_var 0) de_int (i_tup (i := 0) g rfl)) g.nd) (cn (dss_skip (dt_of (dt_cmp (de_var 2) de_str o_eqS) d1) (dss_ifT (dt_of (dt_cmp (de_var 2) (de_tup (ds := ([st wFlip, st wQuarter] : List Str).map D.str) (dp_cons de_str (dp_cons de_str dp_nil)) (sz (by show 2 ≤ _; decide))) (o_inStrT g)) d2)
      (dss_ret (de_call g ca (da_cons (de_var 0) (da_cons (de_var 1) da_nil)) ⟨n, q, s, A, L, hl, hL, hn, rfl, rfl, rfl⟩)) cr))), .rt⟩
  | pr k a b =>
    obtain ⟨hk, ha, hb, hab⟩ := (show k < 3 ∧ a < n ∧ b < n ∧ a ≠ b from hl)
    have ha7 := at7_in hL.all a
    have hb7 := at7_in hL.all b
    have dn : ∀ z : Str, z = Str.ofString "h" → decide (st (pn k) = z) = false := fun z hz => by subst hz; rcases (show k = 0 ∨ k = 1 ∨ k = 2 by omega) with rfl | rfl | rfl <;> decide
    have d2 : decide (st (pn k) ∈ [st wFlip, st wQuarter]) = false := by rcases (show k = 0 ∨ k = 1 ∨ k = 2 by omega) with rfl | rfl | rfl <;> decide
    have hps : ∀ p ∈ [a, b], p < L.length := fun p hp => by
      simp only [List.mem_cons, List.not_mem_nil, or_false] at hp
      rcases hp with rfl | rfl <;> omega
    refine ⟨_, dss_cons (ds_set 2 (de_ix (de_var 0) de_int (i_tup (i := 0) g rfl)) g.nd) (cn (dss_skip (dt_of (dt_cmp (de_var 2) de_str o_eqS) (dn _ rfl)) (dss_skip (dt_of (dt_cmp (de_var 2) (de_tup (ds := ([st wFlip, st wQuarter] : List Str).map D.str) (dp_cons de_str (dp_cons de_str dp_nil)) (sz (by show 2 ≤ _; decide))) (o_inStrT g)) d2)
      (dss_cons (ds_set 3 (de_of (d' := .str (st [at7 L a, at7 L b])) (de_bin (de_ix (de_var 1) (de_ix (de_var 0) de_int (i_tup (i := 1) g rfl)) (i_str hsz (at_L hn ha))) (de_ix (de_var 1) (de_ix (de_var 0) de_int (i_tup (i := 2) g rfl)) (i_str hsz (at_L hn hb))) (o_addS (by show 1 + 1 ≤ _; exact sz (by decide)))) (congrArg D.str (two_pre _ _))) g.nd) (cn ?_))))), .rt⟩
    by_cases k0 : k = 0
    · subst k0
      obtain ⟨p1, p2, _⟩ := pT_ok czT (by simp) _ ha7 _ hb7
      obtain ⟨es, m, kz⟩ := Z.kz
      obtain ⟨u, h1, h2⟩ := Z.dz _ ha7 _ hb7
      exact dss_ifT (dt_of (dt_cmp (de_var 2) de_str o_eqS) (by decide)) (dss_ret (de_call g ce (da_cons (de_var 1) (da_cons (de_of (d' := .tup ([a, b].map inD)) (de_cutTf g (de_var 0) de_int) rfl) (da_cons (de_kdIx kz (de_glob (v := .ref za) Z.mz rfl (fun _ _ => .adr _)) (de_var 3) h1 h2 (fun _ _ => .str _)) da_nil)))
        ⟨L, [a, b], _, _, hL, p1, p2, (by show 2 ≤ 2; decide), hps, rfl, rfl, rfl⟩)) cr
    have dz : decide (st (pn k) = Str.ofString "cz") = false := by rcases (show k = 1 ∨ k = 2 by omega) with rfl | rfl <;> decide
    by_cases k1 : k = 1
    · subst k1
      obtain ⟨p1, p2, _⟩ := pT_ok cxT (by simp) _ ha7 _ hb7
      obtain ⟨es, m, kx⟩ := Z.kx
      obtain ⟨u, h1, h2⟩ := Z.dx _ ha7 _ hb7
      exact dss_skip (dt_of (dt_cmp (de_var 2) de_str o_eqS) dz) (dss_ifT (dt_of (dt_cmp (de_var 2) de_str o_eqS) (by decide)) (dss_ret (de_call g ce (da_cons (de_var 1) (da_cons (de_of (d' := .tup ([a, b].map inD)) (de_cutTf g (de_var 0) de_int) rfl) (da_cons (de_kdIx kx (de_glob (v := .ref xa) Z.mx rfl (fun _ _ => .adr _)) (de_var 3) h1 h2 (fun _ _ => .str _)) da_nil)))
        ⟨L, [a, b], _, _, hL, p1, p2, (by show 2 ≤ 2; decide), hps, rfl, rfl, rfl⟩)) cr)
    have k2 : k = 2 := by omega
    subst k2
    have o2 : okL [at7 L b, at7 L a] := ⟨by show 1 ≤ 2; decide, by show 2 ≤ 4; decide, fun c hc => by
      simp only [List.mem_cons, List.not_mem_nil, or_false] at hc
      rcases hc with rfl | rfl
      · exact hb7
      · exact ha7⟩
    exact dss_skip (dt_of (dt_cmp (de_var 2) de_str o_eqS) dz) (dss_skip (dt_of (dt_cmp (de_var 2) de_str o_eqS) (by decide)) (dss_ret (de_call g ce (da_cons (de_var 1) (da_cons (de_of (d' := .tup ([a, b].map inD)) (de_cutTf g (de_var 0) de_int) rfl) (da_cons (de_revS g (de_var 3)) da_nil)))
      ⟨L, [a, b], [at7 L b, at7 L a], 1, hL, o2, .inl rfl, (by show 2 ≤ 2; decide), hps, rfl, rfl, rfl⟩)))
theorem ok_ledthr (F : Fun K "led_through" "led_through" sLedThr f fd) (co : Cf P w K mg base 5 "_through_one" [] rThrOne) : FnOk P w K mg base (L2.CX P w) 6 f fd ["steps", "letters", "sign"] (spD K rLedThr) := by
  refine fn_D (k := 5) F scLedThr (fun ss μ r μ' h => by obtain ⟨_, _, _, _, _, _, rfl, _⟩ := h; rfl) ?_
  intro cdv A0 outer s0 H E N W ss μ r μ' g hA hR
  obtain ⟨n, ls, x, hls, h9, hx, rfl, rfl, rfl⟩ := hR
  obtain ⟨δ', hlo, ⟨x3, x4, x5, rfl⟩, _⟩ := loop_fo (X := cxOf (L2.CX P w) P w K mg base ["steps", "letters", "sign", "step", "made", "other"] "led_through" (defScope sLedThr) f cdv A0 outer s0 H E) (N := N) (W := W) (f := asName 3) (body := bodyOf sLedThr 0) (T := Wp) (mu := fun _ => μ') (nx := fun l x => thrX l x) (gd := stpD)
    (fun _ x => okX n x) (fun x δ => ∃ x3 x4 x5, δ = [some (.p (.lst (ls.map stpD))), some (.p (.str (st x.2))), some (.p (.int x.1)), x3, x4, x5]) ls.reverse [some (.p (.lst (ls.map stpD))), some (.p (.str (st x.2))), some (.p (.int x.1)), none, none, none] x
    (fun l hl k x δ hδ hx => by
      obtain ⟨x3, x4, x5, rfl⟩ := hδ
      obtain ⟨g1, g2⟩ := hls l (List.mem_reverse.mp hl)
      obtain ⟨q1, q2, q3⟩ := thr1_ok g1 hx.ok hx.len
      have dA : DS (cxOf (L2.CX P w) P w K mg base ["steps", "letters", "sign", "step", "made", "other"] "led_through" (defScope sLedThr) f cdv A0 outer s0 H E) N W [some (.p (.lst (ls.map stpD))), some (.p (.str (st x.2))), some (.p (.int x.1)), some (.p (stpD l)), x4, x5] μ' ((bodyOf sLedThr 0).getD 0 (.Pass ⟨0, 0, 0, 0⟩)) (.nx [some (.p (.lst (ls.map stpD))), some (.p (.str (st x.2))), some (.p (.int x.1)), some (.p (stpD l)), some (.p (.str (st (thr1 l x.2).1))), some (.p (.int (thr1 l x.2).2))] μ') :=
        ds_asg (de_call g co (da_cons (de_var 3) (da_cons (de_var 1) da_nil)) ⟨n, l, x.2, g1, g2, hx.ok, hx.len, rfl, rfl, rfl⟩) (dg_tup (dgs_cons (dg_name 4 g.nd) (dgs_cons (dg_name 5 g.nd) dgs_nil)) g.hK g.calm) rfl
      exact ⟨thrX_ok g1 hx, _, _, rfl, dss_cons dA (cn (dss_cons (ds_set 1 (de_var 4) g.nd) (cn (dss_cons (ds_set 2 (de_bin (de_var 2) (de_var 5) (o_mul (.inl (pm_small hx.pm)))) g.nd) (cn dss_nil))))), _, _, _, rfl⟩) ⟨_, _, _, rfl⟩ hx
  exact ⟨_, dss_cons (ds_for g (di_of (di_lst g (de_revL g (de_var 0) (by rw [List.length_map]; omega))) List.map_reverse.symm) (dg_name 3 g.nd) hlo) (cn (dss_ret (de_tup (dp_cons (de_var 1) (dp_cons (de_var 2) dp_nil))))), .rt⟩
theorem mul_I {X : Cx} {N : En} {W : WX} {μ : List M} {k : Nat} (h : k ≤ 4) : OpOk X N W (binaryOp .Mult) μ (.p (.str ⟨#[73]⟩)) (.p (.int ((k : Nat) : Int))) (.v (.p (.str (Dl.st (List.replicate k 73))))) μ := by
  rcases (show k = 0 ∨ k = 1 ∨ 2 ≤ k by omega) with rfl | rfl | h2
  · exact o_mulS (k := false)
  · exact o_mulS (k := true)
  · exact o_mulSk ⟨h2, by omega⟩
theorem ok_lone (F : Fun K "lone_letter" "lone_letter" sLone f fd) : FnOk P w K mg base (L2.CX P w) 1 f fd ["letter", "at", "wires"] (spD K rLone) := by
  refine fn_D (k := 0) F scLone (fun ss μ r μ' h => by obtain ⟨_, _, _, _, _, rfl, _⟩ := h; rfl) ?_
  intro cdv A0 outer s0 H E N W ss μ r μ' g hA hR
  obtain ⟨n, k, c, hk, h4, rfl, rfl, rfl⟩ := hR
  have e1 : (Dl.st (List.replicate k 73) : Str) ++ ⟨#[c]⟩ = Dl.st (List.replicate k 73 ++ [c]) := st_app _ [c]
  refine ⟨_, dss_ret (de_of (d' := sD (ln1 n k c)) (de_bin (de_of (d' := sD (List.replicate k 73 ++ [c])) (de_bin (de_bin (de_of (d' := .str ⟨#[73]⟩) de_str rfl) (de_var 1) (mul_I (by omega))) (de_var 0) (o_addS (by rw [st_len, List.length_replicate]; show k + 1 ≤ _; exact sz (by omega)))) (congrArg D.str e1)) (de_bin (de_of (d' := .str ⟨#[73]⟩) de_str rfl) (de_of (d' := .int ((n - k - 1 : Nat) : Int)) (de_bin (de_bin (de_var 2) (de_var 1) o_sub) de_int o_sub) (congrArg D.int (by omega))) (mul_I (by omega))) (o_addS (by rw [st_len, st_len]; simp; exact sz (by omega)))) (congrArg D.str (st_app _ _))), .rt⟩
theorem ok_first (F : Fun K "first_words" "first_words" sFirstWords f fd) (T : TM mg) (cl_ : Cf P w K mg base 1 "lone_letter" [] rLone) : FnOk P w K mg base (L2.CX P w) 2 f fd ["wires"] (spD K rFirst) := by
  refine fn_D (k := 1) F scFirst (fun ss μ r μ' h => by obtain ⟨_, _, _, rfl, _⟩ := h; rfl) ?_
  intro cdv A0 outer s0 H E N W ss μ r μ' g hA hR
  obtain ⟨n, h1, h4, rfl, rfl, rfl⟩ := hR
  refine ⟨_, dss_ret (de_of (de_lc2 esW (yW n) g [("at", 1), ("letter", 2)] [2] (di_of (di_range1 (da_cons (de_var 0) da_nil) T.range (by omega)) (by rw [Int.toNat_natCast, rng_in])) (fun s H C cl fp => dg_name 1 g.nd) (fun s H C cl fp => dg_name 2 g.nd) ?hf (by rw [flat_first n h4, List.length_map, (first_ok n h1 h4).1]; exact sz (by omega)) (ok := blkOk_by (by rfl))) (congrArg D.lst (flat_first n h4))), .rt⟩
  intro d hd
  obtain ⟨i, hi, rfl⟩ := List.mem_map.mp hd
  have hi := List.mem_range.mp hi
  refine ⟨_, rfl, fun s H C cl fp N' hK g' => di_tup g' (de_tup (ds := [chS 88, chS 90]) (dp_cons de_str (dp_cons de_str dp_nil)) (sz (by show 2 ≤ 100000; decide))), fun d2 hd2 => ?_⟩
  simp only [esW, List.mem_cons, List.not_mem_nil, or_false] at hd2
  rcases hd2 with rfl | rfl
  · exact ⟨_, rfl, fun s H C cl fp N' hK g' => de_call g' cl_ (da_cons (de_var 2) (da_cons (de_var 1) (da_cons (de_var 0) da_nil))) ⟨n, i, 88, hi, h4, rfl, rfl, rfl⟩⟩
  · exact ⟨_, rfl, fun s H C cl fp N' hK g' => de_call g' cl_ (da_cons (de_var 2) (da_cons (de_var 1) (da_cons (de_var 0) da_nil))) ⟨n, i, 90, hi, h4, rfl, rfl, rfl⟩⟩
theorem ok_fixsteps (F : Fun K "fixed_steps" "fixed_steps" sFixSteps f fd) (TK : K79F.TKc K mg CC) (ci : Cf P w K mg base 1 "is_turn" [] K79F.rIsTurn) : FnOk P w K mg base (L2.CX P w) 2 f fd ["circuit"] (spD K (rFixSteps CC)) := by
  refine fn_D (k := 1) F scFixSteps (fun ss μ r μ' h => by obtain ⟨_, _, _, rfl, _⟩ := h; rfl) ?_
  intro cdv A0 outer s0 H E N W ss μ r μ' g hA hR
  obtain ⟨n, ls, hok, rfl, rfl, rfl⟩ := hR
  have h40 := hok.len
  exact ⟨_, dss_ret (de_lcIf g [("step", 1)] (di_tup g (de_fld (de_var 0) g TK.ci.cl TK.n3)) (fun s H C cl fp => dg_name 1 g.nd) (of_filt (gd := stpD) (fy := stpD) (q := fun l => !isT l) fun l hl => ⟨_, rfl, fun s H C cl fp N' hK g' => dt_not (dt_val (de_call g' ci (da_cons (de_var 1) da_nil) ⟨l, rfl, rfl, rfl⟩)), fun _ s H C cl fp N' hK g' => de_var 1⟩) (ok := blkOk_by (by rfl)) (hds := by rw [List.length_map]; exact sz' (by omega))), .rt⟩
theorem ok_fiximages (F : Fun K "fixed_images" "fixed_images" sFixImages f fd) (T : TM mg) (TK : K79F.TKc K mg CC) (cs : Cf P w K mg base 2 "fixed_steps" [] (rFixSteps CC)) (cl_ : Cf P w K mg base 6 "led_through" [] rLedThr) (cf : Cf P w K mg base 2 "first_words" [] rFirst) (cg : Cf P w K mg base 1 "signed_text" [] rSigned) (ci : Ci P w K mg base 2 C "Word" [] (rInit C)) : FnOk P w K mg base (L2.CX P w) 7 f fd ["circuit"] (spD K (rFixImages C CC)) := by
  refine fn_D (k := 6) F scFixImages (fun ss μ r μ' h => by obtain ⟨_, _, _, rfl, _⟩ := h; rfl) ?_
  intro cdv A0 outer s0 H E N W ss μ r μ' g hA hR
  obtain ⟨n, ls, hok, rfl, rfl, rfl⟩ := hR
  obtain ⟨f1, f2⟩ := first_ok n hok.w1 hok.w4
  obtain ⟨i1, i2⟩ := imF_ok hok
  have h4 := hok.w4
  have hfl : (fixF ls).length ≤ 100 := Nat.le_trans (List.length_filter_le _ _) (by have := hok.len; omega)
  have hfx : ∀ l ∈ fixF ls, okLn n l ∧ isT l = false := fun l hl => by
    obtain ⟨a, b⟩ := List.mem_filter.mp hl
    exact ⟨hok.ok l a, by simpa using b⟩
  have ey : ((firstF n).map fun L => resD ((thrF (fixF ls) (1, L)).2, (thrF (fixF ls) (1, L)).1)) = (imF n ls).map fun y => resD (y.2, y.1) := by unfold imF; rw [List.map_map]; rfl
  exact ⟨_, dss_cons (ds_set 1 (de_call g cs (da_cons (de_var 0) da_nil) ⟨n, ls, hok, rfl, rfl, rfl⟩) g.nd) (cn (dss_cons (ds_setLc 2 g [("letters", 3)] (di_lst g (de_call g cf (da_cons (de_fld (de_var 0) g TK.ci.cl TK.n4) da_nil) ⟨n, hok.w1, h4, rfl, rfl, rfl⟩)) (fun s H C cl fp => dg_name 3 g.nd) (of_maps (gd := sD) (fy := fun L => resD ((thrF (fixF ls) (1, L)).2, (thrF (fixF ls) (1, L)).1)) fun L hL => ⟨_, rfl, fun s H C cl fp N' hK g' => de_call g' cl_ (da_cons (de_var 1) (da_cons (de_var 3) (da_cons de_int da_nil))) ⟨n, fixF ls, (1, L), hfx, hfl, ⟨(f2 L hL).1, (f2 L hL).2, .inl rfl⟩, rfl, rfl, rfl⟩⟩) (ok := blkOk_by (by rfl)) (hds := by rw [List.length_map, f1]; exact sz' (by omega))) (cn
    (dss_ret (de_callT (T := "tuple") (da_cons (s := .p (.lst ((imF n ls).map (wdV C)))) (de_lc g [("letters", 3), ("sign", 4)] (di_of (di_lst g (de_var 2)) ey) (fun s H C cl fp => dg_tup (dgs_cons (dg_name 3 g.nd) (dgs_cons (dg_name 4 g.nd) dgs_nil)) g.hK g.calm) (of_maps (gd := fun y : Wp => resD (y.2, y.1)) (fy := wdV C) fun y hy => ⟨_, rfl, fun s H C cl fp N' hK g' => de_word g' ci (i2 y hy).ok (i2 y hy).pm (de_call g' cg (da_cons (de_var 3) (da_cons (de_var 4) da_nil)) ⟨y.2, y.1, (i2 y hy).ok.four, rfl, rfl, rfl⟩)⟩) (ok := blkOk_by (by rfl)) (hds := by rw [List.length_map, i1]; exact sz' (by omega))) da_nil) c_tupL T.tuple (by decide +kernel)))))), .rt⟩
end
theorem tInitB {K : PySem.W.Frag} {C CT CB : Addr} {n : Nat} {ws : List Wp} (hb : imgB (ws.map toEl) = true) (hl : ws.length = 2 * n) (h4 : n ≤ 4) (hw : ∀ x ∈ ws, okX n x) (μ : List M) : rTInit K C CT CB [.l μ.length, .p (.tup (ws.map (wdV C)))] (μ ++ [.obj CT [] []]) (.v (.p .non)) ((μ ++ [M.obj CT [] []]).set μ.length (.obj CT tF (tblL C n ws))) := by
  have e1 : vvD C (.tp (ws.map toEl)) = .tup (ws.map (wdV C)) := by show D.tup ((ws.map toEl).map (elD C)) = _; rw [els_D]
  refine ⟨μ.length, .tp (ws.map toEl), ⟨by rw [List.length_map]; omega, fun e he => ?_⟩, by rw [e1], by simp, .inl ⟨_, rfl, hb, rfl, ?_⟩⟩
  · obtain ⟨x, hx, rfl⟩ := List.mem_map.mp he
    exact ⟨(hw x hx).ok, (hw x hx).pm⟩
  · rw [e1, List.length_map, hl, show 2 * n / 2 = n by omega]
    rfl
section
variable {X : Cx} {N : En} {W : WX} {n : Nat} {δ : List (Option S)} {μ μ1 : List M} {e : Expr} {p pos : Pos} {K : PySem.W.Frag} {C CT CB : Addr} {m : Nat} {ws : List Wp}
theorem de_tableB (g : Go X N W n) (ci : Ci X.prog X.w X.K X.mg X.base 6 CT "Table" [] (rTInit X.K C CT CB)) (hb : imgB (ws.map toEl) = true) (hl : ws.length = 2 * m) (h4 : m ≤ 4) (hw : ∀ x ∈ ws, okX m x) (h : DE X N W δ μ e (.v (.p (.tup (ws.map (wdV C))))) μ1) (hk : 6 + 1 ≤ n := by decide) (hg : Gl X "Table" := by rfl)
    (he : starEach [e] X.env = (false, eval e X.env) :: starEach [] X.env := by rfl) (hpl : (backTo pos (starEach [] X.env)).any (·.1) = false := by rfl) : DE X N W δ μ (.Call (.Name "Table" p) [e] [] pos) (.v (.p (tblD C CT m ws))) μ1 := by
  refine de_make g ci (da_cons h da_nil he) (μ0 := (μ1 ++ [M.obj CT [] []]).set μ1.length (M.obj CT tF (tblL C m ws))) (tInitB hb hl h4 hw μ1) (List.getElem?_set_self (by simp)) ?_ hk hg (by decide) he hpl
  rw [List.set_append_right _ _ (Nat.le_refl _)]
  simp
end
section
variable {P : Program} {w : World} {K : PySem.W.Frag} {mg : Str → Option Value} {base : Heap} {f C CC CT CB : Addr} {fd : FuncData}
theorem ok_tableof (F : Fun K "table_of" "table_of" sTableOf f fd) (cf : Cf P w K mg base 7 "fixed_images" [] (rFixImages C CC)) (ci : Ci P w K mg base 6 CT "Table" [] (rTInit K C CT CB)) : FnOk P w K mg base (L2.CX P w) 8 f fd ["circuit"] (spD K (rTableOf C CC CT)) := by
  refine fn_D (k := 7) F scTableOf (fun ss μ r μ' h => by obtain ⟨_, _, _, _, rfl, _⟩ := h; rfl) ?_
  intro cdv A0 outer s0 H E N W ss μ r μ' g hA hR
  obtain ⟨n, ls, hok, hb, rfl, rfl, rfl⟩ := hR
  obtain ⟨i1, i2⟩ := imF_ok hok
  exact ⟨_, dss_ret (de_tableB g ci hb i1 hok.w4 i2 (de_call g cf (da_cons (de_var 0) da_nil) ⟨n, ls, hok, rfl, rfl, rfl⟩)), .rt⟩
end
end K79
set_option Elab.async false
set_option linter.all false
set_option maxRecDepth 100000
set_option maxHeartbeats 4000000
set_option autoImplicit false
namespace Dl
open PySem PySem.Spec PyProof.Rows L2
/-! ## a dict of the module whose keys are pairs of truths -/
def b01 (b : Bool) : Int := if b then 1 else 0
def bkH (a b : Bool) : Int := PySem.reduceHash (Builtin.Tuple.tupleHashOf [b01 a, b01 b])
/-- at d: its entries, each key a pair, and a text -/
structure BDict (K : PySem.W.Frag) (d : Addr) (bs : List (Bool × Bool × Addr × Str × Tok)) (n : Nat) : Prop where
  at_ : K.lookup d = some ⟨.type "dict", none, .dict (bs.map fun e => (⟨bkH e.1 e.2.1, .ref e.2.2.1, .str e.2.2.2.1 e.2.2.2.2⟩ : DictEntry)).toArray n, #[]⟩
  ks : ∀ e ∈ bs, ∃ m, K.lookup e.2.2.1 = some ⟨.type "tuple", none, .seq #[.bool e.1, .bool e.2.1] m, #[]⟩
  nd : (bs.map fun e => (e.1, e.2.1)).Nodup
abbrev leafB (b : Bool) : Leaf := .num (b01 b)
theorem leafB_is {P : Program} {w : World} (b : Bool) : (leafKind P w).is (leafB b) (.bool b) = true := by
  cases b
  · exact PyProof.Rows.leaf_false
  · exact PyProof.Rows.leaf_true
theorem leafB_hash {P : Program} {w : World} (b : Bool) : (leafKind P w).hash (leafB b) = b01 b := by cases b <;> rfl
theorem bk_hash {P : Program} {w : World} (a b : Bool) : (tupleKind (leafKind P w)).hash [leafB a, leafB b] = bkH a b := by
  show PySem.reduceHash (Builtin.Tuple.tupleHashOf [(leafKind P w).hash (leafB a), (leafKind P w).hash (leafB b)]) = _
  rw [leafB_hash, leafB_hash]
  rfl
theorem bk_items {P : Program} {w : World} (a b : Bool) : ItemsAre (leafKind P w) [leafB a, leafB b] [.bool a, .bool b] := .cons (leafB_is a) (.cons (leafB_is b) .nil)
theorem leafB_inj {a b : Bool} (h : leafB a = leafB b) : a = b := by
  cases a <;> cases b <;> first | rfl | (exfalso; revert h; decide)
def bkX (bs : List (Bool × Bool × Addr × Str × Tok)) : List (List Leaf × Addr × Value) := bs.map fun e => ([leafB e.1, leafB e.2.1], e.2.2.1, .str e.2.2.2.1 e.2.2.2.2)
section
variable {X : Cx} {N : En} {W : WX} {n : Nat} {δ : List (Option S)} {μ μ1 μ2 : List M} {a b : Expr} {pos : Pos} {d : Addr} {bs : List (Bool × Bool × Addr × Str × Tok)} {m : Nat}
theorem BDict.dict {pins : List (Addr × Obj)} {σ : L2.St} {H : Hp} {s : Shared} (B : BDict X.K d bs m) (I : Inv X pins σ H s) : s.heap.DictOfH (tupleKind (leafKind X.prog X.w)) d (bkX bs) := by
  refine ⟨_, _, m, I.kIn _ _ B.at_, ⟨rfl, rfl, rfl⟩, rfl, ?_, fun x hx => ?_, ?_⟩
  · unfold bkX
    rw [List.map_map]
    exact List.map_congr_left fun e _ => by
      show (⟨bkH e.1 e.2.1, .ref e.2.2.1, .str e.2.2.2.1 e.2.2.2.2⟩ : DictEntry) = ⟨(tupleKind (leafKind X.prog X.w)).hash [leafB e.1, leafB e.2.1], .ref e.2.2.1, _⟩
      rw [bk_hash]
  · obtain ⟨e, he, rfl⟩ := List.mem_map.mp hx
    obtain ⟨k, hk⟩ := B.ks e he
    exact ⟨_, _, k, I.kIn _ _ hk, rfl, rfl, bk_items e.1 e.2.1⟩
  · have e : (bkX bs).map (·.1) = (bs.map fun e => (e.1, e.2.1)).map fun p : Bool × Bool => [leafB p.1, leafB p.2] := by
      unfold bkX
      rw [List.map_map, List.map_map]
      rfl
    rw [e]
    refine List.Pairwise.map _ (fun p q hne heq => hne ?_) B.nd
    have h1 : leafB p.1 = leafB q.1 := by injection heq
    have h2 : leafB p.2 = leafB q.2 := by
      injection heq with _ h
      injection h
    exact Prod.ext (leafB_inj h1) (leafB_inj h2)
theorem bk_at {p q : Bool} {z : Str} : ∀ {bs : List (Bool × Bool × Addr × Str × Tok)}, (∃ k t, bs.find? (fun e => decide (e.1 = p ∧ e.2.1 = q)) = some (p, q, k, z, t)) → ∃ k t, atKey (bkX bs) [leafB p, leafB q] = some (k, .str z t)
  | [], h => by
    obtain ⟨k, t, h⟩ := h
    cases h
  | e :: bs, h => by
    by_cases he : e.1 = p ∧ e.2.1 = q
    · obtain ⟨k, t, h⟩ := h
      rw [List.find?_cons_of_pos (by simpa using he)] at h
      cases h
      exact ⟨k, t, by show atKey (([leafB p, leafB q], k, Value.str z t) :: bkX bs) _ = _; simp [atKey]⟩
    · obtain ⟨k, t, h⟩ := h
      rw [List.find?_cons_of_neg (by simpa using he)] at h
      obtain ⟨k', t', h'⟩ := bk_at (bs := bs) ⟨k, t, h⟩
      refine ⟨k', t', ?_⟩
      rw [← h']
      have ne : ¬ ([leafB e.1, leafB e.2.1] = [leafB p, leafB q]) := fun w => he (by
        have h1 : leafB e.1 = leafB p := by injection w
        have h2 : leafB e.2.1 = leafB q := by
          injection w with _ w
          injection w
        exact ⟨leafB_inj h1, leafB_inj h2⟩)
      show atKey (([leafB e.1, leafB e.2.1], e.2.2.1, Value.str e.2.2.2.1 e.2.2.2.2) :: bkX bs) _ = _
      simp only [atKey]
      first | rw [if_neg ne] | simp [ne]
theorem de_bkIx {p q : Bool} {z : Str} (g : Go X N W n) (B : BDict X.K d bs m) (hf : ∃ k t, bs.find? (fun e => decide (e.1 = p ∧ e.2.1 = q)) = some (p, q, k, z, t)) (ha : DE X N W δ μ a (.v (.p (.adr d))) μ1) (hb : DE X N W δ μ1 b (.v (.p (.tup [.bl p, .bl q]))) μ2) (hs : PlainIx b := by exact fun _ _ => rfl) :
    DE X N W δ μ (.Subscript a b pos) (.v (.p (.str z))) μ2 := by
  refine ⟨fun pins s σ H Q I ⟨F, A, R0, k0⟩ => ?_⟩
  refine Subscript_ (two_then ha hb I R0 (fn := fun v u => subscriptTail a b v u) fun v' u' s3 x y H2 F2 A2 I2 rx ry e2 p2 R2 h1 h2 => ?_)
  cases rs_adr h1
  cases rx
  obtain ⟨c, vs, rfl, hq, hr⟩ := rep_tup (show Rep N.K F2 y (.tup [.bl p, .bl q]) from h2)
  cases ry
  have hK := g.hK
  obtain ⟨its, rv, pl, hz⟩ := I2.tuple (by rw [← hK]; exact same_sqT R2.rc.sub hq)
  have ev : vs = [.bl p, .bl q] := by
    cases hr with
    | cons r1 r2 =>
      cases r2 with
      | cons r2 r3 =>
        cases r3
        cases r1
        cases r2
        rfl
  subst ev
  have ei : its = [.bool p, .bool q] := by
    cases rv with
    | cons q1 q2 =>
      cases q2 with
      | cons q2 q3 =>
        cases q3
        rw [q1, q2]
  subst ei
  obtain ⟨o, ho, hc, nn, hd⟩ := pl
  obtain ⟨kk, t, hat⟩ := bk_at hf
  have hu := g.room.un
  refine tail_any (B.dict I2).typeIs PySem.F.slot_dict_getitem.lookup (wpAny_getItem_heap (knd := tupleKind (leafKind X.prog X.w)) (k := [leafB p, leafB q]) ?_ ⟨o, _, nn, ho, hc, hd, bk_items p q⟩ (B.dict I2) hat ⟨.str z, H2, I2.tok _, ⟨t, rfl⟩, k0 _ F2 A2 H2 e2 p2 R2 (.str z)⟩) (by first | exact hs _ _ | with_unfolding_all rfl)
  exact tupleKind_room_in1 (by omega)
end
end Dl
set_option Elab.async false
set_option linter.all false
set_option maxRecDepth 100000
set_option maxHeartbeats 4000000
set_option autoImplicit false
namespace Dl
open PySem PySem.Spec PyProof.Rows L2
/-! ## enumerate(x), x a text -/
def ItuS (z : Str) : It :=
  ⟨fun i H => i < z.cps.size, fun i H v H' => ∃ (T : Addr) (c : Nat), v = .ref T ∧ H T = none ∧ H' = upd H T (.tup [.int (i : Nat), .str ⟨#[c]⟩]) ∧ z.cps[i]? = some c, fun i H => i = z.cps.size⟩
theorem turn_enS {P : Program} {w : World} {K : PySem.W.Frag} {elts : List Expr} {kk : Nat} {tpos : Pos} (z : Str) (t : Tok) (e it : Addr) (hei : e ≠ it) :
    Turn P w K (.Tuple elts kk tpos) (ItuS z) [e, it] e (fun i h => (∃ old, IsEnum h e it ((i : Nat) : Int) old) ∧ h.IsStrIter it (strIterType z) z t i) where
  mem := by simp
  obj := fun i h st b hb => by
    obtain ⟨⟨old, he⟩, o, ho, hc, hd⟩ := st
    have e' : b = e ∨ b = it := by simpa using hb
    rcases e' with z | z
    · rw [z]; exact ⟨_, he, fun v q => nomatch q⟩
    · rw [z]; exact ⟨o, ho, fun v q => by rw [hd] at q; cases q⟩
  keep := fun i h h' st k => let ⟨⟨old, he⟩, ⟨o, ho, r⟩⟩ := st; ⟨⟨old, k e (by simp) _ he⟩, ⟨o, k it (by simp) _ ho, r⟩⟩
  item := by
    intro X hP hw hK hc i pins s σ H E I hf st hg
    subst hP hw hK
    obtain ⟨⟨old, he⟩, hit⟩ := st
    have hel : e < s.heap.objs.size := Heap.lt_size he
    have hil : it < s.heap.objs.size := by obtain ⟨_, q, _⟩ := hit; exact Heap.lt_size q
    refine wpAny_pyNext_enum_itemD (Draws.text (A := X.A.in1) (I.ok.hd hc) it z t) he hit hg hei (by simpa using hei) fun y h' tk hy ho hst' hT hsz hk => ?_
    obtain ⟨c, u, hc1, rfl⟩ := hy
    refine ⟨_, rfl, wpAny_letOwnedTupleGo_enum (s := { s with heap := h', toks := tk + 1 }) ho fun h'' he' sb => ?_⟩
    have hT2 : h''.get? s.heap.objs.size = some { cls := .type "tuple", data := .seq #[.int i tk, .str ⟨#[c]⟩ u] } := (sb.2 _ (Nat.ne_of_gt hel)).trans hT
    have new : ObjOk X.prog X.w (upd H s.heap.objs.size (.tup [.int (i : Nat), .str ⟨#[c]⟩])) h'' s.heap.objs.size (.tup [.int (i : Nat), .str ⟨#[c]⟩]) := ⟨by show 2 ≤ sizeLine; decide, [.int i tk, .str ⟨#[c]⟩ u], .cons ⟨_, rfl⟩ (.cons ⟨_, rfl⟩ .nil), ⟨_, hT2, rfl, _, rfl⟩⟩
    have I1 : Inv X pins σ (upd H s.heap.objs.size (.tup [.int (i : Nat), .str ⟨#[c]⟩])) { s with heap := h'', toks := tk + 1 } := I.turnedNew (ch := [e, it]) (fun b ob hb q => (sb.2 b (fun z => hb (by simp [z]))).trans (hk b ob (fun z => hb (by simp [z])) (fun z => hb (by simp [z])) q)) hf (Nat.le_refl _) new
    refine ⟨.ref s.heap.objs.size, _, I1, rfl, ⟨_, c, rfl, I.hok.fresh (Nat.le_refl _), rfl, hc1⟩, ⟨⟨.str ⟨#[c]⟩ u, ?_⟩, ?_⟩, fun b hb => ?_⟩
    · rw [show ((i + 1 : Nat) : Int) = (i : Int) + 1 by omega]; exact he'
    · obtain ⟨o, q, r⟩ := hst'
      exact ⟨o, (sb.2 it (Ne.symm hei)).trans q, r⟩
    · have hb' : b < s.heap.objs.size := by
        rcases (show b = e ∨ b = it by simpa using hb) with z | z <;> rw [z] <;> assumption
      rw [upd_ne (Nat.ne_of_lt hb')]; exact (hf b hb).1
  done := by
    intro X hP hw hK hc i pins s σ H E I hf st hg
    subst hP hw hK
    obtain ⟨⟨old, he⟩, hit⟩ := st
    obtain ⟨f0, f1, f2, f3, f4, f5⟩ := hf it (by simp)
    have D := Draws.text (prog := X.prog) (w := X.w) (A := X.A.in1) (I.ok.hd hc) it z t
    have hi : i = z.cps.size := hg
    subst hi
    exact wpAny_pyNext_enum_endD D he hit fun h' eb => ⟨rfl, I.turned (t' := s.toks) (fun b o hb q => eb b o hb q) f0 f1 f3 f4 f5⟩
  self := fun A i s Q E st h => let ⟨⟨_, he⟩, _⟩ := st; wpAny_pyIter_enum he h
theorem pi_enS {X : Cx} {e : Expr} {ta : TA} {p pos tpos : Pos} {elts : List Expr} {kk : Nat} (hg : Gl X "enumerate") (hm : X.mg "enumerate" = none) (ha : PA X [e] ta) (hs : starEach [e] X.env = [(false, eval e X.env)] := by rfl) :
    PI X (.Tuple elts kk tpos) (.Call (.Name "enumerate" p) [e] [] pos) (fun σ H R => ta σ H fun vs H1 => ∃ z, vs = [.str z] ∧ R (ItuS z) H1) := by
  refine ⟨fun pins s σ H R I h => Call_ (ld_blt I hg hm boot_enumerate (PyProof.Rows.callWith_type1 (thn (ha.run pos pins s σ H _ I h) fun us s1 ⟨vs, H1, I1, r1, z, ex, q⟩ => ?_) hs rfl))⟩
  subst ex
  cases r1 with
  | cons r rr =>
    cases rr
    obtain ⟨t, rfl⟩ := r
    refine call_enT (begins_text z t) trivial fun h' he hit hk => wpAny_pyIter_enum he ?_
    have I2 : Inv X pins σ H1 { s1 with heap := h' } := I1.kept (t' := s1.toks) hk
    refine ⟨s1.heap.objs.size + 1, [s1.heap.objs.size + 1, s1.heap.objs.size], _, _, H1, rfl, I2, turn_enS z t (s1.heap.objs.size + 1) s1.heap.objs.size (Nat.succ_ne_self _), ⟨⟨.none, he⟩, _, hit, rfl, rfl⟩, fun b hb => ?_, q⟩
    have hle : s1.heap.objs.size ≤ b := by
      rcases (show b = s1.heap.objs.size + 1 ∨ b = s1.heap.objs.size by simpa using hb) with z | z <;> rw [z] <;> first | exact Nat.le_refl _ | exact Nat.le_add_right _ _
    exact I1.fpOk hle (I1.hok.fresh hle)
theorem yl_enS {K : PySem.W.Frag} {F : Hp} {z : Str} : Yl K (ItuS z) F (enumD 0 (chars z)) := by
  unfold Yl
  have hl : (chars z).length = z.cps.size := by simp [chars]
  rw [enumD_len, hl]
  refine ⟨fun i H hi e => hi, fun H e => rfl, fun i H x H' hi e ⟨T, c, h1, h2, h3, h4⟩ => ?_⟩
  have h6 : (chars z)[i]? = some (.str ⟨#[c]⟩) := by
    rw [chars, List.getElem?_map, Array.getElem?_toList, h4]
    rfl
  refine ⟨_, enumD_at h6, .inr ⟨T, _, _, h1, h2, h3, rfl, .cons ?_ (.cons (.str _) .nil)⟩⟩
  rw [Nat.zero_add]
  exact .int _
section
variable {X : Cx} {N : En} {W : WX} {n : Nat} {δ : List (Option S)} {μ μ1 : List M} {e : Expr} {pos p tpos : Pos} {elts : List Expr} {kk : Nat}
theorem di_enumS {z : Str} (g : Go X N W n) (ha : DA X N W δ μ [e] [.p (.str z)] μ1) (hm : X.mg "enumerate" = none) (hg : Gl X "enumerate" := by rfl) (hs : starEach [e] X.env = [(false, eval e X.env)] := by rfl) :
    DI X N W δ μ (.Tuple elts kk tpos) (.Call (.Name "enumerate" p) [e] [] pos) (enumD 0 (chars z)) μ1 :=
  PI.imp (pi_enS hg hm ha hs) fun σ H Rk ⟨F, A, R, k⟩ => ⟨F, A, R, fun vs F1 A1 H1 e1 p1 R1 rv => by
    obtain ⟨v, rfl, r1⟩ := one_of rv
    cases (show Rep N.K F1 v (.str z) from r1)
    exact ⟨z, rfl, k _ F1 A1 H1 e1 p1 R1 yl_enS⟩⟩
end
end Dl
set_option Elab.async false
set_option linter.all false
set_option maxRecDepth 100000
set_option maxHeartbeats 4000000
set_option autoImplicit false
namespace K79
open PySem PySem.Spec PyProof.Rows L2 Dl Cq
/-! ### a Table is asked -/
theorem scTImage : FnScope ["self", "letter", "wire", "x", "z"] ["self", "letter", "wire"] (defScope sTImage) := ⟨rfl, rfl, rfl, by decide +kernel, rfl, by decide +kernel, by decide +kernel⟩
theorem scTBack : FnScope ["self", "word", "made", "wire", "letter"] ["self", "word"] (defScope sTBack) := ⟨rfl, rfl, rfl, by decide +kernel, rfl, by decide +kernel, by decide +kernel⟩
theorem scTEq : FnScope ["self", "other"] ["self", "other"] (defScope sTEq) := ⟨rfl, rfl, rfl, by decide +kernel, rfl, by decide +kernel, by decide +kernel⟩
theorem scTMul : FnScope ["self", "other", "image"] ["self", "other"] (defScope sTMul) := ⟨rfl, rfl, rfl, by decide +kernel, rfl, by decide +kernel, by decide +kernel⟩
theorem scTInv : FnScope ["self", "letters"] ["self"] (defScope sTInv) := ⟨rfl, rfl, rfl, by decide +kernel, rfl, by decide +kernel, by decide +kernel⟩
theorem scTLedTo : FnScope ["self", "letters", "passing", "word", "image"] ["self", "letters"] (defScope sTLedTo) := ⟨rfl, rfl, rfl, by decide +kernel, rfl, by decide +kernel, by decide +kernel⟩
theorem scLBeside : FnScope ["passing", "x", "z"] ["passing"] (defScope sLBeside) := ⟨rfl, rfl, rfl, by decide +kernel, rfl, by decide +kernel, by decide +kernel⟩
abbrev Wd := Wp
structure okT (n : Nat) (ws : List Wp) : Prop where
  h1 : 1 ≤ n
  h4 : n ≤ 4
  len : ws.length = 2 * n
  ok : ∀ x ∈ ws, okX n x
def imgC (x z : Wp) (c : Nat) : Option Wp := if c = 88 then some x else if c = 90 then some z else if qs x.2 z.2 % 2 = 0 then none else some (prM 1 x z)
def imgF (ws : List Wp) (k c : Nat) : Option Wp := match ws[2 * k]?, ws[2 * k + 1]? with
  | some x, some z => imgC x z c
  | _, _ => none
def mulO (t y : Wp) : Option Wp := if qs t.2 y.2 % 2 = 0 then some (prM 0 t y) else none
def stepB (ws : List Wp) (t : Option Wp) (p : Nat × Nat) : Option Wp := if p.2 = 73 then t else t.bind fun t => (imgF ws p.1 p.2).bind fun y => mulO t y
def backF (n : Nat) (ws : List Wp) (x : Wp) : Option Wp := (idx 0 x.2).foldl (stepB ws) (some (x.1, List.replicate n 73))
def lbF (p q : Bool) : Nat := if p then (if q then 73 else 88) else (if q then 90 else 89)
def besF (l : List Bool) : List Nat := ((evens l).zip (evens (l.drop 1))).map fun p => lbF p.1 p.2
def passF (L : List Nat) (ws : List Wp) : List Bool := ws.map fun y => decide (qs L y.2 % 2 = 0)
def ledTo (ws : List Wp) (L : List Nat) (v : Wp) : Wp := (if v.1 < 0 then -1 else 1, besF (passF L ws))
structure TBk (w : World) (K : PySem.W.Frag) (mg : Str → Option Value) (la : Addr) : Prop where
  mb : mg "LETTER_BESIDE" = some (.ref la)
  bd : ∃ bs m, BDict K la bs m ∧ ∀ p q, ∃ k t, bs.find? (fun e => decide (e.1 = p ∧ e.2.1 = q)) = some (p, q, k, st [lbF p q], t)
theorem imgC_ok {n : Nat} {x z y : Wp} {c : Nat} (hx : okX n x) (hz : okX n z) (h : imgC x z c = some y) : okX n y := by
  unfold imgC at h
  split at h
  · cases h; exact hx
  · split at h
    · cases h; exact hz
    · split at h
      · cases h
      · cases h; exact hx.mul hz
theorem imgF_at {n : Nat} {ws : List Wp} (T : okT n ws) {k c : Nat} {y : Wp} (hk : k < n) (h : imgF ws k c = some y) : ∃ x z, ws[2 * k]? = some x ∧ ws[2 * k + 1]? = some z ∧ okX n x ∧ okX n z ∧ imgC x z c = some y := by
  have l1 : 2 * k < ws.length := by rw [T.len]; omega
  have l2 : 2 * k + 1 < ws.length := by rw [T.len]; omega
  unfold imgF at h
  rw [List.getElem?_eq_getElem l1, List.getElem?_eq_getElem l2] at h
  exact ⟨_, _, List.getElem?_eq_getElem l1, List.getElem?_eq_getElem l2, T.ok _ (List.getElem_mem l1), T.ok _ (List.getElem_mem l2), h⟩
theorem mulO_ok {n : Nat} {t y v : Wp} (ht : okX n t) (hy : okX n y) (h : mulO t y = some v) : okX n v ∧ qs t.2 y.2 % 2 = 0 ∧ v = prM 0 t y := by
  unfold mulO at h
  split at h
  · rename_i h0
    cases h
    exact ⟨ht.mul hy, h0, rfl⟩
  · cases h
theorem fold_none (ws : List Wp) : ∀ l : List (Nat × Nat), l.foldl (stepB ws) none = none
  | [] => rfl
  | p :: l => by
    rw [List.foldl_cons]
    have : stepB ws none p = none := by unfold stepB; split <;> rfl
    rw [this, fold_none]
def rImage (C CT : Addr) : Rel := fun ss μ r μ' => ∃ (n k c : Nat) (ws : List Wp) (y : Wp), okT n ws ∧ k < n ∧ c ∈ IXYZ ∧ imgF ws k c = some y ∧ ss = [.p (tblD C CT n ws), .p (.str ⟨#[c]⟩), .p (.int (k : Nat))] ∧ r = .v (.p (wdV C y)) ∧ μ' = μ
def rBack (C CT : Addr) : Rel := fun ss μ r μ' => ∃ (n : Nat) (ws : List Wp) (x v : Wp), okT n ws ∧ okX n x ∧ backF n ws x = some v ∧ ss = [.p (tblD C CT n ws), .p (wdV C x)] ∧ r = .v (.p (wdV C v)) ∧ μ' = μ
def rTEq (C CT : Addr) : Rel := fun ss μ r μ' => ∃ (n m : Nat) (ws us : List Wp), ss = [.p (tblD C CT n ws), .p (tblD C CT m us)] ∧ r = .v (.p (.bl (decide (ws = us)))) ∧ μ' = μ
def rTMul (C CT : Addr) : Rel := fun ss μ r μ' => ∃ (n : Nat) (ws us vs : List Wp), okT n ws ∧ okT n us ∧ us.map (backF n ws) = vs.map some ∧ imgB (vs.map toEl) = true ∧ ss = [.p (tblD C CT n ws), .p (tblD C CT n us)] ∧ r = .v (.p (tblD C CT n vs)) ∧ μ' = μ
def rLBeside : Rel := fun ss μ r μ' => ∃ (l : List Bool), l.length ≤ 8 ∧ ss = [.p (.lst (l.map D.bl))] ∧ r = .v (.p (sD (besF l))) ∧ μ' = μ
def rLedTo (C CT : Addr) : Rel := fun ss μ r μ' => ∃ (n : Nat) (ws : List Wp) (L : List Nat) (v : Wp), okT n ws ∧ okL L ∧ L.length = n ∧ backF n ws (1, besF (passF L ws)) = some v ∧ ss = [.p (tblD C CT n ws), .p (sD L)] ∧ r = .v (.p (wdV C (ledTo ws L v))) ∧ μ' = μ
def rTInv (C CT : Addr) : Rel := fun ss μ r μ' => ∃ (n : Nat) (ws vs : List Wp), okT n ws ∧ ((firstF n).map fun L => (backF n ws (1, besF (passF L ws))).map fun v => ledTo ws L v) = vs.map some ∧ imgB (vs.map toEl) = true ∧ ss = [.p (tblD C CT n ws)] ∧ r = .v (.p (tblD C CT n vs)) ∧ μ' = μ
def wdQ : D → D → Bool
  | .ins _ _ (.str x :: .int s :: _), .ins _ _ (.str y :: .int t :: _) => decide (x = y) && decide (s = t)
  | _, _ => false
theorem wdQ_is (C : Addr) (x y : Wd) : wdQ (wdV C x) (wdV C y) = decide (x = y) := by
  show (decide (Dl.st x.2 = Dl.st y.2) && decide (x.1 = y.1)) = _
  rw [Bool.eq_iff_iff]
  simp only [Bool.and_eq_true, decide_eq_true_eq, st_inj]
  exact ⟨fun h => Prod.ext h.2 h.1, fun h => by rw [h]; exact ⟨rfl, rfl⟩⟩
theorem eqL_wds (C : Addr) : ∀ ws ws' : List Wd, eqL wdQ (ws.map (wdV C)) (ws'.map (wdV C)) = decide (ws = ws')
  | [], [] => rfl
  | [], _ :: _ => rfl
  | _ :: _, [] => rfl
  | x :: ws, y :: ws' => by
    show (wdQ (wdV C x) (wdV C y) && eqL wdQ (ws.map (wdV C)) (ws'.map (wdV C))) = _
    rw [wdQ_is, eqL_wds C ws ws']
    rw [Bool.eq_iff_iff]
    simp
theorem wd_same {K : PySem.W.Frag} {F : Hp} {C : Addr} {x y : Wd} {v : V} (h1 : Rep K F v (wdV C x)) (h2 : Rep K F v (wdV C y)) : (decide (x.2 = y.2) && decide (x.1 = y.1)) = true := by
  obtain ⟨a, dx, fs, rfl, g1, g2, g3⟩ := rep_ins h1
  obtain ⟨b, dy, gs, e, k1, k2, k3⟩ := rep_ins h2
  cases e
  rw [g1] at k1
  cases k1
  have r1 : Reps K F (fs.map (·.2)) [.str (Dl.st x.2), .int x.1] := g3
  have r2 : Reps K F (fs.map (·.2)) [.str (Dl.st y.2), .int y.1] := k3
  generalize fs.map (·.2) = vs at r1 r2
  cases r1 with
  | cons p1 q1 =>
    cases q1 with
    | cons p2 q2 =>
      cases r2 with
      | cons p3 q3 =>
        cases q3 with
        | cons p4 q4 =>
          generalize hx : Dl.st x.2 = u1 at p1
          generalize hy : Dl.st y.2 = u2 at p3
          cases p1
          cases p3
          cases p2
          generalize hz : y.1 = z at p4
          cases p4
          have e1 : Dl.st x.2 = Dl.st y.2 := hx.trans hy.symm
          rw [decide_eq_true (st_inj.mp e1)]
          simp
section
variable {X : Cx} {N : En} {W : WX} {n : Nat} {μ : List M} {C : Addr}
theorem eb_wds (g : Go X N W n) (ce : Cm X.prog X.w X.K X.mg X.base 1 C "__eq__" [] (rEq C)) (x y : Wd) : EB X 1 (wdV C x) (wdV C y) (wdQ (wdV C x) (wdV C y)) := by
  have e : wdQ (wdV C x) (wdV C y) = (decide (x.2 = y.2) && decide (x.1 = y.1)) := by
    show (decide (Dl.st x.2 = Dl.st y.2) && decide (x.1 = y.1)) = _
    congr 1
    exact decide_eq_decide.mpr st_inj
  rw [e]
  exact eb_ins g ce ⟨x.2, y.2, x.1, y.1, rfl, rfl, rfl⟩ fun F v h1 h2 => wd_same h1 h2
theorem eb_lists (g : Go X N W n) (ce : Cm X.prog X.w X.K X.mg X.base 1 C "__eq__" [] (rEq C)) (ws ws' : List Wd) : ∀ (i : Nat) (a b : D), (ws.map (wdV C))[i]? = some a → (ws'.map (wdV C))[i]? = some b → EB X 1 a b (wdQ a b) := fun i a b h1 h2 => by
  rw [List.getElem?_map] at h1 h2
  obtain ⟨x, _, rfl⟩ := Option.map_eq_some_iff.mp h1
  obtain ⟨y, _, rfl⟩ := Option.map_eq_some_iff.mp h2
  exact eb_wds g ce x y
theorem o_wdsEq (g : Go X N W n) (ce : Cm X.prog X.w X.K X.mg X.base 1 C "__eq__" [] (rEq C)) {ws ws' : List Wd} (hn : 2 ≤ n := by decide) : OpOk X N W (compareOp .Eq) μ (.p (.tup (ws.map (wdV C)))) (.p (.tup (ws'.map (wdV C)))) (.v (.p (.bl (decide (ws = ws'))))) μ := by
  have h := o_tupEq (μ := μ) g (m := 1) (eb_lists g ce ws ws') hn
  rw [eqL_wds] at h
  exact h
end
theorem idx_get {α : Type} : ∀ (l : List α) (m i : Nat), (idx m l)[i]? = (l[i]?).map fun a => (m + i, a)
  | [], m, i => by simp [idx]
  | a :: l, m, 0 => by simp [idx]
  | a :: l, m, i + 1 => by
    show (idx (m + 1) l)[i]? = _
    rw [idx_get l (m + 1) i]
    simp
    congr 1
    funext a
    rw [show m + 1 + i = m + (i + 1) by omega]
theorem evens_map {α β : Type} (q : α → β) : ∀ l : List α, evens (l.map q) = (evens l).map q
  | [] => rfl
  | [_] => rfl
  | a :: b :: l => by
    show q a :: evens (l.map q) = q a :: (evens l).map q
    rw [evens_map q l]
theorem evens_lens : ∀ l : List Bool, (evens l).length = (l.length + 1) / 2
  | [] => by simp [evens]
  | [_] => by simp [evens]
  | a :: b :: l => by
    show (evens l).length + 1 = _
    rw [evens_lens l]
    simp only [List.length_cons]
    omega
theorem besF_len {l : List Bool} {n : Nat} (h : l.length = 2 * n) : (besF l).length = n := by
  unfold besF
  rw [List.length_map, List.length_zip, evens_lens, evens_lens, List.length_drop]
  omega
theorem lbF_in (p q : Bool) : lbF p q ∈ IXYZ := by cases p <;> cases q <;> decide
theorem besF_ok {l : List Bool} {n : Nat} (h : l.length = 2 * n) (h1 : 1 ≤ n) (h4 : n ≤ 4) : okX n (1, besF l) := by
  have e := besF_len h
  refine ⟨⟨by rw [e]; exact h1, by rw [e]; exact h4, fun c hc => ?_⟩, e, .inl rfl⟩
  obtain ⟨p, _, rfl⟩ := List.mem_map.mp hc
  exact lbF_in _ _
theorem fold_ok {n : Nat} {ws : List Wp} (T : okT n ws) {v : Wp} : ∀ (l : List (Nat × Nat)) (t : Wp), (∀ p ∈ l, p.1 < n) → okX n t → l.foldl (stepB ws) (some t) = some v → okX n v
  | [], t, _, ht, h => by cases h; exact ht
  | p :: l, t, hp, ht, h => by
    rw [List.foldl_cons] at h
    cases q : stepB ws (some t) p with
    | none => rw [q, fold_none] at h; cases h
    | some t2 =>
      rw [q] at h
      refine fold_ok T l t2 (fun p hq => hp p (List.mem_cons_of_mem _ hq)) ?_ h
      unfold stepB at q
      split at q
      · cases q; exact ht
      · cases hy : imgF ws p.1 p.2 with
        | none => rw [hy] at q; cases q
        | some y =>
          rw [hy] at q
          have q' : mulO t y = some t2 := q
          obtain ⟨_, _, _, _, oa, ob, hyc⟩ := imgF_at T (hp p List.mem_cons_self) hy
          exact (mulO_ok ht (imgC_ok oa ob hyc) q').1
theorem back_ok {n : Nat} {ws : List Wp} (T : okT n ws) {x v : Wp} (hx : okX n x) (h : backF n ws x = some v) : okX n v := by
  have h1 := T.h1
  have h4 := T.h4
  refine fold_ok T (idx 0 x.2) (x.1, List.replicate n 73) (fun p hp => ?_) ⟨⟨by simpa using h1, by simpa using h4, fun c hc => by rw [(List.mem_replicate.mp hc).2]; decide⟩, by simp, hx.pm⟩ h
  obtain ⟨i, hi⟩ := List.getElem?_of_mem hp
  rw [idx_get] at hi
  obtain ⟨c, hc, e⟩ := Option.map_eq_some_iff.mp hi
  have := (List.getElem?_eq_some_iff.mp hc).1
  rw [← e, ← hx.len]
  show 0 + i < _
  omega
section
variable {P : Program} {w : World} {K : PySem.W.Frag} {mg : Str → Option Value} {base : Heap} {qa ta la f C CC CT CB : Addr} {fd : FuncData}
theorem ok_image (F : Fun K "_image" "Table._image" sTImage f fd) (Tt : TKt K mg CT) (cb : Cm P w K mg base 5 C "bent" [] (rBent C)) : FnOk P w K mg base (L2.CX P w) 6 f fd ["self", "letter", "wire"] (spD K (rImage C CT)) := by
  refine fn_D (k := 5) F scTImage (fun ss μ r μ' h => by obtain ⟨_, _, _, _, _, _, _, _, _, rfl, _⟩ := h; rfl) ?_
  intro cdv A0 outer s0 H E N W ss μ r μ' g hA hR
  obtain ⟨n, k, c, ws, y, hT, hk, hc, hy, rfl, rfl, rfl⟩ := hR
  obtain ⟨x, z, a1, a2, ox, oz, hy⟩ := imgF_at hT hk hy
  have h4 := hT.h4
  have cut : cutX (ws.map (wdV C)) (some (((2 * k : Nat)) : Int)) (some ((((2 * k : Nat)) : Int) + 2)) = [wdV C x, wdV C z] := by
    rw [show ((((2 * k : Nat)) : Int) + 2) = ((2 * k + 2 : Nat) : Int) from rfl, cutX_mid, show 2 * k + 2 - 2 * k = 2 by omega]
    have b1 := (List.getElem?_eq_some_iff.mp a1).1
    have b2 := (List.getElem?_eq_some_iff.mp a2).1
    have c1 : ws[2 * k] = x := by rw [List.getElem?_eq_getElem b1] at a1; exact Option.some.inj a1
    have c2 : ws[2 * k + 1] = z := by rw [List.getElem?_eq_getElem b2] at a2; exact Option.some.inj a2
    rw [← List.map_drop, List.drop_eq_getElem_cons b1, List.drop_eq_getElem_cons b2, c1, c2]
    rfl
  have dA : DS (cxOf (L2.CX P w) P w K mg base ["self", "letter", "wire", "x", "z"] "Table._image" (defScope sTImage) f cdv A0 outer s0 H E) N W (starts ["self", "letter", "wire", "x", "z"] [.p (tblD C CT n ws), .p (.str ⟨#[c]⟩), .p (.int (k : Nat))]) μ' ((defBody sTImage).getD 0 (.Pass ⟨0, 0, 0, 0⟩)) (.nx [some (.p (tblD C CT n ws)), some (.p (.str ⟨#[c]⟩)), some (.p (.int (k : Nat))), some (.p (wdV C x)), some (.p (wdV C z))] μ') :=
    ds_asg (de_of (d' := .tup [wdV C x, wdV C z]) (de_cutTm g (de_fld (de_var 0) g Tt.ci.cl Tt.nI) (de_of (d' := .int ((2 * k : Nat) : Int)) (de_bin de_int (de_var 2) (o_mul (.inl ⟨by decide, by decide⟩))) (congrArg D.int (by omega))) (de_bin (de_of (d' := .int ((2 * k : Nat) : Int)) (de_bin de_int (de_var 2) (o_mul (.inl ⟨by decide, by decide⟩))) (congrArg D.int (by omega))) de_int o_add)) (congrArg D.tup cut)) (dg_tup (dgs_cons (dg_name 3 g.nd) (dgs_cons (dg_name 4 g.nd) dgs_nil)) g.hK g.calm) rfl
  unfold imgC at hy
  by_cases q1 : c = 88
  · subst q1
    rw [if_pos rfl] at hy
    cases hy
    exact ⟨_, dss_cons dA (cn (dss_ifT (dt_of (dt_cmp (de_var 1) de_str o_eqS) (by show decide ((⟨#[88]⟩ : Str) = ⟨#[88]⟩) = true; decide)) (dss_ret (de_var 3)) cr)), .rt⟩
  have s1 : decide ((⟨#[c]⟩ : Str) = ⟨#[88]⟩) = false := by simp [q1]
  rw [if_neg q1] at hy
  by_cases q2 : c = 90
  · subst q2
    rw [if_pos rfl] at hy
    cases hy
    exact ⟨_, dss_cons dA (cn (dss_skip (dt_of (dt_cmp (de_var 1) de_str o_eqS) s1) (dss_ifT (dt_of (dt_cmp (de_var 1) de_str o_eqS) (by show decide ((⟨#[90]⟩ : Str) = ⟨#[90]⟩) = true; decide)) (dss_ret (de_var 4)) cr))), .rt⟩
  have s2 : decide ((⟨#[c]⟩ : Str) = ⟨#[90]⟩) = false := by simp [q2]
  rw [if_neg q2] at hy
  by_cases odd : qs x.2 z.2 % 2 = 0
  · rw [if_pos odd] at hy
    cases hy
  rw [if_neg odd] at hy
  cases hy
  exact ⟨_, dss_cons dA (cn (dss_skip (dt_of (dt_cmp (de_var 1) de_str o_eqS) s1) (dss_skip (dt_of (dt_cmp (de_var 1) de_str o_eqS) s2) (dss_ret (de_of (d' := wdV C (prM 1 x z)) (de_meth g cb (de_var 3) (da_cons (de_var 4) da_nil) ⟨_, _, _, _, ox.ok, oz.ok, ox.len.trans oz.len.symm, ox.pm, oz.pm, odd, rfl, rfl, rfl⟩) (by rw [bes_eq]; rfl)))))), .rt⟩
theorem ok_back (F : Fun K "back" "Table.back" sTBack f fd) (T : TM mg) (T2 : TC K mg C) (Tt : TKt K mg CT) (cn_ : Cf P w K mg base 1 "need_word" [] (rNeed C)) (cs : Cf P w K mg base 1 "signed_text" [] rSigned) (ci : Ci P w K mg base 2 C "Word" [] (rInit C)) (cm : Cm P w K mg base 5 C "__mul__" [] (rMul C)) (cim : Cm P w K mg base 6 CT "_image" [] (rImage C CT)) : FnOk P w K mg base (L2.CX P w) 8 f fd ["self", "word"] (spD K (rBack C CT)) := by
  refine fn_Dy (k := 7) F scTBack (fun ss μ r μ' h => by obtain ⟨_, _, _, _, _, _, _, rfl, _⟩ := h; rfl) ?_
  intro cdv A0 outer s0 H E N W ss μ r μ' g hA hR
  obtain ⟨n, ws, ⟨s, L⟩, v, hT, hx, hv, rfl, rfl, rfl⟩ := hR
  have h1 := hT.h1
  have h4 := hT.h4
  have hl : L.length = n := hx.len
  have hL : okL L := hx.ok
  have hI : okL (List.replicate n 73) := ⟨by simpa using h1, by simpa using h4, fun c hc => by rw [(List.mem_replicate.mp hc).2]; decide⟩
  have d0 : DS (cxOf (L2.CX P w) P w K mg base ["self", "word", "made", "wire", "letter"] "Table.back" (defScope sTBack) f cdv A0 outer s0 H E) N W (starts ["self", "word", "made", "wire", "letter"] [.p (tblD C CT n ws), .p (wdV C (s, L))]) μ' ((defBody sTBack).getD 0 (.Pass ⟨0, 0, 0, 0⟩)) (.nx (starts ["self", "word", "made", "wire", "letter"] [.p (tblD C CT n ws), .p (wdV C (s, L))]) μ') :=
    ds_expr (de_call g cn_ (da_cons (de_var 1) (da_cons (de_fld (de_var 0) g Tt.ci.cl Tt.nW) da_nil)) ⟨L, s, hL, by rw [hl]; rfl, rfl, rfl⟩)
  have d1 : DS (cxOf (L2.CX P w) P w K mg base ["self", "word", "made", "wire", "letter"] "Table.back" (defScope sTBack) f cdv A0 outer s0 H E) N W (starts ["self", "word", "made", "wire", "letter"] [.p (tblD C CT n ws), .p (wdV C (s, L))]) μ' ((defBody sTBack).getD 1 (.Pass ⟨0, 0, 0, 0⟩)) (.nx [some (.p (tblD C CT n ws)), some (.p (wdV C (s, L))), some (.p (wdV C (s, List.replicate n 73))), none, none] μ') :=
    ds_set 2 (de_word g ci hI hx.pm (de_call g cs (da_cons (de_bin (de_of (d' := .str ⟨#[73]⟩) de_str rfl) (de_fld (de_var 0) g Tt.ci.cl Tt.nW) (mul_I h4)) (da_cons (de_fld (de_var 1) g T2.ci.cl T2.nS) da_nil)) ⟨List.replicate n 73, s, hI.four, rfl, rfl, rfl⟩)) g.nd
  refine dys_one d0 (dys_one d1 (dys_cons (dy_for (ds := (idx 0 L).map fun p : Nat × Nat => D.tup [inD p.1, .str ⟨#[p.2]⟩]) (I := fun i δ μ => μ = μ' ∧ ∃ (t : Wp) (x3 x4 : Option S), okX n t ∧ ((idx 0 L).drop i).foldl (stepB ws) (some t) = some v ∧ δ = [some (.p (tblD C CT n ws)), some (.p (wdV C (s, L))), some (.p (wdV C t)), x3, x4]) g
    (diy_of (di_of (di_enumS g (da_cons (de_fld (de_var 1) g T2.ci.cl T2.nL) da_nil) T.enum) (by rw [chars_st]; exact idx_enum (fun c => D.str ⟨#[c]⟩) L 0))) (dg_tup (dgs_cons (dg_name 3 g.nd) (dgs_cons (dg_name 4 g.nd) dgs_nil)) g.hK g.calm) ⟨rfl, (s, List.replicate n 73), none, none, ⟨hI, by simp, hx.pm⟩, hv, rfl⟩ ?body) ?after ?others))
  case others =>
    rintro o ⟨δ1, μ1, rfl, _⟩ hn
    exact (hn trivial).elim
  case after =>
    rintro δ1 μ1 ⟨δ2, μ2, e, rfl, t, x3, x4, ht, hf, rfl⟩
    cases e
    rw [List.length_map, List.drop_length] at hf
    cases hf
    exact dys_of (dss_ret (de_var 2)) .rt
  case body =>
    rintro i d hd δ1 μ1 ⟨rfl, t, x3, x4, ht, hf, rfl⟩
    rw [List.getElem?_map] at hd
    obtain ⟨⟨k, c⟩, hp, rfl⟩ := Option.map_eq_some_iff.mp hd
    have hil := (List.getElem?_eq_some_iff.mp hp).1
    have hpe : (idx 0 L)[i] = (k, c) := by rw [List.getElem?_eq_getElem hil] at hp; exact Option.some.inj hp
    rw [List.drop_eq_getElem_cons hil, hpe, List.foldl_cons] at hf
    rw [idx_get] at hp
    obtain ⟨c', hc1, e1⟩ := Option.map_eq_some_iff.mp hp
    injection e1 with e2 e3
    subst e3
    have e2 : k = i := by omega
    subst e2
    have hk : k < n := by rw [← hl]; exact (List.getElem?_eq_some_iff.mp hc1).1
    have hc : c' ∈ IXYZ := hL.all c' (List.mem_of_getElem? hc1)
    have tt : DT (cxOf (L2.CX P w) P w K mg base ["self", "word", "made", "wire", "letter"] "Table.back" (defScope sTBack) f cdv A0 outer s0 H E) N W [some (.p (tblD C CT n ws)), some (.p (wdV C (s, L))), some (.p (wdV C t)), some (.p (inD k)), some (.p (.str ⟨#[c']⟩))] μ1 (ifC ((bodyOf sTBack 2).getD 0 (.Pass ⟨0, 0, 0, 0⟩))) (!decide (c' = 73)) μ1 :=
      dt_of (dt_cmp (de_var 4) de_str o_neS) (by show (!decide ((⟨#[c']⟩ : Str) = ⟨#[73]⟩)) = _; congr 1; exact decide_eq_decide.mpr ⟨fun h => by simpa using h, fun h => by rw [h]⟩)
    have hs : stepB ws (some t) (k, c') = if c' = 73 then some t else (imgF ws k c').bind fun y => mulO t y := rfl
    rw [hs] at hf
    by_cases h73 : c' = 73
    · rw [if_pos h73] at hf
      exact ⟨_, rfl, dys_of (dss_skip (dt_of tt (by rw [decide_eq_true h73]; rfl)) dss_nil) ⟨_, _, rfl, rfl, t, _, _, ht, hf, rfl⟩⟩
    · rw [if_neg h73] at hf
      cases hy : imgF ws k c' with
      | none =>
        rw [hy, show ((none : Option Wp).bind fun y => mulO t y) = none from rfl, fold_none] at hf
        cases hf
      | some y =>
        rw [hy, show ((some y).bind fun y => mulO t y) = mulO t y from rfl] at hf
        cases hm : mulO t y with
        | none =>
          rw [hm, fold_none] at hf
          cases hf
        | some t2 =>
          rw [hm] at hf
          obtain ⟨_, _, _, _, oa, ob, hyc⟩ := imgF_at hT hk hy
          have oy := imgC_ok oa ob hyc
          obtain ⟨ot, hq, rfl⟩ := mulO_ok ht oy hm
          exact ⟨_, rfl, dys_of (dss_ifT (dt_of tt (by rw [decide_eq_false h73]; rfl)) (dss_cons (ds_set 2 (de_of (d' := wdV C (prM 0 t y)) (de_binOwn g cm T2.sf (de_var 2) (de_meth g cim (de_var 0) (da_cons (de_var 4) (da_cons (de_var 3) da_nil)) ⟨n, k, c', ws, y, hT, hk, hc, hy, rfl, rfl, rfl⟩) ⟨_, _, _, _, ht.ok, oy.ok, ht.len.trans oy.len.symm, ht.pm, oy.pm, hq, rfl, rfl, rfl⟩) (by rw [bes_eq]; unfold prM wdV; rw [Int.add_zero])) g.nd) (cn dss_nil)) (cn dss_nil)) ⟨_, _, rfl, rfl, _, _, _, ot, hf, rfl⟩⟩
theorem ok_teq (F : Fun K "__eq__" "Table.__eq__" sTEq f fd) (T : TM mg) (Tt : TKt K mg CT) (ce : Cm P w K mg base 1 C "__eq__" [] (rEq C)) : FnOk P w K mg base (L2.CX P w) 3 f fd ["self", "other"] (spD K (rTEq C CT)) := by
  refine fn_D (k := 2) F scTEq (fun ss μ r μ' h => by obtain ⟨_, _, _, _, rfl, _⟩ := h; rfl) ?_
  intro cdv A0 outer s0 H E N W ss μ r μ' g hA hR
  obtain ⟨n, m, ws, us, rfl, rfl, rfl⟩ := hR
  exact ⟨_, dss_ret (de_of (d' := .bl (decide (ws = us))) (de_and (k := true) (k' := decide (ws = us)) (de_callB (id := "isinstance") (da_cons (de_var 1) (da_cons (de_glob (v := .ref CT) Tt.at_ rfl (fun _ _ => .adr _)) da_nil)) (c_isi g (.ins _ _ _ Tt.ci) (.adr CT) kit_same) T.isinstance (by decide +kernel)) (fun _ => de_one (de_cmp (de_fld (de_var 0) g Tt.ci.cl Tt.nI) (de_fld (de_var 1) g Tt.ci.cl Tt.nI) (o_wdsEq g ce)))) rfl), .rt⟩
theorem ok_lbeside (F : Fun K "_letters_beside" "_letters_beside" sLBeside f fd) (T : TM mg) (Z : TBk w K mg la) : FnOk P w K mg base (L2.CX P w) 1 f fd ["passing"] (spD K rLBeside) := by
  refine fn_D (k := 0) F scLBeside (fun ss μ r μ' h => by obtain ⟨_, _, rfl, _⟩ := h; rfl) ?_
  intro cdv A0 outer s0 H E N W ss μ r μ' g hA hR
  obtain ⟨l, h8, rfl, rfl, rfl⟩ := hR
  obtain ⟨bs, m, B, hf⟩ := Z.bd
  have l1 := evens_lens l
  have l2 := evens_lens (l.drop 1)
  rw [List.length_drop] at l2
  have e0 : (l.map D.bl).length ≤ 100000 := by rw [List.length_map]; omega
  have ez : (evens (l.map D.bl)).zipWith (fun a b => D.tup [a, b]) (evens ((l.map D.bl).drop 1)) = ((evens l).zip (evens (l.drop 1))).map fun p => .tup [.bl p.1, .bl p.2] := by
    rw [← List.map_drop, evens_map, evens_map, List.zipWith_map, List.zip, List.map_zipWith]
  exact ⟨_, dss_ret (de_bm PySem.F.plainAttrs_str PySem.F.slot_str_join PySem.F.type_str_join de_str (da_cons (s := .p (.lst (((evens l).zip (evens (l.drop 1))).map fun p => .str ⟨#[lbF p.1 p.2]⟩))) (de_lc g [("x", 1), ("z", 2)] (di_of (di_zip g (da_cons (de_even g (de_var 0) e0) (da_cons (de_odd g (de_var 0) e0) da_nil)) (.lst _) (.lst _) T.zip) ez) (fun s H C cl fp => dg_tup (dgs_cons (dg_name 1 g.nd) (dgs_cons (dg_name 2 g.nd) dgs_nil)) g.hK g.calm)
    (of_maps (gd := fun p : Bool × Bool => D.tup [.bl p.1, .bl p.2]) (fy := fun p => .str ⟨#[lbF p.1 p.2]⟩) fun p hp => ⟨_, rfl, fun s H C cl fp N' hK g' => de_bkIx g' B (hf p.1 p.2) (de_glob (v := .ref la) Z.mb rfl (fun _ _ => .adr _)) (de_tup (ds := [.bl p.1, .bl p.2]) (dp_cons (de_var 1) (dp_cons (de_var 2) dp_nil)) (sz (by show 2 ≤ 100000; decide)))⟩) (ok := blkOk_by (by rfl)) (hds := by rw [List.length_map, List.length_zip]; exact sz' (by omega))) da_nil) (m_joinm (l := (evens l).zip (evens (l.drop 1))) (q := fun p => lbF p.1 p.2) (by rw [List.length_zip]; omega))), .rt⟩
theorem ok_tmul (F : Fun K "__mul__" "Table.__mul__" sTMul f fd) (T : TM mg) (Tt : TKt K mg CT) (cb : Cm P w K mg base 8 CT "back" [] (rBack C CT)) (ci : Ci P w K mg base 6 CT "Table" [] (rTInit K C CT CB)) : FnOk P w K mg base (L2.CX P w) 9 f fd ["self", "other"] (spD K (rTMul C CT)) := by
  refine fn_D (k := 8) F scTMul (fun ss μ r μ' h => by obtain ⟨_, _, _, _, _, _, _, _, rfl, _⟩ := h; rfl) ?_
  intro cdv A0 outer s0 H E N W ss μ r μ' g hA hR
  obtain ⟨n, ws, us, vs, hT, hU, hb, hi, rfl, rfl, rfl⟩ := hR
  have lv : vs.length = 2 * n := by
    have := congrArg List.length hb
    rw [List.length_map, List.length_map, hU.len] at this
    exact this.symm
  have h4 := hT.h4
  have at_ : ∀ x ∈ us, ∃ v, backF n ws x = some v := fun x hx => by
    have : backF n ws x ∈ vs.map some := by rw [← hb]; exact List.mem_map_of_mem hx
    obtain ⟨v, _, e⟩ := List.mem_map.mp this
    exact ⟨v, e.symm⟩
  have hv : (us.map fun x => wdV C ((backF n ws x).getD (1, []))) = vs.map (wdV C) := by
    have : (us.map (backF n ws)).map (fun o => wdV C (o.getD (1, []))) = (vs.map some).map (fun o => wdV C (o.getD (1, []))) := by rw [hb]
    rw [List.map_map, List.map_map] at this
    exact this
  have ok : ∀ x ∈ vs, okX n x := fun x hx => by
    have : some x ∈ us.map (backF n ws) := by rw [hb]; exact List.mem_map_of_mem hx
    obtain ⟨y, hy, e⟩ := List.mem_map.mp this
    exact back_ok hT (hU.ok y hy) e
  refine ⟨_, dss_skip (dt_not (dt_val (de_callB (id := "isinstance") (da_cons (de_var 1) (da_cons (de_glob (v := .ref CT) Tt.at_ rfl (fun _ _ => .adr _)) da_nil)) (c_isi g (.ins _ _ _ Tt.ci) (.adr CT) kit_same) T.isinstance (by decide +kernel)))) (dss_skip (dt_of (dt_cmp (de_fld (de_var 1) g Tt.ci.cl Tt.nW) (de_fld (de_var 0) g Tt.ci.cl Tt.nW) o_neI) (by simp))
    (dss_ret (de_tableB g ci hi lv h4 ok (de_callT (T := "tuple") (da_cons (s := .p (.lst (vs.map (wdV C)))) (de_of (de_lc g [("image", 2)] (di_tup g (de_fld (de_var 1) g Tt.ci.cl Tt.nI)) (fun s H C cl fp => dg_name 2 g.nd) (of_maps (gd := wdV C) (fy := fun x => wdV C ((backF n ws x).getD (1, []))) fun x hx => ⟨_, rfl, fun s H C cl fp N' hK g' => by
      obtain ⟨v, hv⟩ := at_ x hx
      rw [hv]
      exact de_meth g' cb (de_var 0) (da_cons (de_var 2) da_nil) ⟨n, ws, x, v, hT, hU.ok x hx, hv, rfl, rfl, rfl⟩⟩) (ok := blkOk_by (by rfl)) (hds := by rw [List.length_map, hU.len]; exact sz' (by omega))) (congrArg D.lst hv)) da_nil) c_tupL T.tuple (by decide +kernel))))), .rt⟩
theorem ok_ledto (F : Fun K "_led_to" "Table._led_to" sTLedTo f fd) (T2 : TC K mg C) (Tt : TKt K mg CT) (cp : Cf P w K mg base 2 "pass_by" [] rPassBy) (cl_ : Cf P w K mg base 1 "_letters_beside" [] rLBeside) (ci : Ci P w K mg base 2 C "Word" [] (rInit C)) (cb : Cm P w K mg base 8 CT "back" [] (rBack C CT)) (cn_ : Cm P w K mg base 4 C "__neg__" [] (rNeg C)) : FnOk P w K mg base (L2.CX P w) 9 f fd ["self", "letters"] (spD K (rLedTo C CT)) := by
  refine fn_D (k := 8) F scTLedTo (fun ss μ r μ' h => by obtain ⟨_, _, _, _, _, _, _, _, rfl, _⟩ := h; rfl) ?_
  intro cdv A0 outer s0 H E N W ss μ r μ' g hA hR
  obtain ⟨n, ws, L, v, hT, hL, hl, hv, rfl, rfl, rfl⟩ := hR
  have h4 := hT.h4
  have pl : (passF L ws).length = 2 * n := by unfold passF; rw [List.length_map, hT.len]
  have ob := besF_ok pl hT.h1 h4
  have e1 : (ws.map fun y => D.bl (decide (qs L y.2 % 2 = 0))) = (passF L ws).map D.bl := by unfold passF; rw [List.map_map]; rfl
  have es : sD (besF (passF L ws)) = D.str (sgn (besF (passF L ws)) 1) := rfl
  by_cases hneg : v.1 < 0
  · exact ⟨_, dss_cons (ds_setLc 2 g [("image", 4)] (di_tup g (de_fld (de_var 0) g Tt.ci.cl Tt.nI)) (fun s H C cl fp => dg_name 4 g.nd) (of_maps (gd := wdV C) (fy := fun y => .bl (decide (qs L y.2 % 2 = 0))) fun y hy => ⟨_, rfl, fun s H C cl fp N' hK g' => de_call g' cp (da_cons (de_var 1) (da_cons (de_fld (de_var 4) g' T2.ci.cl T2.nL) da_nil)) ⟨L, y.2, hL, (hT.ok y hy).ok, hl.trans (hT.ok y hy).len.symm, rfl, rfl, rfl⟩⟩) (ok := blkOk_by (by rfl)) (hds := by rw [List.length_map, hT.len]; exact sz' (by omega))) (cn (dss_cons (ds_set 3 (de_word (L := besF (passF L ws)) (s := 1) g ci ob.ok (.inl rfl) (de_call g cl_ (da_cons (s := .p (.lst ((passF L ws).map D.bl))) (de_of (de_var 2) (congrArg D.lst e1)) da_nil) ⟨passF L ws, by omega, rfl, rfl, rfl⟩)) g.nd) (cn
      (dss_ifT (dt_of (dt_cmp (de_fld (de_meth g cb (de_var 0) (da_cons (de_var 3) da_nil) ⟨n, ws, (1, besF (passF L ws)), v, hT, ob, hv, rfl, rfl, rfl⟩) g T2.ci.cl T2.nS) de_int o_lt) (decide_eq_true hneg)) (dss_ret (de_of (d' := wdV C (ledTo ws L v)) (de_negOwn g cn_ (de_var 3) ⟨besF (passF L ws), 1, ob.ok, .inl rfl, rfl, rfl, rfl⟩) (by unfold ledTo; rw [if_pos hneg]; rfl))) cr)))), .rt⟩
  · exact ⟨_, dss_cons (ds_setLc 2 g [("image", 4)] (di_tup g (de_fld (de_var 0) g Tt.ci.cl Tt.nI)) (fun s H C cl fp => dg_name 4 g.nd) (of_maps (gd := wdV C) (fy := fun y => .bl (decide (qs L y.2 % 2 = 0))) fun y hy => ⟨_, rfl, fun s H C cl fp N' hK g' => de_call g' cp (da_cons (de_var 1) (da_cons (de_fld (de_var 4) g' T2.ci.cl T2.nL) da_nil)) ⟨L, y.2, hL, (hT.ok y hy).ok, hl.trans (hT.ok y hy).len.symm, rfl, rfl, rfl⟩⟩) (ok := blkOk_by (by rfl)) (hds := by rw [List.length_map, hT.len]; exact sz' (by omega))) (cn (dss_cons (ds_set 3 (de_word (L := besF (passF L ws)) (s := 1) g ci ob.ok (.inl rfl) (de_call g cl_ (da_cons (s := .p (.lst ((passF L ws).map D.bl))) (de_of (de_var 2) (congrArg D.lst e1)) da_nil) ⟨passF L ws, by omega, rfl, rfl, rfl⟩)) g.nd) (cn
      (dss_skip (dt_of (dt_cmp (de_fld (de_meth g cb (de_var 0) (da_cons (de_var 3) da_nil) ⟨n, ws, (1, besF (passF L ws)), v, hT, ob, hv, rfl, rfl, rfl⟩) g T2.ci.cl T2.nS) de_int o_lt) (decide_eq_false hneg)) (dss_ret (de_of (d' := wdV C (ledTo ws L v)) (de_var 3) (by unfold ledTo; rw [if_neg hneg]; rfl))))))), .rt⟩
theorem ok_tinv (F : Fun K "__invert__" "Table.__invert__" sTInv f fd) (T : TM mg) (Tt : TKt K mg CT) (cf : Cf P w K mg base 2 "first_words" [] rFirst) (cl_ : Cm P w K mg base 9 CT "_led_to" [] (rLedTo C CT)) (ci : Ci P w K mg base 6 CT "Table" [] (rTInit K C CT CB)) : FnOk P w K mg base (L2.CX P w) 10 f fd ["self"] (spD K (rTInv C CT)) := by
  refine fn_D (k := 9) F scTInv (fun ss μ r μ' h => by obtain ⟨_, _, _, _, _, _, rfl, _⟩ := h; rfl) ?_
  intro cdv A0 outer s0 H E N W ss μ r μ' g hA hR
  obtain ⟨n, ws, vs, hT, hb, hi, rfl, rfl, rfl⟩ := hR
  have h4 := hT.h4
  obtain ⟨f1, f2⟩ := first_ok n hT.h1 h4
  have lv : vs.length = 2 * n := by
    have := congrArg List.length hb
    rw [List.length_map, List.length_map, f1] at this
    exact this.symm
  have at_ : ∀ L ∈ firstF n, ∃ v, backF n ws (1, besF (passF L ws)) = some v := fun L hL => by
    have : ((backF n ws (1, besF (passF L ws))).map fun v => ledTo ws L v) ∈ vs.map some := by rw [← hb]; exact List.mem_map_of_mem (f := fun L => (backF n ws (1, besF (passF L ws))).map fun v => ledTo ws L v) hL
    obtain ⟨v, _, e⟩ := List.mem_map.mp this
    cases q : backF n ws (1, besF (passF L ws)) with
    | none => rw [q] at e; cases e
    | some v => exact ⟨v, rfl⟩
  have hv : ((firstF n).map fun L => wdV C (((backF n ws (1, besF (passF L ws))).map fun v => ledTo ws L v).getD (1, []))) = vs.map (wdV C) := by
    have : ((firstF n).map fun L => (backF n ws (1, besF (passF L ws))).map fun v => ledTo ws L v).map (fun o => wdV C (o.getD (1, []))) = (vs.map some).map (fun o => wdV C (o.getD (1, []))) := by rw [hb]
    rw [List.map_map, List.map_map] at this
    exact this
  have ok : ∀ x ∈ vs, okX n x := fun x hx => by
    have : some x ∈ (firstF n).map fun L => (backF n ws (1, besF (passF L ws))).map fun v => ledTo ws L v := by rw [hb]; exact List.mem_map_of_mem hx
    obtain ⟨L, hL, e⟩ := List.mem_map.mp this
    have pl : (passF L ws).length = 2 * n := by unfold passF; rw [List.length_map, hT.len]
    have ob := besF_ok pl hT.h1 h4
    cases q : backF n ws (1, besF (passF L ws)) with
    | none => rw [q] at e; cases e
    | some v =>
      rw [q] at e
      cases e
      refine ⟨ob.ok, ob.len, ?_⟩
      show (if v.1 < 0 then (-1 : Int) else 1) = 1 ∨ (if v.1 < 0 then (-1 : Int) else 1) = -1
      split
      · exact .inr rfl
      · exact .inl rfl
  exact ⟨_, dss_ret (de_tableB g ci hi lv h4 ok (de_callT (T := "tuple") (da_cons (s := .p (.lst (vs.map (wdV C)))) (de_of (de_lc g [("letters", 1)] (di_lst g (de_call g cf (da_cons (de_fld (de_var 0) g Tt.ci.cl Tt.nW) da_nil) ⟨n, hT.h1, h4, rfl, rfl, rfl⟩)) (fun s H C cl fp => dg_name 1 g.nd) (of_maps (gd := sD) (fy := fun L => wdV C (((backF n ws (1, besF (passF L ws))).map fun v => ledTo ws L v).getD (1, []))) fun L hL => ⟨_, rfl, fun s H C cl fp N' hK g' => by
      obtain ⟨v, hv⟩ := at_ L hL
      rw [hv]
      exact de_meth g' cl_ (de_var 0) (da_cons (de_var 1) da_nil) ⟨n, ws, L, v, hT, (f2 L hL).1, (f2 L hL).2, hv, rfl, rfl, rfl⟩⟩) (ok := blkOk_by (by rfl)) (hds := by rw [List.length_map, f1]; exact sz' (by omega))) (congrArg D.lst hv)) da_nil) c_tupL T.tuple (by decide +kernel))), .rt⟩
end
end K79
set_option Elab.async false
set_option linter.all false
set_option maxRecDepth 100000
set_option maxHeartbeats 4000000
set_option autoImplicit false
namespace K79F
open PySem PySem.Spec PyProof.Rows L2 Dl Cq
theorem cut_take {α : Type} (l : List α) {i : Nat} (h : i ≤ l.length) : cutX l none (some (i : Int)) = l.take i := by
  unfold cutX
  rw [sIx_nat, sIx_no, List.drop_zero, Nat.min_eq_left h, Nat.sub_zero]
theorem cut_drop {α : Type} (l : List α) {i : Nat} (h : i ≤ l.length) : cutX l (some (i : Int)) none = l.drop i := by
  unfold cutX
  rw [sIx_nat, sIx_no, Nat.min_eq_left h]
  exact List.take_of_length_le (by rw [List.length_drop]; omega)
theorem scIsWhole : FnScope ["value"] ["value"] (defScope sIsWhole) := ⟨rfl, rfl, rfl, by decide +kernel, rfl, by decide +kernel, by decide +kernel⟩
theorem scCPut : FnScope ["self", "place", "line"] ["self", "place", "line"] (defScope sCPut) := ⟨rfl, rfl, rfl, by decide +kernel, rfl, by decide +kernel, by decide +kernel⟩
structure TB (K : PySem.W.Frag) (mg : Str → Option Value) : Prop where
  bool : mg "bool" = none
  sorted : mg "sorted" = none
  ib : PySem.W.kitOne K (.type "int") (.type "bool") = some false
def rWhole : Rel := fun ss μ r μ' => ∃ (i : Int), ss = [.p (.int i)] ∧ r = .v (.p (.bl true)) ∧ μ' = μ
def putF (ls : List Ln) (i : Nat) (l : Ln) : List Ln := ls.take i ++ [l] ++ ls.drop i
def rCPut (CC : Addr) : Rel := fun ss μ r μ' => ∃ (n : Nat) (ls : List Ln) (i : Nat) (l : Ln), okC n ls ∧ okLn n l ∧ i ≤ ls.length ∧ okC n (putF ls i l) ∧ ss = [.p (circD CC n ls), .p (.int (i : Nat)), .p (.str (st (lt l)))] ∧ r = .v (.p (circD CC n (putF ls i l))) ∧ μ' = μ
theorem fit_of {CC CL CM : Addr} {n : Nat} {ls : List Ln} (h : okC n ls) : fitR CC CL CM n ls (.v (.p (circD CC n ls))) := by
  unfold fitR
  rw [if_neg (by have := h.len; omega), if_neg (by have := h.six; omega)]
section
variable {P : Program} {w : World} {K : PySem.W.Frag} {mg : Str → Option Value} {base : Heap} {f C : Addr} {fd : FuncData} {CC CO CL CM aS aT aW aA aP : Addr}
theorem ok_whole (F : Fun K "is_whole" "is_whole" sIsWhole f fd) (T : TM mg) (B : TB K mg) : FnOk P w K mg base (L2.CX P w) 1 f fd ["value"] (spD K rWhole) := by
  refine fn_D (k := 0) F scIsWhole (fun ss μ r μ' h => by obtain ⟨d, rfl, _⟩ := h; rfl) ?_
  intro cdv A outer s0 H E N W ss μ r μ' g hA hR
  obtain ⟨i, rfl, rfl, rfl⟩ := hR
  exact ⟨_, dss_ret (de_of (d' := .bl true) (de_and (k := true) (k' := true) (de_callB (id := "isinstance") (da_cons (de_var 0) (da_cons (de_ty T.int (by decide +kernel)) da_nil)) (c_isi g (.int _) (.ty _) kit_same) T.isinstance (by decide +kernel)) (fun _ => de_one (de_not (de_callB (id := "isinstance") (da_cons (de_var 0) (da_cons (de_ty B.bool (by decide +kernel)) da_nil)) (c_isi g (.int _) (.ty _) B.ib) T.isinstance (by decide +kernel))))) rfl), .rt⟩
theorem ok_cput (F : Fun K "put" "Circuit.put" sCPut f fd) (T : TM mg) (TK : TKc K mg CC) (cw : Cf P w K mg base 1 "is_whole" [] rWhole) (cr_ : Cf P w K mg base 5 "read_line" [] rReadL) (cf : Cf P w K mg base 10 "_fitting" [] (rFitting CC CL CM)) : FnOk P w K mg base (L2.CX P w) 11 f fd ["self", "place", "line"] (spD K (rCPut CC)) := by
  refine fn_D (k := 10) F scCPut (fun ss μ r μ' h => by obtain ⟨_, _, _, _, _, _, _, _, rfl, _⟩ := h; rfl) ?_
  intro cdv A outer s0 H E N W ss μ r μ' g hA hR
  obtain ⟨n, ls, i, l, hok, hln, hi, hput, rfl, rfl, rfl⟩ := hR
  have hl := hok.len
  have hl2 := hput.len
  have e1 : cutX (lnsD ls) none (some (i : Int)) ++ (.str (st (lt l)) :: (cutX (lnsD ls) (some (i : Int)) none ++ [])) = lnsD (putF ls i l) := by
    rw [cut_take _ (by rw [lnsD, List.length_map]; omega), cut_drop _ (by rw [lnsD, List.length_map]; omega)]
    simp [putF, lnsD, List.map_take, List.map_drop]
  have hlen : ((lnsD ls).length : Int) = (ls.length : Nat) := by rw [lnsD, List.length_map]
  refine ⟨_, dss_skip (dt_w (dw_or (k := false) (k' := false) (dt_of (dt_not (dt_val (de_call g cw (da_cons (de_var 1) da_nil) ⟨i, rfl, rfl, rfl⟩))) rfl) (fun _ => dw_or1 (dt_of (dt_not (dt_chn (k := true) (k' := true) de_int (de_var 1) ?a1 (fun _ => de_callB (id := "len") (da_cons (de_fld (de_var 0) g TK.ci.cl TK.n2) da_nil) (c_lenT g) T.len (by decide +kernel)) (fun _ => ?a2))) rfl))))
    (dss_skip (dt_of (dt_cmp (de_call g cr_ (da_cons (de_var 2) (da_cons (de_fld (de_var 0) g TK.ci.cl TK.n4) da_nil)) ⟨n, l, hok.w1, hok.w4, hln, rfl, rfl, rfl⟩) de_non o_isN) (isNon_stp l))
    (dss_ret (de_call g cf (da_cons (de_fld (de_var 0) g TK.ci.cl TK.n4) (da_cons (s := .p (.lst (lnsD (putF ls i l)))) (de_of (de_lst (dp_starT (de_cutTt g (de_fld (de_var 0) g TK.ci.cl TK.n2) (de_var 1)) (dp_cons (de_var 2) (dp_starT (de_cutTf g (de_fld (de_var 0) g TK.ci.cl TK.n2) (de_var 1)) dp_nil g.hK)) g.hK) ?a3) (congrArg D.lst e1)) da_nil)) ⟨n, _, hok.w1, hok.w4, hput.ok, by omega, rfl, rfl, fit_of hput⟩))), .rt⟩
  case a1 => exact Eq.mp (congrArg (fun b => OpOk _ N W _ μ' _ _ (.v (.p (.bl b))) μ') (decide_eq_true (by omega))) o_le
  case a2 => exact Eq.mp (congrArg (fun b => OpOk _ N W _ μ' _ _ (.v (.p (.bl b))) μ') (decide_eq_true (by rw [hlen]; omega))) o_le
  case a3 =>
    rw [e1, lnsD, List.length_map]
    exact sz (by omega)
end
end K79F
set_option Elab.async false
set_option linter.all false
set_option maxRecDepth 100000
set_option maxHeartbeats 4000000
set_option autoImplicit false
namespace K79
open PySem PySem.Spec PyProof.Rows L2 Dl Cq
def bodyOf2 (s : Stmt) (i j : Nat) : List Stmt := match (bodyOf s i).getD j (.Pass ⟨0, 0, 0, 0⟩) with
  | .For _ _ b _ _ => b
  | _ => []
/-! ### lines for a Table -/
theorem scMoved : FnScope ["letters", "about"] ["letters", "about"] (defScope sMoved) := ⟨rfl, rfl, rfl, by decide +kernel, rfl, by decide +kernel, by decide +kernel⟩
theorem scWays : FnScope ["now", "goal", "done", "middles", "pairs", "one", "pair", "about"] ["now", "goal", "done"] (defScope sWays) := ⟨rfl, rfl, rfl, by decide +kernel, rfl, by decide +kernel, by decide +kernel⟩
theorem scQTo : FnScope ["table", "now", "wanted", "found", "at", "about", "image", "letters"] ["table"] (defScope sQuartersTo) := ⟨rfl, rfl, rfl, by decide +kernel, rfl, by decide +kernel, by decide +kernel⟩
theorem scGates : FnScope ["table", "about", "lines", "circuit", "now", "one", "other"] ["table"] (defScope sGates) := ⟨rfl, rfl, rfl, by decide +kernel, rfl, by decide +kernel, by decide +kernel⟩
def mvF (a L : List Nat) : List Nat := if qs a L % 2 = 0 then L else mk a L
def wyF (now goal : List Nat) : List (List Nat) := if now = goal then [] else [mk now goal]
def okSt (now goal : List Nat) : Bool := decide (now = goal) || !decide (qs now goal % 2 = 0)
abbrev StQ := List (List Nat) × List (List Nat)
def inQ (t : StQ) (a : List Nat) : StQ := (t.1.map (mvF a), t.2 ++ [a])
def outQ (wd : List (List Nat)) (t : StQ) (i : Nat) : StQ := (wyF (t.1.getD i []) (wd.getD i [])).foldl inQ t
def stQ (n : Nat) (ws : List Wp) (i : Nat) : StQ := (List.range i).foldl (outQ (firstF n)) (ws.map (·.2), [])
def quF (n : Nat) (ws : List Wp) : List (List Nat) := (stQ n ws (2 * n)).2
def chkQ (n : Nat) (ws : List Wp) : Bool := (List.range (2 * n)).all fun i => okSt ((stQ n ws i).1.getD i []) ((firstF n).getD i [])
theorem stQ_succ (n : Nat) (ws : List Wp) (i : Nat) : stQ n ws (i + 1) = outQ (firstF n) (stQ n ws i) i := by
  unfold stQ
  rw [List.range_succ, List.foldl_append]
  rfl
structure okNow (n : Nat) (t : StQ) : Prop where
  len : t.1.length = 2 * n
  ok : ∀ L ∈ t.1, okL L ∧ L.length = n
theorem okNow.at_ {n : Nat} {t : StQ} (h : okNow n t) {i : Nat} (hi : i < 2 * n) : okL (t.1.getD i []) ∧ (t.1.getD i []).length = n := by
  rw [List.getD_eq_getElem?_getD, List.getElem?_eq_getElem (by rw [h.len]; exact hi)]
  exact h.ok _ (List.getElem_mem _)
theorem first_at {n i : Nat} (h1 : 1 ≤ n) (h4 : n ≤ 4) (hi : i < 2 * n) : okL ((firstF n).getD i []) ∧ ((firstF n).getD i []).length = n := by
  obtain ⟨a, b⟩ := first_ok n h1 h4
  rw [List.getD_eq_getElem?_getD, List.getElem?_eq_getElem (by rw [a]; exact hi)]
  exact b _ (List.getElem_mem _)
theorem mvF_ok {n : Nat} {a L : List Nat} (ha : okL a ∧ a.length = n) (hL : okL L ∧ L.length = n) : okL (mvF a L) ∧ (mvF a L).length = n := by
  unfold mvF
  split
  · exact hL
  · have hl := ha.2.trans hL.2.symm
    exact ⟨mk_ok ha.1 hL.1 hl, (mk_len hl).trans ha.2⟩
theorem wyF_ok {n : Nat} {A B : List Nat} (ha : okL A ∧ A.length = n) (hb : okL B ∧ B.length = n) : (wyF A B).length ≤ 1 ∧ ∀ a ∈ wyF A B, okL a ∧ a.length = n := by
  unfold wyF
  split
  · exact ⟨by decide, fun a h => by cases h⟩
  · have hl := ha.2.trans hb.2.symm
    exact ⟨by simp, fun a h => by rw [List.mem_singleton.mp h]; exact ⟨mk_ok ha.1 hb.1 hl, (mk_len hl).trans ha.2⟩⟩
theorem inQ_ok {n : Nat} {t : StQ} {a : List Nat} (h : okNow n t) (ha : okL a ∧ a.length = n) : okNow n (inQ t a) := by
  refine ⟨by show (t.1.map (mvF a)).length = _; rw [List.length_map]; exact h.len, fun L hL => ?_⟩
  obtain ⟨M, hM, rfl⟩ := List.mem_map.mp (show L ∈ t.1.map (mvF a) from hL)
  exact mvF_ok ha (h.ok M hM)
theorem inQs_ok {n : Nat} : ∀ (l : List (List Nat)) (t : StQ), okNow n t → (∀ a ∈ l, okL a ∧ a.length = n) → okNow n (l.foldl inQ t) ∧ (l.foldl inQ t).2.length = t.2.length + l.length
  | [], t, h, _ => ⟨h, rfl⟩
  | a :: l, t, h, k => by
    obtain ⟨p, q⟩ := inQs_ok l (inQ t a) (inQ_ok h (k a List.mem_cons_self)) (fun b hb => k b (List.mem_cons_of_mem _ hb))
    refine ⟨p, ?_⟩
    rw [List.foldl_cons, q]
    show (t.2 ++ [a]).length + l.length = _
    rw [List.length_append, List.length_cons]
    simp
    omega
theorem stQ_ok {n : Nat} {ws : List Wp} (T : okT n ws) : ∀ i, i ≤ 2 * n → okNow n (stQ n ws i) ∧ (stQ n ws i).2.length ≤ i
  | 0, _ => ⟨⟨by show (ws.map (·.2)).length = _; rw [List.length_map, T.len], fun L hL => by
    obtain ⟨x, hx, rfl⟩ := List.mem_map.mp (show L ∈ ws.map (·.2) from hL)
    exact ⟨(T.ok x hx).ok, (T.ok x hx).len⟩⟩, Nat.le_refl _⟩
  | i + 1, h => by
    obtain ⟨p, q⟩ := stQ_ok T i (by omega)
    rw [stQ_succ]
    obtain ⟨a, b⟩ := wyF_ok (p.at_ (show i < 2 * n by omega)) (first_at T.h1 T.h4 (show i < 2 * n by omega))
    obtain ⟨c, d⟩ := inQs_ok _ _ p b
    exact ⟨c, by unfold outQ; omega⟩
def rMoved : Rel := fun ss μ r μ' => ∃ (A L : List Nat), okL A ∧ okL L ∧ A.length = L.length ∧ ss = [.p (sD L), .p (sD A)] ∧ r = .v (.p (sD (mvF A L))) ∧ μ' = μ
def rWays : Rel := fun ss μ r μ' => ∃ (A B : List Nat) (d : D), okL A ∧ okL B ∧ A.length = B.length ∧ okSt A B = true ∧ ss = [.p (sD A), .p (sD B), .p d] ∧ r = .v (.p (.tup ((wyF A B).map sD))) ∧ μ' = μ
def rQTo (C CT : Addr) : Rel := fun ss μ r μ' => ∃ (n : Nat) (ws : List Wp), okT n ws ∧ chkQ n ws = true ∧ ss = [.p (tblD C CT n ws)] ∧ r = .v (.p (.lst ((quF n ws).map sD))) ∧ μ' = μ
def qLn (n : Nat) (ws : List Wp) : List Ln := (quF n ws).map fun L => .ab true 1 L
def eqsF (a b : List Wp) : List Bool := (a.zip b).map fun p => decide (p.1 = p.2)
def gF (n : Nat) (ws : List Wp) : List Ln := if besF (eqsF (imF n (qLn n ws)) ws) = List.replicate n 73 then qLn n ws else qLn n ws ++ [.ab false 1 (besF (eqsF (imF n (qLn n ws)) ws))]
def rGates (C CC CT : Addr) : Rel := fun ss μ r μ' => ∃ (n : Nat) (ws : List Wp), okT n ws ∧ chkQ n ws = true ∧ okC n (qLn n ws) ∧ imgB ((imF n (qLn n ws)).map toEl) = true ∧ okC n (gF n ws) ∧ ss = [.p (tblD C CT n ws)] ∧ r = .v (.p (circD CC n (gF n ws))) ∧ μ' = μ
section
variable {X : Cx} {N : En} {W : WX} {δ : List (Option S)} {μ μ1 : List M} {e : Expr} {pos : Pos}
theorem de_fmtS {z : Str} (h : DE X N W δ μ e (.v (.p (.str z))) μ1) (hz : z.length ≤ sizeLine) : DE X N W δ μ (.FormattedValue e (-1) none pos) (.v (.p (.str z))) μ1 :=
  PE.imp (pe_fmt h) fun σ H Q ⟨F, A, R, k⟩ => ⟨F, A, R, fun v F1 A1 H1 e1 p1 R1 rv => .inl ⟨z, rs_str rv, hz, k _ F1 A1 H1 e1 p1 R1 (.str _)⟩⟩
end
theorem fstr_ab (q : Bool) (L : List Nat) : catS Str.empty [Str.ofString (if q then "quarter " else "flip "), st L] = st (lt (.ab q 1 L)) := by
  cases q
  · show ((Str.empty ++ Str.ofString "flip ") ++ st L) = _
    rw [show (Str.empty ++ Str.ofString "flip ") = st [102, 108, 105, 112, 32] from by decide, st_app]
    rfl
  · show ((Str.empty ++ Str.ofString "quarter ") ++ st L) = _
    rw [show (Str.empty ++ Str.ofString "quarter ") = st [113, 117, 97, 114, 116, 101, 114, 32] from by decide, st_app]
    rfl
section
variable {P : Program} {w : World} {K : PySem.W.Frag} {mg : Str → Option Value} {base : Heap} {qa ta la f C CC CT CB : Addr} {fd : FuncData}
theorem ok_moved (F : Fun K "_moved" "_moved" sMoved f fd) (cp : Cf P w K mg base 2 "pass_by" [] rPassBy) (cm : Cf P w K mg base 2 "made_letters" [] rMade) : FnOk P w K mg base (L2.CX P w) 3 f fd ["letters", "about"] (spD K rMoved) := by
  refine fn_D (k := 2) F scMoved (fun ss μ r μ' h => by obtain ⟨_, _, _, _, _, rfl, _⟩ := h; rfl) ?_
  intro cdv A0 outer s0 H E N W ss μ r μ' g hA hR
  obtain ⟨A, L, hA0, hL, hl, rfl, rfl, rfl⟩ := hR
  by_cases h : qs A L % 2 = 0
  · rw [show mvF A L = L from if_pos h]
    exact ⟨_, dss_ifT (dt_of (dt_val (de_call g cp (da_cons (de_var 1) (da_cons (de_var 0) da_nil)) ⟨A, L, hA0, hL, hl, rfl, rfl, rfl⟩)) (decide_eq_true h)) (dss_ret (de_var 0)) cr, .rt⟩
  · rw [show mvF A L = mk A L from if_neg h]
    exact ⟨_, dss_skip (dt_of (dt_val (de_call g cp (da_cons (de_var 1) (da_cons (de_var 0) da_nil)) ⟨A, L, hA0, hL, hl, rfl, rfl, rfl⟩)) (decide_eq_false h)) (dss_ret (de_call g cm (da_cons (de_var 1) (da_cons (de_var 0) da_nil)) ⟨A, L, hA0, hL, hl, rfl, rfl, rfl⟩)), .rt⟩
theorem ok_ways (F : Fun K "_ways" "_ways" sWays f fd) (cp : Cf P w K mg base 2 "pass_by" [] rPassBy) (cm : Cf P w K mg base 2 "made_letters" [] rMade) : FnOk P w K mg base (L2.CX P w) 3 f fd ["now", "goal", "done"] (spD K rWays) := by
  refine fn_D (k := 2) F scWays (fun ss μ r μ' h => by obtain ⟨_, _, _, _, _, _, _, rfl, _⟩ := h; rfl) ?_
  intro cdv A0 outer s0 H E N W ss μ r μ' g hA hR
  obtain ⟨A, B, d, hA0, hB, hl, hok, rfl, rfl, rfl⟩ := hR
  by_cases h : A = B
  · rw [show wyF A B = [] from if_pos h]
    exact ⟨_, dss_ifT (dt_of (dt_cmp (de_var 0) (de_var 1) o_eqS) (decide_eq_true (st_inj.mpr h))) (dss_ret (de_tup (ds := []) dp_nil (sz (by show 0 ≤ 100000; decide)))) cr, .rt⟩
  · have hq : ¬ qs A B % 2 = 0 := by
      unfold okSt at hok
      rw [decide_eq_false h, Bool.false_or] at hok
      simpa using hok
    rw [show wyF A B = [mk A B] from if_neg h]
    exact ⟨_, dss_skip (dt_of (dt_cmp (de_var 0) (de_var 1) o_eqS) (decide_eq_false fun e => h (st_inj.mp e))) (dss_ifT (dt_of (dt_not (dt_val (de_call g cp (da_cons (de_var 0) (da_cons (de_var 1) da_nil)) ⟨A, B, hA0, hB, hl, rfl, rfl, rfl⟩))) (by rw [decide_eq_false hq]; rfl)) (dss_ret (de_tup (ds := [sD (mk A B)]) (dp_cons (de_call g cm (da_cons (de_var 0) (da_cons (de_var 1) da_nil)) ⟨A, B, hA0, hB, hl, rfl, rfl, rfl⟩) dp_nil) (sz (by show 1 ≤ 100000; decide)))) cr), .rt⟩
theorem ok_qto (F : Fun K "_quarters_to" "_quarters_to" sQuartersTo f fd) (T : TM mg) (T2 : TC K mg C) (Tt : TKt K mg CT) (cf : Cf P w K mg base 2 "first_words" [] rFirst) (cw : Cf P w K mg base 3 "_ways" [] rWays) (cm : Cf P w K mg base 3 "_moved" [] rMoved) : FnOk P w K mg base (L2.CX P w) 4 f fd ["table"] (spD K (rQTo C CT)) := by
  refine fn_D (k := 3) F scQTo (fun ss μ r μ' h => by obtain ⟨_, _, _, _, rfl, _⟩ := h; rfl) ?_
  intro cdv A0 outer s0 H E N W ss μ r μ' g hA hR
  obtain ⟨n, ws, hT, hchk, rfl, rfl, rfl⟩ := hR
  have h4 := hT.h4
  obtain ⟨f1, f2⟩ := first_ok n hT.h1 h4
  have e0 : (ws.map fun x => sD x.2) = (ws.map (·.2)).map sD := by rw [List.map_map]; rfl
  obtain ⟨δ', hlo, ⟨x4, x5, rfl⟩, hI⟩ := loop_ix (X := cxOf (L2.CX P w) P w K mg base ["table", "now", "wanted", "found", "at", "about", "image", "letters"] "_quarters_to" (defScope sQuartersTo) f cdv A0 outer s0 H E) (N := N) (W := W) (f := asName 4) (body := bodyOf sQuartersTo 3) (T := StQ) (mu := fun t => μ' ++ [.lst (t.2.map sD)]) (nx := fun i t => outQ (firstF n) t i) (gd := inD)
    (fun i t => t = stQ n ws i) (fun t δ => ∃ x4 x5, δ = [some (.p (tblD C CT n ws)), some (.p (.lst (t.1.map sD))), some (.p (.lst ((firstF n).map sD))), some (.l μ'.length), x4, x5, none, none]) (List.range (2 * n)) 0 [some (.p (tblD C CT n ws)), some (.p (.lst (ws.map fun x => sD x.2))), some (.p (.lst ((firstF n).map sD))), some (.l μ'.length), none, none, none, none] (ws.map (·.2), [])
    (fun i a ha t δ hδ hI => by
      obtain ⟨x4, x5, rfl⟩ := hδ
      have hi : i < 2 * n := by have := (List.getElem?_eq_some_iff.mp ha).1; rwa [List.length_range] at this
      rw [List.getElem?_range hi] at ha
      cases ha
      rw [Nat.zero_add] at hI
      obtain ⟨p, q⟩ := stQ_ok hT i (by omega)
      rw [← hI] at p q
      have a1 := p.at_ hi
      have a2 := first_at hT.h1 h4 hi
      obtain ⟨w1, w2⟩ := wyF_ok a1 a2
      have hc : okSt (t.1.getD i []) ((firstF n).getD i []) = true := by
        rw [hI]
        exact List.all_eq_true.mp hchk i (List.mem_range.mpr hi)
      obtain ⟨δ2, hlo2, ⟨y5, rfl⟩, hI2⟩ := loop_fo (X := cxOf (L2.CX P w) P w K mg base ["table", "now", "wanted", "found", "at", "about", "image", "letters"] "_quarters_to" (defScope sQuartersTo) f cdv A0 outer s0 H E) (N := N) (W := W) (f := asName 5) (body := bodyOf2 sQuartersTo 3 0) (T := StQ) (mu := fun t => μ' ++ [.lst (t.2.map sD)]) (nx := fun a t => inQ t a) (gd := sD)
        (fun k t => okNow n t ∧ t.2.length + k ≤ 20) (fun t δ => ∃ x5, δ = [some (.p (tblD C CT n ws)), some (.p (.lst (t.1.map sD))), some (.p (.lst ((firstF n).map sD))), some (.l μ'.length), some (.p (inD i)), x5, none, none]) (wyF (t.1.getD i []) ((firstF n).getD i [])) [some (.p (tblD C CT n ws)), some (.p (.lst (t.1.map sD))), some (.p (.lst ((firstF n).map sD))), some (.l μ'.length), some (.p (inD i)), x5, none, none] t
        (fun a ha k t δ hδ hI => by
          obtain ⟨x5, rfl⟩ := hδ
          have oa := w2 a ha
          have e1 : (t.1.map fun L => sD (mvF a L)) = (t.1.map (mvF a)).map sD := by rw [List.map_map]; rfl
          refine ⟨⟨inQ_ok hI.1 oa, by show (t.2 ++ [a]).length + k ≤ 20; rw [List.length_append]; have := hI.2; simp; omega⟩, _, _, rfl, dss_cons (ds_setLc 1 g [("letters", 7)] (di_lst g (de_var 1)) (fun s H C cl fp => dg_name 7 g.nd) (of_maps (gd := sD) (fy := fun L => sD (mvF a L)) fun L hL => ⟨_, rfl, fun s H C cl fp N' hK g' => de_call g' cm (da_cons (de_var 7) (da_cons (de_var 5) da_nil)) ⟨a, L, oa.1, (hI.1.ok L hL).1, oa.2.trans (hI.1.ok L hL).2.symm, rfl, rfl, rfl⟩⟩) (ok := blkOk_by (by rfl)) (hds := by rw [List.length_map, hI.1.len]; exact sz' (by omega))) (cn
            (dss_cons (ds_to (ds_expr (de_bm PySem.F.plainAttrs_list PySem.F.slot_list_append PySem.F.type_list_append (de_var 3) (da_cons (de_var 5) da_nil) (m_append (end_at rfl) (end_at rfl) (by rw [List.length_map]; have := hI.2; exact sz' (by omega))))) (by rw [end_set rfl]; show _ = μ' ++ [.lst ((t.2 ++ [a]).map sD)]; rw [List.map_append]; rfl)) (cn dss_nil))), some (.p (sD a)), ?_⟩
          show [some (S.p (tblD C CT n ws)), some (S.p (.lst (t.1.map fun L => sD (mvF a L)))), some (S.p (.lst ((firstF n).map sD))), some (S.l μ'.length), some (S.p (inD i)), some (S.p (sD a)), none, none] = _
          rw [e1]
          rfl) ⟨_, rfl⟩ ⟨p, by omega⟩
      refine ⟨by rw [Nat.zero_add, stQ_succ, hI], _, _, rfl, dss_cons (ds_for g (di_tup g (de_call g cw (da_cons (s := .p (sD (t.1.getD i []))) (de_ix (de_var 1) (de_var 4) (i_lst g (at_getD (by rw [p.len]; exact hi)))) (da_cons (s := .p (sD ((firstF n).getD i []))) (de_ix (de_var 2) (de_var 4) (i_lst g (at_getD (by rw [f1]; exact hi)))) (da_cons (de_cutLt g (de_var 2) (de_var 4)) da_nil))) ⟨t.1.getD i [], (firstF n).getD i [], _, a1.1, a2.1, a1.2.trans a2.2.symm, hc, rfl, rfl, rfl⟩)) (dg_name 5 g.nd) hlo2) (cn dss_nil), _, _, rfl⟩) ⟨none, none, by rw [e0]⟩ rfl
  have e2 : (μ' ++ [M.lst ((quF n ws).map sD)]).set μ'.length .gone = μ' ++ [.gone] := end_set rfl
  have lq : (quF n ws).length ≤ 2 * n := (stQ_ok hT (2 * n) (Nat.le_refl _)).2
  refine ⟨_, dss_cons (ds_setLc 1 g [("image", 6)] (di_tup g (de_fld (de_var 0) g Tt.ci.cl Tt.nI)) (fun s H C cl fp => dg_name 6 g.nd) (of_maps (gd := wdV C) (fy := fun x => sD x.2) fun x hx => ⟨_, rfl, fun s H C cl fp N' hK g' => de_fld (de_var 6) g' T2.ci.cl T2.nL⟩) (ok := blkOk_by (by rfl)) (hds := by rw [List.length_map, hT.len]; exact sz' (by omega))) (cn (dss_cons (ds_set 2 (de_call g cf (da_cons (de_fld (de_var 0) g Tt.ci.cl Tt.nW) da_nil) ⟨n, hT.h1, h4, rfl, rfl, rfl⟩) g.nd) (cn (dss_cons (ds_set 3 (de_lstM dp_nil) g.nd) (cn (dss_cons (ds_for g (di_of (di_range1 (da_cons (de_of (d' := .int ((2 * n : Nat) : Int)) (de_callB (id := "len") (da_cons (de_var 2) da_nil) (c_lenL g) T.len (by decide +kernel)) (by rw [List.length_map, f1])) da_nil) T.range (by omega)) (by rw [Int.toNat_natCast, rng_in])) (dg_name 4 g.nd) hlo) (cn
    (dss_freeze (j := μ'.length) (ds := (quF n ws).map sD) (end_at rfl) (by omega) 3 rfl (Eq.mp (congrArg (fun ν => DSs _ N W _ ν _ _) e2.symm) (dss_ret (de_var 3))))))))))), ?_⟩
  have e : (μ' ++ [M.gone]).take μ'.length = μ' := List.take_left ..
  conv => rhs; rw [← e, ← e2]
  exact .rtT (Nat.le_refl _)
theorem ok_gates (F : Fun K "gates" "gates" sGates f fd) (T : TM mg) (T2 : TC K mg C) (Tt : TKt K mg CT) (TK : K79F.TKc K mg CC) (cq : Cf P w K mg base 4 "_quarters_to" [] (rQTo C CT)) (ci : Ci P w K mg base 7 CC "Circuit" [] (K79F.rCInit CC)) (ct_ : Cf P w K mg base 8 "table_of" [] (rTableOf C CC CT)) (cl_ : Cf P w K mg base 1 "_letters_beside" [] rLBeside) (ce : Cm P w K mg base 1 C "__eq__" [] (rEq C)) (cn_ : Cm P w K mg base 1 CC "__len__" [] (K79F.rCLen CC)) (cp : Cm P w K mg base 11 CC "put" [] (K79F.rCPut CC)) : FnOk P w K mg base (L2.CX P w) 12 f fd ["table"] (spD K (rGates C CC CT)) := by
  refine fn_D (k := 11) F scGates (fun ss μ r μ' h => by obtain ⟨_, _, _, _, _, _, _, rfl, _⟩ := h; rfl) ?_
  intro cdv A0 outer s0 H E N W ss μ r μ' g hA hR
  obtain ⟨n, ws, hT, hchk, hok, hb, hgk, rfl, rfl, rfl⟩ := hR
  have h4 := hT.h4
  have hlg : ((n : Nat) : Int).natAbs.log2 < 1920 := by
    have : ∀ n, n ≤ 4 → ((n : Nat) : Int).natAbs.log2 < 1920 := by decide +kernel
    exact this n h4
  have hq40 := hok.len
  have hql : (qLn n ws).length = (quF n ws).length := by unfold qLn; rw [List.length_map]
  have hqok : ∀ L ∈ quF n ws, okWd n 1 L := fun L hL => hok.ok _ (List.mem_map_of_mem (f := fun L => Ln.ab true 1 L) hL)
  obtain ⟨i1, i2⟩ := imF_ok hok
  have le : (eqsF (imF n (qLn n ws)) ws).length = 2 * n := by unfold eqsF; rw [List.length_map, List.length_zip, i1, hT.len, Nat.min_self]
  have ob := besF_ok le hT.h1 h4
  have ez : ((imF n (qLn n ws)).map (wdV C)).zipWith (fun a b => D.tup [a, b]) (ws.map (wdV C)) = ((imF n (qLn n ws)).zip ws).map fun p => .tup [wdV C p.1, wdV C p.2] := by
    rw [List.zipWith_map, List.zip, List.map_zipWith]
  have eq1 : (((imF n (qLn n ws)).zip ws).map fun p => D.bl (decide (p.1.2 = p.2.2) && decide (p.1.1 = p.2.1))) = (eqsF (imF n (qLn n ws)) ws).map D.bl := by
    unfold eqsF
    rw [List.map_map]
    refine List.map_congr_left fun p _ => ?_
    show D.bl _ = D.bl (decide (p.1 = p.2))
    congr 1
    rw [Bool.eq_iff_iff]
    simp only [Bool.and_eq_true, decide_eq_true_eq]
    exact ⟨fun h => Prod.ext h.2 h.1, fun h => by rw [h]; exact ⟨rfl, rfl⟩⟩
  have fq : ∀ (L : List Nat), okWd n 1 L → (catS Str.empty [Str.ofString "quarter ", st L]).length ≤ sizeLine := fun L h => by
    rw [show catS Str.empty [Str.ofString "quarter ", st L] = st (lt (.ab true 1 L)) from fstr_ab true L, st_len]
    have := lt_len (w := n) (l := .ab true 1 L) h
    exact sz (by omega)
  have e1 : ((quF n ws).map fun L => D.str (st (lt (.ab true 1 L)))) = (((qLn n ws).map lt).map st).map D.str := by
    unfold qLn
    rw [List.map_map, List.map_map, List.map_map]
    rfl
  have pre : ∀ {o : Os}, DSs (cxOf (L2.CX P w) P w K mg base ["table", "about", "lines", "circuit", "now", "one", "other"] "gates" (defScope sGates) f cdv A0 outer s0 H E) N W [some (.p (tblD C CT n ws)), some (.p (sD (besF (eqsF (imF n (qLn n ws)) ws)))), some (.p (.lst ((quF n ws).map fun L => .str (st (lt (.ab true 1 L)))))), some (.p (circD CC n (qLn n ws))), some (.p (tblD C CT n (imF n (qLn n ws)))), none, none] μ' ((defBody sGates).drop 4) o → DSs (cxOf (L2.CX P w) P w K mg base ["table", "about", "lines", "circuit", "now", "one", "other"] "gates" (defScope sGates) f cdv A0 outer s0 H E) N W (starts ["table", "about", "lines", "circuit", "now", "one", "other"] [.p (tblD C CT n ws)]) μ' (defBody sGates) o := fun {o} h => by
    refine dss_cons (ds_setLc 2 g [("about", 1)] (di_lst g (de_call g cq (da_cons (de_var 0) da_nil) ⟨n, ws, hT, hchk, rfl, rfl, rfl⟩)) (fun s H C cl fp => dg_name 1 g.nd) (of_maps (gd := sD) (fy := fun L => .str (st (lt (.ab true 1 L)))) fun L hL => ⟨_, rfl, fun s H C cl fp N' hK g' => de_of (de_fstr (.cons de_str (.cons (de_fmtS (de_var 1) (by rw [st_len]; have := (hqok L hL).okL.four; exact sz (by omega))) .nil)) (fq L (hqok L hL))) (congrArg D.str (fstr_ab true L))⟩) (ok := blkOk_by (by rfl)) (hds := by rw [List.length_map, ← hql]; exact sz' (by omega))) (cn
    (dss_cons (ds_set 3 (K79F.de_circ g ci hok (de_of (d' := .str (st (ct n (qLn n ws)))) (de_bm PySem.F.plainAttrs_str PySem.F.slot_str_join PySem.F.type_str_join de_str (da_cons (de_of (d' := .lst (((wT n :: (qLn n ws).map lt).map st).map D.str)) (de_lst (dp_cons (de_fstr (.cons de_str (.cons (de_fmtI (de_fld (de_var 0) g Tt.ci.cl Tt.nW) hlg) .nil)) ?hf) (dp_star (de_of (de_var 2) (congrArg D.lst e1)) dp_nil g.hK)) ?hl) ?hd) da_nil) (m_join (ct_sum hok))) (congrArg D.str (join_ct n (qLn n ws))))) g.nd) (cn
    (dss_cons (ds_set 4 (de_call g ct_ (da_cons (de_var 3) da_nil) ⟨n, qLn n ws, hok, hb, rfl, rfl, rfl⟩) g.nd) (cn
    (dss_cons (ds_set 1 (de_call g cl_ (da_cons (s := .p (.lst ((eqsF (imF n (qLn n ws)) ws).map D.bl))) (de_of (de_lc g [("one", 5), ("other", 6)] (di_of (di_zip g (da_cons (de_fld (de_var 4) g Tt.ci.cl Tt.nI) (da_cons (de_fld (de_var 0) g Tt.ci.cl Tt.nI) da_nil)) (.tup _) (.tup _) T.zip) ez) (fun s H C cl fp => dg_tup (dgs_cons (dg_name 5 g.nd) (dgs_cons (dg_name 6 g.nd) dgs_nil)) g.hK g.calm) (of_maps (gd := fun p : Wp × Wp => D.tup [wdV C p.1, wdV C p.2]) (fy := fun p => .bl (decide (p.1.2 = p.2.2) && decide (p.1.1 = p.2.1))) fun p hp => ⟨_, rfl, fun s H C cl fp N' hK g' => de_eqOwn g' ce (.ins _ _ _) T2.nf (de_var 5) (de_var 6) ⟨p.1.2, p.2.2, p.1.1, p.2.1, rfl, rfl, rfl⟩⟩) (ok := blkOk_by (by rfl)) (hds := by rw [List.length_map, List.length_zip, i1, hT.len]; exact sz' (by omega))) (congrArg D.lst eq1)) da_nil) ⟨eqsF (imF n (qLn n ws)) ws, by omega, rfl, rfl, rfl⟩) g.nd) (cn h)))))))
    case hf =>
      rw [fstr_wires hok.w1 h4, st_len]
      exact sz (by show 7 ≤ 100000; decide)
    case hl =>
      simp
      exact sz (by omega)
    case hd =>
      rw [fstr_wires hok.w1 h4, List.append_nil]
      rfl
  have fl : (catS Str.empty [Str.ofString "flip ", st (besF (eqsF (imF n (qLn n ws)) ws))]).length ≤ sizeLine := by
    rw [show catS Str.empty [Str.ofString "flip ", st (besF (eqsF (imF n (qLn n ws)) ws))] = st (lt (.ab false 1 (besF (eqsF (imF n (qLn n ws)) ws)))) from fstr_ab false _, st_len]
    have h5 : (besF (eqsF (imF n (qLn n ws)) ws)).length ≤ 4 := ob.ok.four
    show ([102, 108, 105, 112, 32] ++ besF (eqsF (imF n (qLn n ws)) ws)).length ≤ _
    rw [List.length_append]
    exact sz (by simp; omega)
  by_cases hbs : besF (eqsF (imF n (qLn n ws)) ws) = List.replicate n 73
  · rw [show gF n ws = qLn n ws from if_pos hbs]
    exact ⟨_, pre (dss_ifT (dt_of (dt_cmp (de_var 1) (de_bin (de_of (d' := .str ⟨#[73]⟩) de_str rfl) (de_fld (de_var 0) g Tt.ci.cl Tt.nW) (mul_I h4)) o_eqS) (decide_eq_true (st_inj.mpr hbs))) (dss_ret (de_var 3)) cr), .rt⟩
  · have hg1 : gF n ws = qLn n ws ++ [.ab false 1 (besF (eqsF (imF n (qLn n ws)) ws))] := if_neg hbs
    have hpe : K79F.putF (qLn n ws) (qLn n ws).length (.ab false 1 (besF (eqsF (imF n (qLn n ws)) ws))) = gF n ws := by
      rw [hg1]
      unfold K79F.putF
      rw [List.take_length, List.drop_length, List.append_nil]
    have hln : okLn n (.ab false 1 (besF (eqsF (imF n (qLn n ws)) ws))) := hgk.ok _ (by rw [hg1]; simp)
    rw [← hpe]
    exact ⟨_, pre (dss_skip (dt_of (dt_cmp (de_var 1) (de_bin (de_of (d' := .str ⟨#[73]⟩) de_str rfl) (de_fld (de_var 0) g Tt.ci.cl Tt.nW) (mul_I h4)) o_eqS) (decide_eq_false fun e => hbs (st_inj.mp e))) (dss_ret (de_meth g cp (de_var 3) (da_cons (s := .p (.int (((qLn n ws).length : Nat) : Int))) (de_callB (id := "len") (da_cons (de_var 3) da_nil) (c_lenOwn g cn_ ⟨n, qLn n ws, rfl, rfl, rfl⟩ ⟨by omega, by omega⟩) T.len (by decide +kernel)) (da_cons (s := .p (.str (st (lt (.ab false 1 (besF (eqsF (imF n (qLn n ws)) ws))))))) (de_of (de_fstr (.cons de_str (.cons (de_fmtS (de_var 1) (by rw [st_len]; exact Nat.le_trans (show (besF (eqsF (imF n (qLn n ws)) ws)).length ≤ 4 from ob.ok.four) (sz (by decide)))) .nil)) fl) (congrArg D.str (fstr_ab false _))) da_nil)) ⟨n, qLn n ws, (qLn n ws).length, .ab false 1 (besF (eqsF (imF n (qLn n ws)) ws)), hok, hln, Nat.le_refl _, by rw [hpe]; exact hgk, rfl, rfl, rfl⟩))), .rt⟩
end
end K79
set_option Elab.async false
set_option linter.all false
set_option maxRecDepth 100000
set_option maxHeartbeats 4000000
set_option autoImplicit false
namespace K79
open PySem PySem.Spec PyProof.Rows L2 Dl Cq
/-! ### what is reckoned by hand -/
def okXB (n : Nat) (x : Wp) : Bool := decide (1 ≤ n ∧ n ≤ 4) && (decide (x.2.length = n) && (x.2.all (fun c => decide (c ∈ IXYZ)) && (decide (x.1 = 1) || decide (x.1 = -1))))
theorem okX_ofB {n : Nat} {x : Wp} (h : okXB n x = true) : okX n x := by
  unfold okXB at h
  simp only [Bool.and_eq_true, decide_eq_true_eq, List.all_eq_true, Bool.or_eq_true] at h
  obtain ⟨⟨a1, a4⟩, b, c, d⟩ := h
  exact ⟨⟨by omega, by omega, c⟩, b, d⟩
def okTB (n : Nat) (ws : List Wp) : Bool := decide (1 ≤ n ∧ n ≤ 4) && (decide (ws.length = 2 * n) && ws.all (okXB n))
theorem okT_ofB {n : Nat} {ws : List Wp} (h : okTB n ws = true) : okT n ws := by
  unfold okTB at h
  simp only [Bool.and_eq_true, decide_eq_true_eq, List.all_eq_true] at h
  obtain ⟨⟨a1, a4⟩, b, c⟩ := h
  exact ⟨a1, a4, b, fun x hx => okX_ofB (c x hx)⟩
def okLnB (n : Nat) : Ln → Bool
  | .ab _ s L => okXB n (s, L) && !decide (L = List.replicate n 73)
  | .h a => decide (a < n)
  | .pr k a b => decide (k < 3 ∧ a < n ∧ b < n ∧ a ≠ b)
  | .tn _ _ _ => false
theorem okLn_ofB {n : Nat} : ∀ {l : Ln}, okLnB n l = true → okLn n l ∧ isT l = false
  | .ab q s L, h => by
    unfold okLnB at h
    simp only [Bool.and_eq_true, Bool.not_eq_true', decide_eq_false_iff_not] at h
    have o := okX_ofB h.1
    exact ⟨⟨o.ok, o.pm, o.len, h.2⟩, rfl⟩
  | .h a, h => ⟨(show a < n from of_decide_eq_true (show decide (a < n) = true from h)), rfl⟩
  | .pr k a b, h => ⟨(show k < 3 ∧ a < n ∧ b < n ∧ a ≠ b from of_decide_eq_true (show decide (k < 3 ∧ a < n ∧ b < n ∧ a ≠ b) = true from h)), rfl⟩
  | .tn _ _ _, h => by cases h
def okCB (n : Nat) (ls : List Ln) : Bool := decide (1 ≤ n ∧ n ≤ 4) && (ls.all (okLnB n) && decide (ls.length ≤ 40))
theorem okC_ofB {n : Nat} {ls : List Ln} (h : okCB n ls = true) : okC n ls := by
  unfold okCB at h
  simp only [Bool.and_eq_true, decide_eq_true_eq, List.all_eq_true] at h
  obtain ⟨⟨a1, a4⟩, b, c⟩ := h
  refine ⟨a1, a4, fun l hl => (okLn_ofB (b l hl)).1, c, ?_⟩
  have e : ls.filter isT = [] := List.filter_eq_nil_iff.mpr fun l hl => by rw [(okLn_ofB (b l hl)).2]; decide
  rw [e]
  decide
def invF (n : Nat) (ws : List Wp) : List Wp := (firstF n).map fun L => ((backF n ws (1, besF (passF L ws))).map fun v => ledTo ws L v).getD (1, [])
def invB (n : Nat) (ws : List Wp) : Bool := decide (((firstF n).map fun L => (backF n ws (1, besF (passF L ws))).map fun v => ledTo ws L v) = (invF n ws).map some) && imgB ((invF n ws).map toEl)
def mulT (n : Nat) (ws us : List Wp) : List Wp := us.map fun x => (backF n ws x).getD (1, [])
def mulB (n : Nat) (ws us : List Wp) : Bool := decide (us.map (backF n ws) = (mulT n ws us).map some) && imgB ((mulT n ws us).map toEl)
/-- lines and the Table of them -/
def linB (n : Nat) (ls : List Ln) : Bool := okCB n ls && imgB ((imF n ls).map toEl)
abbrev Row := Nat × List Ln × List Wp
def R16 : List Row := [
  (1, [.h 0], [(1, [90]), (1, [88])]), (1, [.ab false 1 [88]], [(1, [88]), (-1, [90])]), (1, [.ab false 1 [89]], [(-1, [88]), (-1, [90])]),
  (1, [.ab true 1 [90]], [(-1, [89]), (1, [90])]), (1, [.ab true (-1) [90]], [(1, [89]), (1, [90])]),
  (1, [.ab true 1 [88]], [(1, [88]), (1, [89])]),
  (1, [.ab true 1 [89]], [(1, [90]), (-1, [88])]), (1, [], [(1, [88]), (1, [90])]), (1, [.ab true (-1) [88]], [(1, [88]), (-1, [89])]),
  (2, [.pr 0 0 1], [(1, [88, 90]), (1, [90, 73]), (1, [90, 88]), (1, [73, 90])]),
  (2, [.pr 1 0 1], [(1, [88, 88]), (1, [90, 73]), (1, [73, 88]), (1, [90, 90])]),
  (2, [.pr 1 1 0], [(1, [88, 73]), (1, [90, 90]), (1, [88, 88]), (1, [73, 90])]),
  (2, [.pr 2 1 0], [(1, [73, 88]), (1, [73, 90]), (1, [88, 73]), (1, [90, 73])]),
  (2, [.pr 1 0 1, .pr 1 1 0, .pr 1 0 1], [(1, [73, 88]), (1, [73, 90]), (1, [88, 73]), (1, [90, 73])]),
  (2, [.ab false 1 [90, 90]], [(-1, [88, 73]), (1, [90, 73]), (-1, [73, 88]), (1, [73, 90])]),
  (2, [.ab true (-1) [88, 88]], [(1, [88, 73]), (-1, [89, 88]), (1, [73, 88]), (-1, [88, 89])])]
theorem R16_ok : ∀ e ∈ R16, linB e.1 e.2.1 = true ∧ imF e.1 e.2.1 = e.2.2 := by decide +kernel
def six : List Wp := [(1, [88]), (-1, [88]), (1, [89]), (-1, [89]), (1, [90]), (-1, [90])]
def six2 (x y : Wp) : Bool := okTB 1 [x, y] && (imgB ([x, y].map toEl) && (chkQ 1 [x, y] && (linB 1 (qLn 1 [x, y]) && (linB 1 (gF 1 [x, y]) && (decide (turnsF (gF 1 [x, y]) = []) && (decide (imF 1 (gF 1 [x, y]) = [x, y]) && (invB 1 [x, y] && (okTB 1 (invF 1 [x, y]) && (mulB 1 [x, y] (invF 1 [x, y]) && (okTB 1 (mulT 1 [x, y] (invF 1 [x, y])) && decide (backF 1 (mulT 1 [x, y] (invF 1 [x, y])) (1, [89]) = some (1, [89]))))))))))))
theorem six_ok : ∀ x ∈ six, ∀ y ∈ six, x.2 ≠ y.2 → six2 x y = true := by decide +kernel
def one4 (k c : Nat) : Bool :=
  let L := ln1 4 k c
  let q : Ln := .ab true 1 L
  let f : Ln := .ab false 1 L
  linB 4 [q, q, q, q] && (linB 4 [] && (decide (imF 4 [q, q, q, q] = imF 4 []) && (linB 4 [f] && (!decide (imF 4 [f] = imF 4 [q, q, q, q]) && (linB 4 [q, q] && (decide (imF 4 [q, q] = imF 4 [f]) && (okTB 4 (imF 4 [q, q]) && (invB 4 (imF 4 [q, q]) && decide (invF 4 (imF 4 [q, q]) = imF 4 [q, q])))))))))
theorem one4_ok : ∀ k, k < 4 → ∀ c ∈ [88, 89, 90], one4 k c = true := by
  have : ∀ k : Fin 4, ∀ c ∈ [88, 89, 90], one4 k.val c = true := by decide +kernel
  exact fun k hk c hc => this ⟨k, hk⟩ c hc
end K79
set_option Elab.async false
set_option linter.all false
set_option maxRecDepth 100000
set_option maxHeartbeats 4000000
set_option autoImplicit false
namespace K79
open PySem PySem.Spec PyProof.Rows L2 Dl Cq
/-! ### the law's own -/
theorem scLTexts : FnScope ["text", "word"] ["text"] (defScope sLTexts) := ⟨rfl, rfl, rfl, by decide +kernel, rfl, by decide +kernel, by decide +kernel⟩
theorem scLines : FnScope ["rows", "text", "due"] [] (defScope sLinesRight) := ⟨rfl, rfl, rfl, by decide +kernel, rfl, by decide +kernel, by decide +kernel⟩
theorem scAllR : FnScope ["some", "found", "one", "other", "table", "told"] [] (defScope sAllRight) := ⟨rfl, rfl, rfl, by decide +kernel, rfl, by decide +kernel, by decide +kernel⟩
def txS (x : Wp) : Str := sgn x.2 x.1
abbrev txD (x : Wp) : D := .str (txS x)
def rowD (e : Row) : D := .tup [.str (st (ct e.1 e.2.1)), .lst (e.2.2.map txD)]
theorem strs_py : ∀ l : List Str, PyDs (l.map D.str) (l.map PyData.str)
  | [] => .nil
  | a :: x => .cons (.str a) (strs_py x)
theorem strs_eqv : ∀ l m : List Str, PyData.eqvAll (l.map PyData.str) (m.map PyData.str) = decide (l = m)
  | [], [] => rfl
  | [], _ :: _ => rfl
  | _ :: _, [] => rfl
  | a :: x, b :: y => by
    rw [List.map_cons, List.map_cons, PyData.eqvAll, strs_eqv x y]
    simp only [PyData.eqv]
    by_cases h : a = b <;> by_cases h2 : x = y <;> simp [h, h2]
/-- signs that Python has -/
def lowS (z : Str) : Prop := ∀ c ∈ z.cps.toList, c < 1000
theorem low_tx {n : Nat} {x : Wp} (h : okX n x) : lowS (txS x) := fun c hc => by
  have hL : ∀ c ∈ x.2, c < 1000 := fun c hc => (show ∀ c ∈ IXYZ, c < 1000 by decide) c (h.ok.all c hc)
  unfold txS sgn at hc
  split at hc
  · rcases List.mem_cons.mp (show c ∈ 45 :: x.2 from hc) with rfl | hc
    · decide
    · exact hL c hc
  · exact hL c hc
theorem strs_lay : ∀ {l : List Str}, (∀ z ∈ l, lowS z) → PyData.canLayAll0 (l.map PyData.str) = true ∧ PyData.depthAll (l.map PyData.str) ≤ 1
  | [], _ => ⟨rfl, Nat.zero_le _⟩
  | a :: x, h => by
    obtain ⟨h1, h2⟩ := strs_lay (l := x) fun y hy => h y (List.mem_cons_of_mem _ hy)
    have h3 : (PyData.str a).canLay0 = true := by
      simp only [PyData.canLay0]
      show (a.cps).all (· < 0x110000) = true
      rw [← Array.all_toList]
      exact List.all_eq_true.mpr fun c hc => decide_eq_true (by have := h a List.mem_cons_self c hc; omega)
    have h6 : (PyData.str a).depth ≤ 1 := by simp only [PyData.depth]; omega
    rw [List.map_cons, PyData.canLayAll0, PyData.depthAll, h1, h3]
    exact ⟨rfl, by omega⟩
theorem strs_shaped {l : List Str} (h : ∀ z ∈ l, lowS z) : SeqAt.shaped (.list (l.map PyData.str)) = true := by
  obtain ⟨h1, h2⟩ := strs_lay h
  unfold SeqAt.shaped
  simp only [PyData.canLay0, PyData.depth, h1, Bool.true_and]
  exact decide_eq_true (by omega)
section
variable {X : Cx} {N : En} {W : WX} {n : Nat} {μ : List M}
theorem o_eqLS (g : Go X N W n) {l m : List Str} (h1 : ∀ z ∈ l, lowS z) (h2 : ∀ z ∈ m, lowS z) : OpOk X N W (compareOp .Eq) μ (.p (.lst (l.map D.str))) (.p (.lst (m.map D.str))) (.v (.p (.bl (decide (l = m))))) μ :=
  o_eqD g (.lst (strs_py l)) (.lst (strs_py m)) (strs_shaped h1) (strs_shaped h2) (by rw [PyData.eqv, strs_eqv])
theorem o_neLS (g : Go X N W n) {l m : List Str} (h1 : ∀ z ∈ l, lowS z) (h2 : ∀ z ∈ m, lowS z) : OpOk X N W (compareOp .NotEq) μ (.p (.lst (l.map D.str))) (.p (.lst (m.map D.str))) (.v (.p (.bl (!decide (l = m))))) μ :=
  o_neD g (.lst (strs_py l)) (.lst (strs_py m)) (strs_shaped h1) (strs_shaped h2) (by rw [PyData.eqv, strs_eqv])
end
theorem tx_map (l : List Wp) : l.map txD = (l.map txS).map D.str := by rw [List.map_map]; rfl
theorem linB_is {n : Nat} {ls : List Ln} (h : linB n ls = true) : okC n ls ∧ imgB ((imF n ls).map toEl) = true := by
  unfold linB at h
  rw [Bool.and_eq_true] at h
  exact ⟨okC_ofB h.1, h.2⟩
theorem low_im {n : Nat} {ls : List Ln} (h : okC n ls) : ∀ z ∈ (imF n ls).map txS, lowS z := fun z hz => by
  obtain ⟨x, hx, rfl⟩ := List.mem_map.mp hz
  exact low_tx ((imF_ok h).2 x hx)
def rLTexts : Rel := fun ss μ r μ' => ∃ (n : Nat) (ls : List Ln), linB n ls = true ∧ ss = [.p (.str (st (ct n ls)))] ∧ r = .v (.p (.lst ((imF n ls).map txD))) ∧ μ' = μ
def rTrue : Rel := fun ss μ r μ' => ss = [] ∧ r = .v (.p (.bl true)) ∧ μ' = μ
structure VL (P : Program) (w : World) (K : PySem.W.Frag) (mg : Str → Option Value) (base : Heap) (C CC CT CB : Addr) : Prop where
  T : TM mg
  T2 : TC K mg C
  Tt : TKt K mg CT
  TK : K79F.TKc K mg CC
  sfT : PySem.W.selfFirst K CT = true
  nfT : PySem.W.notFirst K CT (.ref CT) = true
  neT : NeOk K CT
  ciC : Ci P w K mg base 7 CC "Circuit" [] (K79F.rCInit CC)
  ciW : Ci P w K mg base 2 C "Word" [] (rInit C)
  ciT : Ci P w K mg base 6 CT "Table" [] (rTInit K C CT CB)
  tof : Cf P w K mg base 8 "table_of" [] (rTableOf C CC CT)
  gat : Cf P w K mg base 12 "gates" [] (rGates C CC CT)
  ptx : Cp P w K mg base 2 C "text" (rTextP C)
  pct : Cp P w K mg base 1 CC "text" (K79F.rCText CC)
  teq : Cm P w K mg base 3 CT "__eq__" [] (rTEq C CT)
  tmu : Cm P w K mg base 9 CT "__mul__" [] (rTMul C CT)
  tin : Cm P w K mg base 10 CT "__invert__" [] (rTInv C CT)
  bak : Cm P w K mg base 8 CT "back" [] (rBack C CT)
section
variable {P : Program} {w : World} {K : PySem.W.Frag} {mg : Str → Option Value} {base : Heap} {f C CC CT CB : Addr} {fd : FuncData}
theorem ok_ltexts (F : Fun K "_law_texts" "_law_texts" sLTexts f fd) (V : VL P w K mg base C CC CT CB) : FnOk P w K mg base (L2.CX P w) 10 f fd ["text"] (spD K rLTexts) := by
  refine fn_D (k := 9) F scLTexts (fun ss μ r μ' h => by obtain ⟨_, _, _, rfl, _⟩ := h; rfl) ?_
  intro cdv A0 outer s0 H E N W ss μ r μ' g hA hR
  obtain ⟨n, ls, hb, rfl, rfl, rfl⟩ := hR
  obtain ⟨hok, hi⟩ := linB_is hb
  obtain ⟨i1, i2⟩ := imF_ok hok
  have h4 := hok.w4
  exact ⟨_, dss_ret (de_lc g [("word", 1)] (di_tup g (de_fld (de_call g V.tof (da_cons (K79F.de_circ g V.ciC hok (de_var 0)) da_nil) ⟨n, ls, hok, hi, rfl, rfl, rfl⟩) g V.Tt.ci.cl V.Tt.nI)) (fun s H C cl fp => dg_name 1 g.nd) (of_maps (gd := wdV C) (fy := txD) fun x hx => ⟨_, rfl, fun s H C cl fp N' hK g' => de_prop g' V.ptx (de_var 1) ⟨x.2, x.1, (i2 x hx).ok, rfl, rfl, rfl⟩⟩) (ok := blkOk_by (by rfl)) (hds := by rw [List.length_map, i1]; exact sz' (by omega))), .rt⟩
theorem ok_lines (F : Fun K "_law_are_lines_right" "_law_are_lines_right" sLinesRight f fd) (T : TM mg) (cx_ : Cf P w K mg base 10 "_law_texts" [] rLTexts) : FnOk P w K mg base (L2.CX P w) 11 f fd [] (spD K rTrue) := by
  refine fn_D (k := 10) F scLines (fun ss μ r μ' h => by obtain ⟨rfl, _⟩ := h; rfl) ?_
  intro cdv A0 outer s0 H E N W ss μ r μ' g hA hR
  obtain ⟨rfl, rfl, rfl⟩ := hR
  have d0 : DS (cxOf (L2.CX P w) P w K mg base ["rows", "text", "due"] "_law_are_lines_right" (defScope sLinesRight) f cdv A0 outer s0 H E) N W [none, none, none] μ' ((defBody sLinesRight).getD 0 (.Pass ⟨0, 0, 0, 0⟩)) (.nx [some (.l μ'.length), none, none] (μ' ++ [.lst ((R16.take 3).map rowD)])) := ds_to (ds_set 0 (de_lstM (dp_cons (de_tup (dp_cons de_str (dp_cons (de_lst (dp_cons de_str (dp_cons de_str dp_nil)) (sz (by decide))) dp_nil)) (sz (by decide))) (dp_cons (de_tup (dp_cons de_str (dp_cons (de_lst (dp_cons de_str (dp_cons de_str dp_nil)) (sz (by decide))) dp_nil)) (sz (by decide))) (dp_cons (de_tup (dp_cons de_str (dp_cons (de_lst (dp_cons de_str (dp_cons de_str dp_nil)) (sz (by decide))) dp_nil)) (sz (by decide))) dp_nil))) (sz (by decide))) g.nd) (by rfl)
  have d1 : DS (cxOf (L2.CX P w) P w K mg base ["rows", "text", "due"] "_law_are_lines_right" (defScope sLinesRight) f cdv A0 outer s0 H E) N W [some (.l μ'.length), none, none] (μ' ++ [.lst ((R16.take 3).map rowD)]) ((defBody sLinesRight).getD 1 (.Pass ⟨0, 0, 0, 0⟩)) (.nx [some (.l μ'.length), none, none] (μ' ++ [.lst ((R16.take 5).map rowD)])) := ds_to (ds_expr (de_bm PySem.F.plainAttrs_list PySem.F.slot_list_extend PySem.F.type_list_extend (de_var 0) (da_cons (de_of (d' := .lst (((R16.drop 3).take 2).map rowD)) (de_lst (dp_cons (de_tup (dp_cons de_str (dp_cons (de_lst (dp_cons de_str (dp_cons de_str dp_nil)) (sz (by decide))) dp_nil)) (sz (by decide))) (dp_cons (de_tup (dp_cons de_str (dp_cons (de_lst (dp_cons de_str (dp_cons de_str dp_nil)) (sz (by decide))) dp_nil)) (sz (by decide))) dp_nil)) (sz (by decide))) (by rfl)) da_nil) (m_extend (end_at rfl) (end_at rfl) (sz (by decide))))) (by rw [end_set rfl]; rfl)
  have d2 : DS (cxOf (L2.CX P w) P w K mg base ["rows", "text", "due"] "_law_are_lines_right" (defScope sLinesRight) f cdv A0 outer s0 H E) N W [some (.l μ'.length), none, none] (μ' ++ [.lst ((R16.take 5).map rowD)]) ((defBody sLinesRight).getD 2 (.Pass ⟨0, 0, 0, 0⟩)) (.nx [some (.l μ'.length), none, none] (μ' ++ [.lst ((R16.take 6).map rowD)])) := ds_to (ds_expr (de_bm PySem.F.plainAttrs_list PySem.F.slot_list_append PySem.F.type_list_append (de_var 0) (da_cons (de_of (d' := rowD (R16.getD 5 (0, [], []))) (de_tup (dp_cons de_str (dp_cons (de_lst (dp_cons de_str (dp_cons de_str dp_nil)) (sz (by decide))) dp_nil)) (sz (by decide))) (by rfl)) da_nil) (m_append (end_at rfl) (end_at rfl) (sz' (by decide))))) (by rw [end_set rfl]; rfl)
  have d3 : DS (cxOf (L2.CX P w) P w K mg base ["rows", "text", "due"] "_law_are_lines_right" (defScope sLinesRight) f cdv A0 outer s0 H E) N W [some (.l μ'.length), none, none] (μ' ++ [.lst ((R16.take 6).map rowD)]) ((defBody sLinesRight).getD 3 (.Pass ⟨0, 0, 0, 0⟩)) (.nx [some (.l μ'.length), none, none] (μ' ++ [.lst ((R16.take 9).map rowD)])) := ds_to (ds_expr (de_bm PySem.F.plainAttrs_list PySem.F.slot_list_extend PySem.F.type_list_extend (de_var 0) (da_cons (de_of (d' := .lst (((R16.drop 6).take 3).map rowD)) (de_lst (dp_cons (de_tup (dp_cons de_str (dp_cons (de_lst (dp_cons de_str (dp_cons de_str dp_nil)) (sz (by decide))) dp_nil)) (sz (by decide))) (dp_cons (de_tup (dp_cons de_str (dp_cons (de_lst (dp_cons de_str (dp_cons de_str dp_nil)) (sz (by decide))) dp_nil)) (sz (by decide))) (dp_cons (de_tup (dp_cons de_str (dp_cons (de_lst (dp_cons de_str (dp_cons de_str dp_nil)) (sz (by decide))) dp_nil)) (sz (by decide))) dp_nil))) (sz (by decide))) (by rfl)) da_nil) (m_extend (end_at rfl) (end_at rfl) (sz (by decide))))) (by rw [end_set rfl]; rfl)
  have d4 : DS (cxOf (L2.CX P w) P w K mg base ["rows", "text", "due"] "_law_are_lines_right" (defScope sLinesRight) f cdv A0 outer s0 H E) N W [some (.l μ'.length), none, none] (μ' ++ [.lst ((R16.take 9).map rowD)]) ((defBody sLinesRight).getD 4 (.Pass ⟨0, 0, 0, 0⟩)) (.nx [some (.l μ'.length), none, none] (μ' ++ [.lst ((R16.take 10).map rowD)])) := ds_to (ds_expr (de_bm PySem.F.plainAttrs_list PySem.F.slot_list_append PySem.F.type_list_append (de_var 0) (da_cons (de_of (d' := rowD (R16.getD 9 (0, [], []))) (de_tup (dp_cons de_str (dp_cons (de_lst (dp_cons de_str (dp_cons de_str (dp_cons de_str (dp_cons de_str dp_nil)))) (sz (by decide))) dp_nil)) (sz (by decide))) (by rfl)) da_nil) (m_append (end_at rfl) (end_at rfl) (sz' (by decide))))) (by rw [end_set rfl]; rfl)
  have d5 : DS (cxOf (L2.CX P w) P w K mg base ["rows", "text", "due"] "_law_are_lines_right" (defScope sLinesRight) f cdv A0 outer s0 H E) N W [some (.l μ'.length), none, none] (μ' ++ [.lst ((R16.take 10).map rowD)]) ((defBody sLinesRight).getD 5 (.Pass ⟨0, 0, 0, 0⟩)) (.nx [some (.l μ'.length), none, none] (μ' ++ [.lst ((R16.take 11).map rowD)])) := ds_to (ds_expr (de_bm PySem.F.plainAttrs_list PySem.F.slot_list_append PySem.F.type_list_append (de_var 0) (da_cons (de_of (d' := rowD (R16.getD 10 (0, [], []))) (de_tup (dp_cons de_str (dp_cons (de_lst (dp_cons de_str (dp_cons de_str (dp_cons de_str (dp_cons de_str dp_nil)))) (sz (by decide))) dp_nil)) (sz (by decide))) (by rfl)) da_nil) (m_append (end_at rfl) (end_at rfl) (sz' (by decide))))) (by rw [end_set rfl]; rfl)
  have d6 : DS (cxOf (L2.CX P w) P w K mg base ["rows", "text", "due"] "_law_are_lines_right" (defScope sLinesRight) f cdv A0 outer s0 H E) N W [some (.l μ'.length), none, none] (μ' ++ [.lst ((R16.take 11).map rowD)]) ((defBody sLinesRight).getD 6 (.Pass ⟨0, 0, 0, 0⟩)) (.nx [some (.l μ'.length), none, none] (μ' ++ [.lst ((R16.take 12).map rowD)])) := ds_to (ds_expr (de_bm PySem.F.plainAttrs_list PySem.F.slot_list_append PySem.F.type_list_append (de_var 0) (da_cons (de_of (d' := rowD (R16.getD 11 (0, [], []))) (de_tup (dp_cons de_str (dp_cons (de_lst (dp_cons de_str (dp_cons de_str (dp_cons de_str (dp_cons de_str dp_nil)))) (sz (by decide))) dp_nil)) (sz (by decide))) (by rfl)) da_nil) (m_append (end_at rfl) (end_at rfl) (sz' (by decide))))) (by rw [end_set rfl]; rfl)
  have d7 : DS (cxOf (L2.CX P w) P w K mg base ["rows", "text", "due"] "_law_are_lines_right" (defScope sLinesRight) f cdv A0 outer s0 H E) N W [some (.l μ'.length), none, none] (μ' ++ [.lst ((R16.take 12).map rowD)]) ((defBody sLinesRight).getD 7 (.Pass ⟨0, 0, 0, 0⟩)) (.nx [some (.l μ'.length), none, none] (μ' ++ [.lst ((R16.take 13).map rowD)])) := ds_to (ds_expr (de_bm PySem.F.plainAttrs_list PySem.F.slot_list_append PySem.F.type_list_append (de_var 0) (da_cons (de_of (d' := rowD (R16.getD 12 (0, [], []))) (de_tup (dp_cons de_str (dp_cons (de_lst (dp_cons de_str (dp_cons de_str (dp_cons de_str (dp_cons de_str dp_nil)))) (sz (by decide))) dp_nil)) (sz (by decide))) (by rfl)) da_nil) (m_append (end_at rfl) (end_at rfl) (sz' (by decide))))) (by rw [end_set rfl]; rfl)
  have d8 : DS (cxOf (L2.CX P w) P w K mg base ["rows", "text", "due"] "_law_are_lines_right" (defScope sLinesRight) f cdv A0 outer s0 H E) N W [some (.l μ'.length), none, none] (μ' ++ [.lst ((R16.take 13).map rowD)]) ((defBody sLinesRight).getD 8 (.Pass ⟨0, 0, 0, 0⟩)) (.nx [some (.l μ'.length), none, none] (μ' ++ [.lst ((R16.take 14).map rowD)])) := ds_to (ds_expr (de_bm PySem.F.plainAttrs_list PySem.F.slot_list_append PySem.F.type_list_append (de_var 0) (da_cons (de_of (d' := rowD (R16.getD 13 (0, [], []))) (de_tup (dp_cons de_str (dp_cons (de_lst (dp_cons de_str (dp_cons de_str (dp_cons de_str (dp_cons de_str dp_nil)))) (sz (by decide))) dp_nil)) (sz (by decide))) (by rfl)) da_nil) (m_append (end_at rfl) (end_at rfl) (sz' (by decide))))) (by rw [end_set rfl]; rfl)
  have d9 : DS (cxOf (L2.CX P w) P w K mg base ["rows", "text", "due"] "_law_are_lines_right" (defScope sLinesRight) f cdv A0 outer s0 H E) N W [some (.l μ'.length), none, none] (μ' ++ [.lst ((R16.take 14).map rowD)]) ((defBody sLinesRight).getD 9 (.Pass ⟨0, 0, 0, 0⟩)) (.nx [some (.l μ'.length), none, none] (μ' ++ [.lst ((R16.take 15).map rowD)])) := ds_to (ds_expr (de_bm PySem.F.plainAttrs_list PySem.F.slot_list_append PySem.F.type_list_append (de_var 0) (da_cons (de_of (d' := rowD (R16.getD 14 (0, [], []))) (de_tup (dp_cons de_str (dp_cons (de_lst (dp_cons de_str (dp_cons de_str (dp_cons de_str (dp_cons de_str dp_nil)))) (sz (by decide))) dp_nil)) (sz (by decide))) (by rfl)) da_nil) (m_append (end_at rfl) (end_at rfl) (sz' (by decide))))) (by rw [end_set rfl]; rfl)
  have d10 : DS (cxOf (L2.CX P w) P w K mg base ["rows", "text", "due"] "_law_are_lines_right" (defScope sLinesRight) f cdv A0 outer s0 H E) N W [some (.l μ'.length), none, none] (μ' ++ [.lst ((R16.take 15).map rowD)]) ((defBody sLinesRight).getD 10 (.Pass ⟨0, 0, 0, 0⟩)) (.nx [some (.l μ'.length), none, none] (μ' ++ [.lst ((R16.take 16).map rowD)])) := ds_to (ds_expr (de_bm PySem.F.plainAttrs_list PySem.F.slot_list_append PySem.F.type_list_append (de_var 0) (da_cons (de_of (d' := rowD (R16.getD 15 (0, [], []))) (de_tup (dp_cons de_str (dp_cons (de_lst (dp_cons de_str (dp_cons de_str (dp_cons de_str (dp_cons de_str dp_nil)))) (sz (by decide))) dp_nil)) (sz (by decide))) (by rfl)) da_nil) (m_append (end_at rfl) (end_at rfl) (sz' (by decide))))) (by rw [end_set rfl]; rfl)
  have e2 : (μ' ++ [M.lst (R16.map rowD)]).set μ'.length .gone = μ' ++ [.gone] := end_set rfl
  refine ⟨_, dss_cons d0 (cn (dss_cons d1 (cn (dss_cons d2 (cn (dss_cons d3 (cn (dss_cons d4 (cn (dss_cons d5 (cn (dss_cons d6 (cn (dss_cons d7 (cn (dss_cons d8 (cn (dss_cons d9 (cn (dss_cons d10 (cn
    (dss_freeze (j := μ'.length) (ds := R16.map rowD) (end_at rfl) (by omega) 0 rfl (Eq.mp (congrArg (fun ν => DSs _ N W _ ν _ _) e2.symm)
    (dss_ret (de_of (d' := .bl true) (de_callB (id := "all") (da_cons (de_lc g [("text", 1), ("due", 2)] (di_lst g (de_var 0)) (fun s H C cl fp => dg_tup (dgs_cons (dg_name 1 g.nd) (dgs_cons (dg_name 2 g.nd) dgs_nil)) g.hK g.calm) (of_maps (gd := rowD) (fy := fun _ => .bl true) fun e he => ⟨_, rfl, fun s H C cl fp N' hK g' => by
      obtain ⟨h1, h2⟩ := R16_ok e he
      obtain ⟨hok, hi⟩ := linB_is h1
      have hl := low_im hok
      exact de_of (d' := .bl true) (de_cmp (de_of (d' := .lst (((imF e.1 e.2.1).map txS).map D.str)) (de_call g' cx_ (da_cons (de_var 1) da_nil) ⟨e.1, e.2.1, h1, rfl, rfl, rfl⟩) (congrArg D.lst (tx_map _))) (de_of (d' := .lst (((e.2.2).map txS).map D.str)) (de_var 2) (congrArg D.lst (tx_map _))) (o_eqLS g' hl (by rw [← h2]; exact hl))) (by rw [h2]; simp)⟩) (ok := blkOk_by (by rfl)) (hds := by decide)) da_nil) (c_allm (q := fun _ => true) g) T.all (by decide +kernel)) (congrArg D.bl (by decide))))))))))))))))))))))))))), ?_⟩
  have e : (μ' ++ [M.gone]).take μ'.length = μ' := List.take_left ..
  conv => rhs; rw [← e, ← e2]
  exact .rtT (Nat.le_refl _)
end
end K79
set_option Elab.async false
set_option linter.all false
set_option maxRecDepth 100000
set_option maxHeartbeats 4000000
set_option autoImplicit false
namespace K79
open PySem PySem.Spec PyProof.Rows L2 Dl Cq
/-! ### all tables of one wire -/
def cnt (x : Wp) (j : Nat) : Nat := ((six.take j).filter fun y => !decide (x.2 = y.2)).length
theorem cnt_succ (x : Wp) (j : Nat) (y : Wp) (h : six[j]? = some y) : cnt x (j + 1) = cnt x j + (if x.2 = y.2 then 0 else 1) := by
  unfold cnt
  rw [List.take_succ, h, Option.toList_some, List.filter_append, List.length_append]
  congr 1
  by_cases e : x.2 = y.2
  · rw [if_pos e, List.filter_cons_of_neg (by simp [e])]
    rfl
  · rw [if_neg e, List.filter_cons_of_pos (by simp [e])]
    rfl
theorem cnt_six : ∀ x ∈ six, cnt x 6 = 4 := by decide
theorem six_last : ∀ x ∈ six, atI (txS x).cps.toList (-1) = some (x.2.getD 0 0) ∧ (txS x).length ≤ 2 ∧ x.2.length = 1 ∧ okXB 1 x = true := by decide
theorem six_get : ∀ x ∈ six, ∀ y ∈ six, (x.2.getD 0 0 = y.2.getD 0 0 ↔ x.2 = y.2) := by decide
structure S2 (x y : Wp) : Prop where
  t : okT 1 [x, y]
  i : imgB ([x, y].map toEl) = true
  q : chkQ 1 [x, y] = true
  l1 : linB 1 (qLn 1 [x, y]) = true
  l2 : linB 1 (gF 1 [x, y]) = true
  tn : turnsF (gF 1 [x, y]) = []
  im : imF 1 (gF 1 [x, y]) = [x, y]
  v : invB 1 [x, y] = true
  vt : okT 1 (invF 1 [x, y])
  m : mulB 1 [x, y] (invF 1 [x, y]) = true
  mt : okT 1 (mulT 1 [x, y] (invF 1 [x, y]))
  b : backF 1 (mulT 1 [x, y] (invF 1 [x, y])) (1, [89]) = some (1, [89])
theorem s2_of {x y : Wp} (hx : x ∈ six) (hy : y ∈ six) (h : x.2 ≠ y.2) : S2 x y := by
  have := six_ok x hx y hy h
  unfold six2 at this
  simp only [Bool.and_eq_true, decide_eq_true_eq] at this
  obtain ⟨a1, a2, a3, a4, a5, a6, a7, a8, a9, a10, a11, a12⟩ := this
  exact ⟨okT_ofB a1, a2, a3, a4, a5, a6, a7, a8, okT_ofB a9, a10, okT_ofB a11, a12⟩
section
variable {P : Program} {w : World} {K : PySem.W.Frag} {mg : Str → Option Value} {base : Heap} {f C CC CT CB : Addr} {fd : FuncData}
theorem ok_allr (F : Fun K "_law_are_all_right" "_law_are_all_right" sAllRight f fd) (V : VL P w K mg base C CC CT CB) (cx_ : Cf P w K mg base 10 "_law_texts" [] rLTexts) : FnOk P w K mg base (L2.CX P w) 13 f fd [] (spD K rTrue) := by
  refine fn_Dy (k := 12) F scAllR (fun ss μ r μ' h => by obtain ⟨rfl, _⟩ := h; rfl) ?_
  intro cdv A0 outer s0 H E N W ss μ r μ' g hA hR
  obtain ⟨rfl, rfl, rfl⟩ := hR
  have d0 : DS (cxOf (L2.CX P w) P w K mg base ["some", "found", "one", "other", "table", "told"] "_law_are_all_right" (defScope sAllRight) f cdv A0 outer s0 H E) N W [none, none, none, none, none, none] μ' ((defBody sAllRight).getD 0 (.Pass ⟨0, 0, 0, 0⟩)) (.nx [some (.p (.lst (six.map txD))), some (.p (.int ((4 * 0 : Nat) : Int))), none, none, none, none] μ') :=
    ds_par 0 1 g (da_cons (s := .p (.lst (six.map txD))) (de_of (de_lst (dp_cons de_str (dp_cons de_str (dp_cons de_str (dp_cons de_str (dp_cons de_str (dp_cons de_str dp_nil)))))) (sz (by decide))) (by rfl)) (da_cons (s := .p (.int ((4 * 0 : Nat) : Int))) de_int da_nil))
  refine dys_one d0 (dys_cons (dy_for (ds := six.map txD) (I := fun i δ μ => μ = μ' ∧ ∃ (x2 x3 x4 x5 : Option S), δ = [some (.p (.lst (six.map txD))), some (.p (.int ((4 * i : Nat) : Int))), x2, x3, x4, x5]) g (diy_of (di_lst g (de_var 0))) (dg_name 2 g.nd) ⟨rfl, none, none, none, none, rfl⟩ ?body) ?after ?others)
  case others =>
    rintro o ⟨δ1, μ1, rfl, _⟩ hn
    exact (hn trivial).elim
  case after =>
    rintro δ1 μ1 ⟨δ2, μ2, e, rfl, x2, x3, x4, x5, rfl⟩
    cases e
    exact dys_of (dss_ret (de_of (d' := .bl true) (de_cmp (de_var 1) de_int o_eqI) (by rfl))) .rt
  case body =>
    rintro i d hd δ1 μ1 ⟨rfl, x2, x3, x4, x5, rfl⟩
    rw [List.getElem?_map] at hd
    obtain ⟨x, hx, rfl⟩ := Option.map_eq_some_iff.mp hd
    have hx := List.mem_of_getElem? hx
    refine ⟨_, rfl, dys_cons (dy_for (ds := six.map txD) (I := fun j δ μ => μ = μ1 ∧ ∃ (x3 x4 x5 : Option S), δ = [some (.p (.lst (six.map txD))), some (.p (.int ((4 * i + cnt x j : Nat) : Int))), some (.p (txD x)), x3, x4, x5]) g (diy_of (di_lst g (de_var 0))) (dg_name 3 g.nd) ⟨rfl, x3, x4, x5, rfl⟩ ?body2) ?after2 ?others2⟩
    case others2 =>
      rintro o ⟨δ1, μ2, rfl, _⟩ hn
      exact (hn trivial).elim
    case after2 =>
      rintro δ2 μ2 ⟨δ3, μ3, e, rfl, x3, x4, x5, rfl⟩
      cases e
      refine dys_nil ⟨_, _, rfl, rfl, some (.p (txD x)), x3, x4, x5, ?_⟩
      rw [show cnt x (six.map txD).length = 4 from cnt_six x hx]
      rfl
    case body2 =>
      rintro j d hd δ2 μ2 ⟨rfl, x3, x4, x5, rfl⟩
      rw [List.getElem?_map] at hd
      obtain ⟨y, hyj, rfl⟩ := Option.map_eq_some_iff.mp hd
      have hy := List.mem_of_getElem? hyj
      obtain ⟨a1, a2, a3, a4⟩ := six_last x hx
      obtain ⟨b1, b2, b3, b4⟩ := six_last y hy
      have ox := okX_ofB a4
      have oy := okX_ofB b4
      have sx : (txS x).length ≤ sizeLine := Nat.le_trans a2 (sz (by decide))
      have sy : (txS y).length ≤ sizeLine := Nat.le_trans b2 (sz (by decide))
      have cs := cnt_succ x j y hyj
      have tt : DT (cxOf (L2.CX P w) P w K mg base ["some", "found", "one", "other", "table", "told"] "_law_are_all_right" (defScope sAllRight) f cdv A0 outer s0 H E) N W [some (.p (.lst (six.map txD))), some (.p (.int ((4 * i + cnt x j : Nat) : Int))), some (.p (txD x)), some (.p (txD y)), x4, x5] μ2 (ifC ((bodyOf2 sAllRight 1 0).getD 0 (.Pass ⟨0, 0, 0, 0⟩))) (!decide (x.2 = y.2)) μ2 :=
        dt_of (dt_cmp (de_ix (de_var 2) (de_un de_int u_neg) (i_str sx a1)) (de_ix (de_var 3) (de_un de_int u_neg) (i_str sy b1)) o_neS) (by
          congr 1
          exact decide_eq_decide.mpr ⟨fun h => (six_get x hx y hy).mp (by simpa using h), fun h => by rw [h]⟩)
      by_cases he : x.2 = y.2
      · rw [if_pos he] at cs
        refine ⟨_, rfl, dys_of (dss_skip (dt_of tt (by rw [decide_eq_true he]; rfl)) dss_nil) ⟨_, _, rfl, rfl, some (.p (txD y)), x4, x5, ?_⟩⟩
        rw [cs]
        rfl
      · rw [if_neg he] at cs
        have Q := s2_of hx hy he
        obtain ⟨g1, g2⟩ := linB_is Q.l1
        obtain ⟨k1, k2⟩ := linB_is Q.l2
        have vb := Q.v
        unfold invB at vb
        rw [Bool.and_eq_true, decide_eq_true_eq] at vb
        have mb := Q.m
        unfold mulB at mb
        rw [Bool.and_eq_true, decide_eq_true_eq] at mb
        have hlow : ∀ z ∈ [txS x, txS y], lowS z := fun z hz => by
          simp only [List.mem_cons, List.not_mem_nil, or_false] at hz
          rcases hz with rfl | rfl
          · exact low_tx ox
          · exact low_tx oy
        have lim := low_im k1
        have eim : (imF 1 (gF 1 [x, y])).map txS = [txS x, txS y] := by rw [Q.im]; rfl
        refine ⟨_, rfl, dys_of (dss_ifT (dt_of tt (by rw [decide_eq_false he]; rfl)) (dss_cons (ds_set 4 (de_tableB g V.ciT Q.i Q.t.len Q.t.h4 Q.t.ok (de_of (d' := .tup ([x, y].map (wdV C))) (de_tup (ds := [wdV C x, wdV C y]) (dp_cons (de_word (L := x.2) (s := x.1) g V.ciW ox.ok ox.pm (de_var 2)) (dp_cons (de_word (L := y.2) (s := y.1) g V.ciW oy.ok oy.pm (de_var 3)) dp_nil)) (sz (by show 2 ≤ 100000; decide))) rfl)) g.nd) (cn
          (dss_cons (ds_set 5 (de_call g V.gat (da_cons (de_var 4) da_nil) ⟨1, [x, y], Q.t, Q.q, g1, g2, k1, rfl, rfl, rfl⟩) g.nd) (cn
          (dss_skip (dt_w (dw_or (k := false) (k' := false) (dt_cmp (de_of (d' := .tup []) (de_fld (de_var 5) g V.TK.ci.cl V.TK.n6) (by show D.tup ((turnsF (gF 1 [x, y])).map _) = _; rw [Q.tn]; rfl)) (de_tup (ds := []) dp_nil (sz (by show 0 ≤ 100000; decide))) (o_neD g (.tup .nil) (.tup .nil) rfl rfl rfl)) (fun _ => dw_or1 (dt_of (dt_cmp (de_of (d' := .lst (((imF 1 (gF 1 [x, y])).map txS).map D.str)) (de_call g cx_ (da_cons (de_prop g V.pct (de_var 5) ⟨1, gF 1 [x, y], rfl, rfl, rfl⟩) da_nil) ⟨1, gF 1 [x, y], Q.l2, rfl, rfl, rfl⟩) (congrArg D.lst (tx_map _))) (de_of (d' := .lst ([txS x, txS y].map D.str)) (de_lst (dp_cons (de_var 2) (dp_cons (de_var 3) dp_nil)) (sz (by show 2 ≤ 100000; decide))) rfl) (o_neLS g lim hlow)) (by rw [eim]; simp)))))
          (dss_skip (dt_of (dt_cmp (de_prop g V.ptx (de_meth g V.bak (de_binOwn g V.tmu V.sfT (de_var 4) (de_invOwn g V.tin (de_var 4) ⟨1, [x, y], invF 1 [x, y], Q.t, vb.1, vb.2, rfl, rfl, rfl⟩) ⟨1, [x, y], invF 1 [x, y], mulT 1 [x, y] (invF 1 [x, y]), Q.t, Q.vt, mb.1, mb.2, rfl, rfl, rfl⟩) (da_cons (de_word (L := [89]) (s := 1) g V.ciW ⟨by decide, by decide, by decide⟩ (.inl rfl) (de_of (d' := .str (sgn [89] 1)) de_str (congrArg D.str (by decide)))) da_nil) ⟨1, mulT 1 [x, y] (invF 1 [x, y]), (1, [89]), (1, [89]), Q.mt, ⟨⟨by decide, by decide, by decide⟩, rfl, .inl rfl⟩, Q.b, rfl, rfl, rfl⟩) ⟨[89], 1, ⟨by decide, by decide, by decide⟩, rfl, rfl, rfl⟩) de_str o_neS) (by decide))
          (dss_cons (ds_set 1 (de_bin (de_var 1) de_int o_add) g.nd) (cn dss_nil)))))))) (cn dss_nil)) ⟨_, _, rfl, rfl, some (.p (txD y)), some (.p (tblD C CT 1 [x, y])), some (.p (circD CC 1 (gF 1 [x, y]))), ?_⟩⟩
        show [_, some (S.p (.int (((4 * i + cnt x j : Nat) : Int) + 1))), _, _, _, _] = [_, some (S.p (.int ((4 * i + cnt x (j + 1) : Nat) : Int))), _, _, _, _]
        rw [cs, show ((4 * i + cnt x j : Nat) : Int) + 1 = ((4 * i + (cnt x j + 1) : Nat) : Int) by omega]
end
end K79
set_option Elab.async false
set_option linter.all false
set_option maxRecDepth 100000
set_option maxHeartbeats 4000000
set_option autoImplicit false
namespace K79
open PySem PySem.Spec PyProof.Rows L2 Dl Cq
theorem scRight : FnScope ["pot", "wire", "letter", "about", "whole", "twice"] ["pot"] (defScope sRight) := ⟨rfl, rfl, rfl, by decide +kernel, rfl, by decide +kernel, by decide +kernel⟩
theorem scLaw : FnScope ["script", "place"] ["script"] (defScope sLaw) := ⟨rfl, rfl, rfl, by decide +kernel, rfl, by decide +kernel, by decide +kernel⟩
abbrev qL (L : List Nat) : Ln := .ab true 1 L
abbrev fL (L : List Nat) : Ln := .ab false 1 L
theorem t_q (L : List Nat) : Str.ofString "quarter " ++ st L = st (lt (qL L)) := by
  rw [show Str.ofString "quarter " = st [113, 117, 97, 114, 116, 101, 114, 32] by decide, st_app]
  rfl
theorem t_f (L : List Nat) : Str.ofString "wires 4\nflip " ++ st L = st (ct 4 [fL L]) := by
  rw [show Str.ofString "wires 4\nflip " = st [119, 105, 114, 101, 115, 32, 52, 10, 102, 108, 105, 112, 32] by decide, st_app]
  rfl
theorem t_q2 (L : List Nat) : ((Str.ofString "wires 4\nquarter " ++ st L) ++ Str.ofString "\nquarter ") ++ st L = st (ct 4 [qL L, qL L]) := by
  rw [show Str.ofString "wires 4\nquarter " = st [119, 105, 114, 101, 115, 32, 52, 10, 113, 117, 97, 114, 116, 101, 114, 32] by decide, show Str.ofString "\nquarter " = st [10, 113, 117, 97, 114, 116, 101, 114, 32] by decide, st_app, st_app, st_app]
  congr 1
  show ([119, 105, 114, 101, 115, 32, 52, 10, 113, 117, 97, 114, 116, 101, 114, 32] ++ L ++ [10, 113, 117, 97, 114, 116, 101, 114, 32]) ++ L = _
  rw [List.append_assoc, List.append_assoc]
  rfl
theorem t_q4 (L : List Nat) : Str.ofString "wires 4\n" ++ Txt.join (Str.ofString "\n") ([lt (qL L), lt (qL L), lt (qL L), lt (qL L)].map st) = st (ct 4 [qL L, qL L, qL L, qL L]) := by
  rw [show Txt.join (Str.ofString "\n") ([lt (qL L), lt (qL L), lt (qL L), lt (qL L)].map st) = st (TL.joinL [10] [lt (qL L), lt (qL L), lt (qL L), lt (qL L)]) from SX.join_S [10] _, show Str.ofString "wires 4\n" = st [119, 105, 114, 101, 115, 32, 52, 10] by decide, st_app]
  rfl
structure O4 (L : List Nat) : Prop where
  l4 : linB 4 [qL L, qL L, qL L, qL L] = true
  l0 : linB 4 [] = true
  e0 : imF 4 [qL L, qL L, qL L, qL L] = imF 4 []
  lf : linB 4 [fL L] = true
  ne : imF 4 [fL L] ≠ imF 4 [qL L, qL L, qL L, qL L]
  l2 : linB 4 [qL L, qL L] = true
  e2 : imF 4 [qL L, qL L] = imF 4 [fL L]
  t : okT 4 (imF 4 [qL L, qL L])
  v : invB 4 (imF 4 [qL L, qL L]) = true
  vi : invF 4 (imF 4 [qL L, qL L]) = imF 4 [qL L, qL L]
theorem o4_of {k c : Nat} (hk : k < 4) (hc : c ∈ [88, 89, 90]) : O4 (ln1 4 k c) := by
  have := one4_ok k hk c hc
  unfold one4 at this
  simp only [Bool.and_eq_true, decide_eq_true_eq, Bool.not_eq_true', decide_eq_false_iff_not] at this
  obtain ⟨a1, a2, a3, a4, a5, a6, a7, a8, a9, a10⟩ := this
  exact ⟨a1, a2, a3, a4, a5, a6, a7, okT_ofB a8, a9, a10⟩
def rtP (p : Pot) : Pot := tkP (tkP p 4) 3
def rRight : Rel := fun ss μ r μ' => ∃ (j : Nat) (p : Pot), p.ok 100 ∧ ss = [.l j] ∧ μ[j]? = some p.m ∧ r = .v (.p (.bl true)) ∧ μ' = μ.set j (rtP p).m
section
variable {P : Program} {w : World} {K : PySem.W.Frag} {mg : Str → Option Value} {base : Heap} {f C CC CT CB : Addr} {fd : FuncData}
theorem ok_right (F : Fun K "_law_right" "_law_right" sRight f fd) (V : VL P w K mg base C CC CT CB) (ct0 : Cf P w K mg base 1 "_law_take" [] rTk) (co : Cf P w K mg base 2 "_law_of" [] rOf) (c1 : Cf P w K mg base 11 "_law_are_lines_right" [] rTrue) (c2 : Cf P w K mg base 13 "_law_are_all_right" [] rTrue) : FnOk P w K mg base (L2.CX P w) 14 f fd ["pot"] (spD K rRight) := by
  refine fn_D (k := 13) F scRight (fun ss μ r μ' h => by obtain ⟨_, _, _, rfl, _⟩ := h; rfl) ?_
  intro cdv A0 outer s0 H E N W ss μ r μ' g hA hR
  obtain ⟨j, p, hp, rfl, hj, rfl, rfl⟩ := hR
  obtain ⟨k, hk⟩ : ∃ k, tk p 4 = k := ⟨_, rfl⟩
  have hk4 : k < 4 := by rw [← hk]; exact tk_lt (by decide)
  have h3 := tk_lt (p := tkP p 4) (u := 3) (by decide)
  obtain ⟨c, hc0⟩ : ∃ c, ([88, 89, 90] : List Nat).getD (tk (tkP p 4) 3) 0 = c := ⟨_, rfl⟩
  have hc : c ∈ [88, 89, 90] := by
    rw [← hc0]
    rcases (show tk (tkP p 4) 3 = 0 ∨ tk (tkP p 4) 3 = 1 ∨ tk (tkP p 4) 3 = 2 by omega) with e | e | e <;> rw [e] <;> decide
  obtain ⟨L, hLe⟩ : ∃ L, ln1 4 k c = L := ⟨_, rfl⟩
  have O := o4_of hk4 hc
  rw [hLe] at O
  obtain ⟨g4, i4⟩ := linB_is O.l4
  obtain ⟨g0, i0⟩ := linB_is O.l0
  obtain ⟨gf, i_f⟩ := linB_is O.lf
  obtain ⟨g2, i2⟩ := linB_is O.l2
  have ol : okWd 4 1 L := g2.ok (qL L) (by simp)
  have hl4 : L.length = 4 := ol.len
  have hsz : (Dl.st L : Str).length ≤ 4 := by rw [st_len, hl4]; exact Nat.le_refl _
  have vb := O.v
  unfold invB at vb
  rw [Bool.and_eq_true, decide_eq_true_eq] at vb
  have sz4 : ∀ (a : Str) (m : Nat), a.length ≤ m → m ≤ 1000 → a.length + (Dl.st L : Str).length ≤ sizeLine := fun a m h1 h2 => Nat.le_trans (Nat.add_le_add h1 hsz) (sz (by omega))
  have e1 : (Dl.st (List.replicate k 73) : Str) ++ ⟨#[c]⟩ = Dl.st (List.replicate k 73 ++ [c]) := st_app _ [c]
  have lq := lt_len (w := 4) (l := qL L) ol
  have d0 : DS (cxOf (L2.CX P w) P w K mg base ["pot", "wire", "letter", "about", "whole", "twice"] "_law_right" (defScope sRight) f cdv A0 outer s0 H E) N W (starts ["pot", "wire", "letter", "about", "whole", "twice"] [.l j]) μ ((defBody sRight).getD 0 (.Pass ⟨0, 0, 0, 0⟩)) (.nx [some (.l j), some (.p (inD (tk p 4))), some (.p (.str ⟨#[([88, 89, 90] : List Nat).getD (tk (tkP p 4) 3) 0]⟩)), none, none, none] (μ.set j (rtP p).m)) :=
    ds_par 1 2 g (da_cons (s := .p (inD (tk p 4))) (de_call g ct0 (da_cons (de_var 0) (da_cons (s := .p (.int ((4 : Nat) : Int))) de_int da_nil)) ⟨j, p, 4, hp.mono (by decide), by decide, by decide, rfl, hj, rfl, rfl⟩) (da_cons (de_call g co (da_cons (de_var 0) (da_cons (s := .p (.str (st [88, 89, 90]))) (de_of de_str (by rfl)) da_nil)) ⟨j, tkP p 4, (tkP_ok hp).mono (by decide), set_at hj, .inr ⟨[88, 89, 90], by decide, by decide, rfl, rfl, (List.set_set ..).symm⟩⟩) da_nil))
  rw [hk, hc0] at d0
  have hadd : (Str.ofString "wires 4\n").length + (Txt.join (Str.ofString "\n") ([lt (qL L), lt (qL L), lt (qL L), lt (qL L)].map st)).length ≤ sizeLine := by
    have e := congrArg Str.length (t_q4 L)
    rw [strLen_append, st_len] at e
    have := ct_len g4
    rw [e]
    exact sz (by omega)
  have hjoin : (([lt (qL L), lt (qL L), lt (qL L), lt (qL L)].map st).map (·.length)).sum + ([lt (qL L), lt (qL L), lt (qL L), lt (qL L)].map st).length * (Str.ofString "\n").length ≤ 16777216 := by
    show ((st (lt (qL L))).length + ((st (lt (qL L))).length + ((st (lt (qL L))).length + ((st (lt (qL L))).length + 0)))) + 4 * 1 ≤ _
    rw [st_len]
    omega
  have hq8 : (Str.ofString "quarter ").length + (Dl.st L : Str).length ≤ sizeLine := sz4 _ 8 (by decide) (by decide)
  have hf13 : (Str.ofString "wires 4\nflip ").length + (Dl.st L : Str).length ≤ sizeLine := sz4 _ 13 (by decide) (by decide)
  have hw1 : (Str.ofString "wires 4\nquarter ").length + (Dl.st L : Str).length ≤ sizeLine := sz4 _ 16 (by decide) (by decide)
  have hw2 : (Str.ofString "wires 4\nquarter " ++ Dl.st L).length + (Str.ofString "\nquarter ").length ≤ sizeLine := by
    rw [strLen_append]
    have a : (Str.ofString "wires 4\nquarter ").length ≤ 16 := by decide
    have b : (Str.ofString "\nquarter ").length ≤ 9 := by decide
    exact sz (by omega)
  have hw3 : ((Str.ofString "wires 4\nquarter " ++ Dl.st L) ++ Str.ofString "\nquarter ").length + (Dl.st L : Str).length ≤ sizeLine := by
    rw [strLen_append, strLen_append]
    have a : (Str.ofString "wires 4\nquarter ").length ≤ 16 := by decide
    have b : (Str.ofString "\nquarter ").length ≤ 9 := by decide
    exact sz (by omega)
  refine ⟨_, dss_cons d0 (cn (dss_cons (ds_set 3 (de_of (d' := sD L) (de_bin (de_of (d' := sD (List.replicate k 73 ++ [c])) (de_bin (de_bin (de_of (d' := .str ⟨#[73]⟩) de_str rfl) (de_var 1) (mul_I (by omega))) (de_var 2) (o_addS (by rw [st_len, List.length_replicate]; show k + 1 ≤ _; exact sz (by omega)))) (congrArg D.str e1)) (de_bin (de_of (d' := .str ⟨#[73]⟩) de_str rfl) (de_of (d' := .int ((4 - k - 1 : Nat) : Int)) (de_bin de_int (de_var 1) o_sub) (congrArg D.int (by omega))) (mul_I (by omega))) (o_addS (by rw [st_len, st_len]; simp; exact sz (by omega)))) (congrArg D.str ((st_app _ _).trans (congrArg Dl.st hLe)))) g.nd) (cn
    (dss_cons (ds_set 4 (de_call g V.tof (da_cons (K79F.de_circ g V.ciC g4 (de_of (d' := .str (st (ct 4 [qL L, qL L, qL L, qL L]))) (de_bin de_str (de_bm PySem.F.plainAttrs_str PySem.F.slot_str_join PySem.F.type_str_join de_str (da_cons (de_of (d' := .lst (([lt (qL L), lt (qL L), lt (qL L), lt (qL L)].map st).map D.str)) (de_bin (de_lst (ds := [.str (st (lt (qL L)))]) (dp_cons (de_of (d' := .str (st (lt (qL L)))) (de_bin de_str (de_var 3) (o_addS hq8)) (congrArg D.str (t_q L))) dp_nil) (sz (by show 1 ≤ 100000; decide))) de_int (o_timesL (by decide) (by decide) (sz (by show 1 * 4 ≤ 100000; decide)))) (by rfl)) da_nil) (m_join hjoin)) (o_addS hadd)) (congrArg D.str (t_q4 L)))) da_nil) ⟨4, _, g4, i4, rfl, rfl, rfl⟩) g.nd) (cn
    (dss_skip (dt_w (dw_or (k := false) (k' := false) (dt_of (dt_neOwn g V.teq V.neT (.ins _ _ _) V.nfT (de_var 4) (de_call g V.tof (da_cons (K79F.de_circ g V.ciC g0 (de_of (d' := .str (st (ct 4 []))) de_str (by rfl))) da_nil) ⟨4, [], g0, i0, rfl, rfl, rfl⟩) ⟨4, 4, _, _, rfl, rfl, rfl⟩) (by rw [O.e0]; simp)) (fun _ => dw_or1 (dt_of (dt_eqOwn g V.teq (.ins _ _ _) V.nfT (de_call g V.tof (da_cons (K79F.de_circ g V.ciC gf (de_of (d' := .str (st (ct 4 [fL L]))) (de_bin de_str (de_var 3) (o_addS hf13)) (congrArg D.str (t_f L)))) da_nil) ⟨4, [fL L], gf, i_f, rfl, rfl, rfl⟩) (de_var 4) ⟨4, 4, _, _, rfl, rfl, rfl⟩) (decide_eq_false O.ne)))))
    (dss_cons (ds_set 5 (de_call g V.tof (da_cons (K79F.de_circ g V.ciC g2 (de_of (d' := .str (st (ct 4 [qL L, qL L]))) (de_bin (de_bin (de_bin de_str (de_var 3) (o_addS hw1)) de_str (o_addS hw2)) (de_var 3) (o_addS hw3)) (congrArg D.str (t_q2 L)))) da_nil) ⟨4, [qL L, qL L], g2, i2, rfl, rfl, rfl⟩) g.nd) (cn
    (dss_skip (dt_w (dw_or (k := false) (k' := false) (dt_of (dt_neOwn g V.teq V.neT (.ins _ _ _) V.nfT (de_var 5) (de_call g V.tof (da_cons (K79F.de_circ g V.ciC gf (de_of (d' := .str (st (ct 4 [fL L]))) (de_bin de_str (de_var 3) (o_addS hf13)) (congrArg D.str (t_f L)))) da_nil) ⟨4, [fL L], gf, i_f, rfl, rfl, rfl⟩) ⟨4, 4, _, _, rfl, rfl, rfl⟩) (by rw [O.e2]; simp)) (fun _ => dw_or1 (dt_of (dt_neOwn g V.teq V.neT (.ins _ _ _) V.nfT (de_invOwn g V.tin (de_var 5) ⟨4, imF 4 [qL L, qL L], invF 4 (imF 4 [qL L, qL L]), O.t, vb.1, vb.2, rfl, rfl, rfl⟩) (de_var 5) ⟨4, 4, _, _, rfl, rfl, rfl⟩) (by rw [O.vi]; simp)))))
    (dss_ret (de_and (k := true) (k' := true) (de_call0 g c1 ⟨rfl, rfl, rfl⟩) (fun _ => de_one (de_call0 g c2 ⟨rfl, rfl, rfl⟩))))))))))))), .rt⟩
end
section
variable {X : Cx} {N : En} {W : WX} {δ : List (Option S)} {elt : Expr} {scope : Scope} {f : As} {nn : Nat} {K : PySem.W.Frag}
theorem of_grow {α : Type} {gd : α → D} {y : α → D} {nx : α → List M → List M} : ∀ (l : List α) (μ : List M), (∀ a ∈ l, ∀ μ, ∃ δt, f (gd a) δ = some δt ∧ DEB X K nn scope elt δt μ (y a) (nx a μ)) → CmpL (El0 X K nn scope elt) f δ (l.map gd) μ (l.map y) (l.foldl (fun μ a => nx a μ) μ)
  | [], _, _ => .nil
  | a :: l, μ, h => by
    obtain ⟨δt, h2, h3⟩ := h a List.mem_cons_self μ
    exact .keep h2 ⟨_, rfl, h3⟩ (of_grow l _ fun b hb => h b (List.mem_cons_of_mem _ hb))
end
def growF (ns : List Int) (i : Nat) (μ : List M) : List M := (μ ++ [(potF ns i).m]).set μ.length (rtP (potF ns i)).m
def rLaw : Rel := fun ss μ r μ' => ∃ (ns : List Int), ss = [.p (.sc ns)] ∧ r = .v (.p (.bl true)) ∧ μ' = μ
theorem grow_take (ns : List Int) : ∀ (l : List Nat) (μ : List M) (n : Nat), n ≤ μ.length → (l.foldl (fun μ a => growF ns a μ) μ).take n = μ.take n
  | [], _, _, _ => rfl
  | a :: l, μ, n, h => by
    have e : growF ns a μ = μ ++ [(rtP (potF ns a)).m] := by
      unfold growF
      rw [List.set_append_right _ _ (Nat.le_refl _)]
      simp
    rw [List.foldl_cons, grow_take ns l _ n (by rw [e]; simp; omega), e, List.take_append_of_le_length h]
theorem cells_le (ns : List Int) : cellsN ns ≤ 6 := by unfold cellsN; omega
section
variable {P : Program} {w : World} {K : PySem.W.Frag} {mg : Str → Option Value} {base : Heap} {f C : Addr} {fd : FuncData}
theorem ok_law (F : Fun K "law" "law" sLaw f fd) (T : TM mg) (cc : Cf P w K mg base 1 "_law_cells" [] rCells) (cp : Cf P w K mg base 1 "_law_pot" [] rPot) (cr : Cf P w K mg base 14 "_law_right" [] rRight) : FnOk P w K mg base (L2.CX P w) 15 f fd ["script"] (spD K rLaw) := by
  refine fn_D (k := 14) F scLaw (fun ss μ r μ' h => by obtain ⟨ns, rfl, _⟩ := h; rfl) ?_
  intro cdv A0 outer s0 H E N W ss μ r μ' g hA hR
  obtain ⟨ns, rfl, rfl, rfl⟩ := hR
  have hc := cells_le ns
  have at1 : ∀ (μ : List M) (m : M), (μ ++ [m])[μ.length]? = some m := fun μ m => by rw [List.getElem?_append_right (Nat.le_refl _), Nat.sub_self]; rfl
  refine ⟨_, dss_ret (de_of (d' := .bl true) (de_callB (id := "all") (da_cons (de_lc g [("place", 1)] (di_lst g (de_call g cc (da_cons (de_var 0) (da_cons de_int da_nil)) ⟨ns, rfl, rfl, rfl⟩)) (fun s H C cl fp => dg_name 1 g.nd)
    (of_grow (y := fun _ => .bl true) (nx := growF ns) (List.range (cellsN ns)) μ' fun i hi μ => ⟨_, rfl, fun s H C' cl fp N' hK g' => de_call g' cr (da_cons (de_call g' cp (da_cons (de_var 0) (da_cons (de_of (de_var 1) (congrArg D.int (Int.zero_add _))) da_nil)) ⟨ns, i, by have := List.mem_range.mp hi; omega, rfl, rfl, rfl⟩) da_nil) ⟨μ.length, potF ns i, (potF_ok ns i).mono (Nat.zero_le _), rfl, at1 μ _, rfl, rfl⟩⟩)
    (ok := blkOk_by (by rfl)) (hds := ?_)) da_nil) (c_allm (q := fun _ => true) g) T.all (by decide +kernel)) (congrArg D.bl ?_)), ?_⟩
  · show (List.map _ (List.range (cellsN ns))).length < _
    rw [List.length_map, List.length_range]
    exact sz' (by omega)
  · simp
  · have e := grow_take ns (List.range (cellsN ns)) μ' μ'.length (Nat.le_refl _)
    rw [List.take_length] at e
    conv => rhs; rw [← e]
    exact .rtT (Nat.le_refl _)
end
end K79
set_option Elab.async false
set_option linter.all false
set_option maxRecDepth 100000
set_option maxHeartbeats 8000000
set_option autoImplicit false
namespace K79
open PySem PySem.Spec PyProof.Rows L2 Dl Cq
theorem scErr : FnScope ["self", "value"] ["self", "value"] (defScope sErr) := ⟨rfl, rfl, rfl, by decide +kernel, rfl, by decide +kernel, by decide +kernel⟩
/-- the law's own promise, without tables -/
theorem spD_lawN {K : PySem.W.Frag} {R : Rel} {H : Hp} {a : Addr} {ns : List Int} (hS : SqL K H a (ns.map V.int)) (hR : R [.p (.sc ns)] [] (.v (.p (.bl true))) []) : spD K R [.ref a] H (fun v _ => v = .bl true) (fun _ _ _ => False) := by
  have hne : SqL K (fun b => if b = a then H b else none) a (ns.map V.int) := by
    rcases hS with (h | ⟨o, h⟩) | h
    · exact .inl (.inl ((if_pos rfl).trans h))
    · exact .inl (.inr ⟨o, (if_pos rfl).trans h⟩)
    · exact .inr h
  refine ⟨fun b => if b = a then H b else none, [], [.p (.sc ns)], [], .v (.p (.bl true)), [], hR,
    { sub := fun b o e => ?_, base := Same.refl _, new := fun b o e => .inl ⟨o, e⟩, keep := fun _ _ e _ => e, pre := ⟨[], rfl, fun _ h => by cases h⟩, nd := List.nodup_nil, len := rfl, mus := fun j b m h1 => by simp at h1, fr := fun j b m h1 => by simp at h1 },
    .cons (.sc hne) .nil, fun v F' A' H' _ rv => ?_⟩
  · by_cases hb : b = a
    · exact (if_pos hb).symm.trans e
    · cases (if_neg hb).symm.trans e
  · have rv' : Rep K F' v (.bl true) := rv
    cases rv'
    rfl
theorem tbk_mk {w : World} {K : PySem.W.Frag} {mg : Str → Option Value} {la k1 k2 k3 k4 : Addr} {h1 h2 h3 h4 : Int} {t1 t2 t3 t4 : Tok} {nB n1 n2 n3 n4 : Nat} (mb : mg "LETTER_BESIDE" = some (.ref la))
    (lB : K.lookup la = some ⟨.type "dict", none, .dict #[⟨h1, .ref k1, .str "I" t1⟩, ⟨h2, .ref k2, .str "Z" t2⟩, ⟨h3, .ref k3, .str "X" t3⟩, ⟨h4, .ref k4, .str "Y" t4⟩] nB, #[]⟩)
    (lk1 : K.lookup k1 = some ⟨.type "tuple", none, .seq #[.bool true, .bool true] n1, #[]⟩) (hh1 : h1 = PySem.reduceHash (Builtin.Tuple.tupleHashOf [1, 1]))
    (lk2 : K.lookup k2 = some ⟨.type "tuple", none, .seq #[.bool false, .bool true] n2, #[]⟩) (hh2 : h2 = PySem.reduceHash (Builtin.Tuple.tupleHashOf [0, 1]))
    (lk3 : K.lookup k3 = some ⟨.type "tuple", none, .seq #[.bool true, .bool false] n3, #[]⟩) (hh3 : h3 = PySem.reduceHash (Builtin.Tuple.tupleHashOf [1, 0]))
    (lk4 : K.lookup k4 = some ⟨.type "tuple", none, .seq #[.bool false, .bool false] n4, #[]⟩) (hh4 : h4 = PySem.reduceHash (Builtin.Tuple.tupleHashOf [0, 0])) : TBk w K mg la := by
  subst hh1 hh2 hh3 hh4
  refine ⟨mb, [(true, true, k1, st [73], t1), (false, true, k2, st [90], t2), (true, false, k3, st [88], t3), (false, false, k4, st [89], t4)], nB, ⟨lB.trans (by rfl), fun e he => ?_, by simp⟩, fun p q => ?_⟩
  · simp only [List.mem_cons, List.not_mem_nil, or_false] at he
    rcases he with rfl | rfl | rfl | rfl
    · exact ⟨_, lk1⟩
    · exact ⟨_, lk2⟩
    · exact ⟨_, lk3⟩
    · exact ⟨_, lk4⟩
  · cases p <;> cases q
    · exact ⟨_, _, rfl⟩
    · exact ⟨_, _, rfl⟩
    · exact ⟨_, _, rfl⟩
    · exact ⟨_, _, rfl⟩
theorem all_mk {l : PySem.W.OpenLaw} {w : World} {K : PySem.W.Frag} {h : Heap} {mg : Str → Option Value} {fa C CT CC CB CL CM CK fd0 fd1 fd2 fd3 fd4 fd5 fd6 fd7 fd8 fd9 fd10 fd11 fd12 fd13 fd14 fd15 fd16 fd17 fd18 fd19 fd20 fd21 fd22 fd23 fd24 fd25 fd26 fd27 fd28 fd29 fd30 fd31 fd32 fd33 fd34 fd35 fd36 fd37 fd38 fd39 fd40 fd41 fd42 fd43 fd44 fd45 fd46 fm0 fm1 fm2 fm3 fm4 fm5 fm6 fm7 fm8 fm9 fm10 fm11 fm12 fm13 fm14 fm15 fm16 fm17 fp0 pap0 fp1 pap1 aS aT qa ta ha za xa aW aA aP la k1 k2 k3 k4 fI : Addr} (X : K.In h) (G : h.Ns mainGlobals mg) (hfa : mg "law" = some (.ref fa))
    {odd0 and0 odd1 and1 odd2 and2 odd3 and3 odd4 and4 odd5 and5 odd6 and6 odd7 and7 odd8 and8 odd9 and9 odd10 and10 odd11 and11 odd12 and12 odd13 and13 odd14 and14 odd15 and15 odd16 and16 odd17 and17 odd18 and18 odd19 and19 odd20 and20 odd21 and21 odd22 and22 odd23 and23 odd24 and24 odd25 and25 odd26 and26 odd27 and27 odd28 and28 odd29 and29 odd30 and30 odd31 and31 odd32 and32 odd33 and33 odd34 and34 odd35 and35 odd36 and36 odd37 and37 odd38 and38 odd39 and39 odd40 and40 odd41 and41 odd42 and42 odd43 and43 odd44 and44 odd45 and45 odd46 and46 odm0 anm0 odm1 anm1 odm2 anm2 odm3 anm3 odm4 anm4 odm5 anm5 odm6 anm6 odm7 anm7 odm8 anm8 odm9 anm9 odm10 anm10 odm11 anm11 odm12 anm12 odm13 anm13 odm14 anm14 odm15 anm15 odm16 anm16 odm17 anm17 odp0 anp0 odp1 anp1 odaW odaA odaP odI anI : Option Addr} {sld0 sld1 sld2 sld3 sld4 sld5 sld6 sld7 sld8 sld9 sld10 sld11 sld12 sld13 sld14 sld15 sld16 sld17 sld18 sld19 sld20 sld21 sld22 sld23 sld24 sld25 sld26 sld27 sld28 sld29 sld30 sld31 sld32 sld33 sld34 sld35 sld36 sld37 sld38 sld39 sld40 sld41 sld42 sld43 sld44 sld45 sld46 slm0 slm1 slm2 slm3 slm4 slm5 slm6 slm7 slm8 slm9 slm10 slm11 slm12 slm13 slm14 slm15 slm16 slm17 slp0 slp1 slaW slaA slaP slI : Array (Option Value)} {ocd0 kVd0 dcd0 pmd0 cdd0 ctd0 ocd1 kVd1 dcd1 pmd1 cdd1 ctd1 ocd2 kVd2 dcd2 pmd2 cdd2 ctd2 ocd3 kVd3 dcd3 pmd3 cdd3 ctd3 ocd4 kVd4 dcd4 pmd4 cdd4 ctd4 ocd5 kVd5 dcd5 pmd5 cdd5 ctd5 ocd6 kVd6 dcd6 pmd6 cdd6 ctd6 ocd7 kVd7 dcd7 pmd7 cdd7 ctd7 ocd8 kVd8 dcd8 pmd8 cdd8 ctd8 ocd9 kVd9 dcd9 pmd9 cdd9 ctd9 ocd10 kVd10 dcd10 pmd10 cdd10 ctd10 ocd11 kVd11 dcd11 pmd11 cdd11 ctd11 ocd12 kVd12 dcd12 pmd12 cdd12 ctd12 ocd13 kVd13 dcd13 pmd13 cdd13 ctd13 ocd14 kVd14 dcd14 pmd14 cdd14 ctd14 ocd15 kVd15 dcd15 pmd15 cdd15 ctd15 ocd16 kVd16 dcd16 pmd16 cdd16 ctd16 ocd17 kVd17 dcd17 pmd17 cdd17 ctd17 ocd18 kVd18 dcd18 pmd18 cdd18 ctd18 ocd19 kVd19 dcd19 pmd19 cdd19 ctd19 ocd20 kVd20 dcd20 pmd20 cdd20 ctd20 ocd21 kVd21 dcd21 pmd21 cdd21 ctd21 ocd22 kVd22 dcd22 pmd22 cdd22 ctd22 ocd23 kVd23 dcd23 pmd23 cdd23 ctd23 ocd24 kVd24 dcd24 pmd24 cdd24 ctd24 ocd25 kVd25 dcd25 pmd25 cdd25 ctd25 ocd26 kVd26 dcd26 pmd26 cdd26 ctd26 ocd27 kVd27 dcd27 pmd27 cdd27 ctd27 ocd28 kVd28 dcd28 pmd28 cdd28 ctd28 ocd29 kVd29 dcd29 pmd29 cdd29 ctd29 ocd30 kVd30 dcd30 pmd30 cdd30 ctd30 ocd31 kVd31 dcd31 pmd31 cdd31 ctd31 ocd32 kVd32 dcd32 pmd32 cdd32 ctd32 ocd33 kVd33 dcd33 pmd33 cdd33 ctd33 ocd34 kVd34 dcd34 pmd34 cdd34 ctd34 ocd35 kVd35 dcd35 pmd35 cdd35 ctd35 ocd36 kVd36 dcd36 pmd36 cdd36 ctd36 ocd37 kVd37 dcd37 pmd37 cdd37 ctd37 ocd38 kVd38 dcd38 pmd38 cdd38 ctd38 ocd39 kVd39 dcd39 pmd39 cdd39 ctd39 ocd40 kVd40 dcd40 pmd40 cdd40 ctd40 ocd41 kVd41 dcd41 pmd41 cdd41 ctd41 ocd42 kVd42 dcd42 pmd42 cdd42 ctd42 ocd43 kVd43 dcd43 pmd43 cdd43 ctd43 ocd44 kVd44 dcd44 pmd44 cdd44 ctd44 ocd45 kVd45 dcd45 pmd45 cdd45 ctd45 ocd46 kVd46 dcd46 pmd46 cdd46 ctd46 ocm0 kVm0 dcm0 pmm0 cdm0 ctm0 ocm1 kVm1 dcm1 pmm1 cdm1 ctm1 ocm2 kVm2 dcm2 pmm2 cdm2 ctm2 ocm3 kVm3 dcm3 pmm3 cdm3 ctm3 ocm4 kVm4 dcm4 pmm4 cdm4 ctm4 ocm5 kVm5 dcm5 pmm5 cdm5 ctm5 ocm6 kVm6 dcm6 pmm6 cdm6 ctm6 ocm7 kVm7 dcm7 pmm7 cdm7 ctm7 ocm8 kVm8 dcm8 pmm8 cdm8 ctm8 ocm9 kVm9 dcm9 pmm9 cdm9 ctm9 ocm10 kVm10 dcm10 pmm10 cdm10 ctm10 ocm11 kVm11 dcm11 pmm11 cdm11 ctm11 ocm12 kVm12 dcm12 pmm12 cdm12 ctm12 ocm13 kVm13 dcm13 pmm13 cdm13 ctm13 ocm14 kVm14 dcm14 pmm14 cdm14 ctm14 ocm15 kVm15 dcm15 pmm15 cdm15 ctm15 ocm16 kVm16 dcm16 pmm16 cdm16 ctm16 ocm17 kVm17 dcm17 pmm17 cdm17 ctm17 ocp0 kVp0 dcp0 pmp0 cdp0 ctp0 ocp1 kVp1 dcp1 pmp1 cdp1 ctp1 ocI kVI dcI pmI cdI ctI : Value} {ulets umost unml ulnm umln umtn umkn uS1 uS2 uS3 uS4 uT1 uT2 uT3 uT4 uTm1 uTm2 uTm3 uTm4 xaW0 xaW1 xaW2 xaW3 xaA0 xaA1 xaP0 xaP1 xaP2 uqXY vtXY uqXZ vtXZ uqYX vtYX uqYZ vtYZ uqZX vtZX uqZY vtZY ohI ohX ohY ohZ oczII oczIX oczIY oczIZ oczXI oczXX oczXY oczXZ oczYI oczYX oczYY oczYZ oczZI oczZX oczZY oczZZ ocxII ocxIX ocxIY ocxIZ ocxXI ocxXX ocxXY ocxXZ ocxYI ocxYX ocxYY ocxYZ ocxZI ocxZX ocxZY ocxZZ tb1 tb2 tb3 tb4 : Tok} {rsp0 rsp1 : List Value} {esaS esaT esqa esta esha esza esxa : Array DictEntry} {naS naT nqa nta nha nza nxa naW naA naP nB nk1 nk2 nk3 nk4 : Nat} {h1 h2 h3 h4 : Int} {nmCB qCB : Str} {NCB : Addr} {bsCB subCB : List Value} {snCB : List Str} {abCB : Bool} {colCB : Option Bool} {ddCB : Option Addr} {x0CB x1CB x2CB x3CB x5CB : Option Value} {nmCL qCL : Str} {NCL : Addr} {bsCL subCL : List Value} {snCL : List Str} {abCL : Bool} {colCL : Option Bool} {ddCL : Option Addr} {x0CL x1CL x2CL x3CL x5CL : Option Value} {nmCM qCM : Str} {NCM : Addr} {bsCM subCM : List Value} {snCM : List Str} {abCM : Bool} {colCM : Option Bool} {ddCM : Option Addr} {x0CM x1CM x2CM x3CM x5CM : Option Value}
    (ad0 : PySem.W.nsIn K mainGlobals "need_word" = some (some (.ref fd0)))
    (ld0 : K.lookup fd0 = some ⟨ocd0, odd0, .func (PySem.W.fnOf "need_word" "need_word" (defArgs sNeed) (defBody sNeed) (defScope sNeed) .none kVd0 dcd0 pmd0 and0 cdd0 ctd0), sld0⟩)
    (cd0 : PySem.W.codeIn K cdd0 "need_word" = true)
    (kd0 : PySem.W.keepIn K (.ref fd0) = true)
    (ad1 : PySem.W.nsIn K mainGlobals "is_word_of" = some (some (.ref fd1)))
    (ld1 : K.lookup fd1 = some ⟨ocd1, odd1, .func (PySem.W.fnOf "is_word_of" "is_word_of" (defArgs sIsWordOf) (defBody sIsWordOf) (defScope sIsWordOf) .none kVd1 dcd1 pmd1 and1 cdd1 ctd1), sld1⟩)
    (cd1 : PySem.W.codeIn K cdd1 "is_word_of" = true)
    (kd1 : PySem.W.keepIn K (.ref fd1) = true)
    (ad2 : PySem.W.nsIn K mainGlobals "are_letters" = some (some (.ref fd2)))
    (ld2 : K.lookup fd2 = some ⟨ocd2, odd2, .func (PySem.W.fnOf "are_letters" "are_letters" (defArgs sAre) (defBody sAre) (defScope sAre) .none kVd2 dcd2 pmd2 and2 cdd2 ctd2), sld2⟩)
    (cd2 : PySem.W.codeIn K cdd2 "are_letters" = true)
    (kd2 : PySem.W.keepIn K (.ref fd2) = true)
    (ad3 : PySem.W.nsIn K mainGlobals "signed_text" = some (some (.ref fd3)))
    (ld3 : K.lookup fd3 = some ⟨ocd3, odd3, .func (PySem.W.fnOf "signed_text" "signed_text" (defArgs sSigned) (defBody sSigned) (defScope sSigned) .none kVd3 dcd3 pmd3 and3 cdd3 ctd3), sld3⟩)
    (cd3 : PySem.W.codeIn K cdd3 "signed_text" = true)
    (kd3 : PySem.W.keepIn K (.ref fd3) = true)
    (ad4 : PySem.W.nsIn K mainGlobals "quarters" = some (some (.ref fd4)))
    (ld4 : K.lookup fd4 = some ⟨ocd4, odd4, .func (PySem.W.fnOf "quarters" "quarters" (defArgs sQuarters) (defBody sQuarters) (defScope sQuarters) .none kVd4 dcd4 pmd4 and4 cdd4 ctd4), sld4⟩)
    (cd4 : PySem.W.codeIn K cdd4 "quarters" = true)
    (kd4 : PySem.W.keepIn K (.ref fd4) = true)
    (ad5 : PySem.W.nsIn K mainGlobals "made_letters" = some (some (.ref fd5)))
    (ld5 : K.lookup fd5 = some ⟨ocd5, odd5, .func (PySem.W.fnOf "made_letters" "made_letters" (defArgs sMade) (defBody sMade) (defScope sMade) .none kVd5 dcd5 pmd5 and5 cdd5 ctd5), sld5⟩)
    (cd5 : PySem.W.codeIn K cdd5 "made_letters" = true)
    (kd5 : PySem.W.keepIn K (.ref fd5) = true)
    (ad6 : PySem.W.nsIn K mainGlobals "_made_letter" = some (some (.ref fd6)))
    (ld6 : K.lookup fd6 = some ⟨ocd6, odd6, .func (PySem.W.fnOf "_made_letter" "_made_letter" (defArgs sLetter) (defBody sLetter) (defScope sLetter) .none kVd6 dcd6 pmd6 and6 cdd6 ctd6), sld6⟩)
    (cd6 : PySem.W.codeIn K cdd6 "_made_letter" = true)
    (kd6 : PySem.W.keepIn K (.ref fd6) = true)
    (ad7 : PySem.W.nsIn K mainGlobals "pass_by" = some (some (.ref fd7)))
    (ld7 : K.lookup fd7 = some ⟨ocd7, odd7, .func (PySem.W.fnOf "pass_by" "pass_by" (defArgs sPassBy) (defBody sPassBy) (defScope sPassBy) .none kVd7 dcd7 pmd7 and7 cdd7 ctd7), sld7⟩)
    (cd7 : PySem.W.codeIn K cdd7 "pass_by" = true)
    (kd7 : PySem.W.keepIn K (.ref fd7) = true)
    (ad8 : PySem.W.nsIn K mainGlobals "bent" = some (some (.ref fd8)))
    (ld8 : K.lookup fd8 = some ⟨ocd8, odd8, .func (PySem.W.fnOf "bent" "bent" (defArgs sBentF) (defBody sBentF) (defScope sBentF) .none kVd8 dcd8 pmd8 and8 cdd8 ctd8), sld8⟩)
    (cd8 : PySem.W.codeIn K cdd8 "bent" = true)
    (kd8 : PySem.W.keepIn K (.ref fd8) = true)
    (ad9 : PySem.W.nsIn K mainGlobals "led_through" = some (some (.ref fd9)))
    (ld9 : K.lookup fd9 = some ⟨ocd9, odd9, .func (PySem.W.fnOf "led_through" "led_through" (defArgs sLedThr) (defBody sLedThr) (defScope sLedThr) .none kVd9 dcd9 pmd9 and9 cdd9 ctd9), sld9⟩)
    (cd9 : PySem.W.codeIn K cdd9 "led_through" = true)
    (kd9 : PySem.W.keepIn K (.ref fd9) = true)
    (ad10 : PySem.W.nsIn K mainGlobals "first_words" = some (some (.ref fd10)))
    (ld10 : K.lookup fd10 = some ⟨ocd10, odd10, .func (PySem.W.fnOf "first_words" "first_words" (defArgs sFirstWords) (defBody sFirstWords) (defScope sFirstWords) .none kVd10 dcd10 pmd10 and10 cdd10 ctd10), sld10⟩)
    (cd10 : PySem.W.codeIn K cdd10 "first_words" = true)
    (kd10 : PySem.W.keepIn K (.ref fd10) = true)
    (ad11 : PySem.W.nsIn K mainGlobals "lone_letter" = some (some (.ref fd11)))
    (ld11 : K.lookup fd11 = some ⟨ocd11, odd11, .func (PySem.W.fnOf "lone_letter" "lone_letter" (defArgs sLone) (defBody sLone) (defScope sLone) .none kVd11 dcd11 pmd11 and11 cdd11 ctd11), sld11⟩)
    (cd11 : PySem.W.codeIn K cdd11 "lone_letter" = true)
    (kd11 : PySem.W.keepIn K (.ref fd11) = true)
    (ad12 : PySem.W.nsIn K mainGlobals "_through_one" = some (some (.ref fd12)))
    (ld12 : K.lookup fd12 = some ⟨ocd12, odd12, .func (PySem.W.fnOf "_through_one" "_through_one" (defArgs sThrOne) (defBody sThrOne) (defScope sThrOne) .none kVd12 dcd12 pmd12 and12 cdd12 ctd12), sld12⟩)
    (cd12 : PySem.W.codeIn K cdd12 "_through_one" = true)
    (kd12 : PySem.W.keepIn K (.ref fd12) = true)
    (ad13 : PySem.W.nsIn K mainGlobals "_through_about" = some (some (.ref fd13)))
    (ld13 : K.lookup fd13 = some ⟨ocd13, odd13, .func (PySem.W.fnOf "_through_about" "_through_about" (defArgs sThrAbout) (defBody sThrAbout) (defScope sThrAbout) .none kVd13 dcd13 pmd13 and13 cdd13 ctd13), sld13⟩)
    (cd13 : PySem.W.codeIn K cdd13 "_through_about" = true)
    (kd13 : PySem.W.keepIn K (.ref fd13) = true)
    (ad14 : PySem.W.nsIn K mainGlobals "_exchanged" = some (some (.ref fd14)))
    (ld14 : K.lookup fd14 = some ⟨ocd14, odd14, .func (PySem.W.fnOf "_exchanged" "_exchanged" (defArgs sExch) (defBody sExch) (defScope sExch) .none kVd14 dcd14 pmd14 and14 cdd14 ctd14), sld14⟩)
    (cd14 : PySem.W.codeIn K cdd14 "_exchanged" = true)
    (kd14 : PySem.W.keepIn K (.ref fd14) = true)
    (ad15 : PySem.W.nsIn K mainGlobals "fixed_steps" = some (some (.ref fd15)))
    (ld15 : K.lookup fd15 = some ⟨ocd15, odd15, .func (PySem.W.fnOf "fixed_steps" "fixed_steps" (defArgs sFixSteps) (defBody sFixSteps) (defScope sFixSteps) .none kVd15 dcd15 pmd15 and15 cdd15 ctd15), sld15⟩)
    (cd15 : PySem.W.codeIn K cdd15 "fixed_steps" = true)
    (kd15 : PySem.W.keepIn K (.ref fd15) = true)
    (ad16 : PySem.W.nsIn K mainGlobals "fixed_images" = some (some (.ref fd16)))
    (ld16 : K.lookup fd16 = some ⟨ocd16, odd16, .func (PySem.W.fnOf "fixed_images" "fixed_images" (defArgs sFixImages) (defBody sFixImages) (defScope sFixImages) .none kVd16 dcd16 pmd16 and16 cdd16 ctd16), sld16⟩)
    (cd16 : PySem.W.codeIn K cdd16 "fixed_images" = true)
    (kd16 : PySem.W.keepIn K (.ref fd16) = true)
    (ad17 : PySem.W.nsIn K mainGlobals "table_of" = some (some (.ref fd17)))
    (ld17 : K.lookup fd17 = some ⟨ocd17, odd17, .func (PySem.W.fnOf "table_of" "table_of" (defArgs sTableOf) (defBody sTableOf) (defScope sTableOf) .none kVd17 dcd17 pmd17 and17 cdd17 ctd17), sld17⟩)
    (cd17 : PySem.W.codeIn K cdd17 "table_of" = true)
    (kd17 : PySem.W.keepIn K (.ref fd17) = true)
    (ad18 : PySem.W.nsIn K mainGlobals "gates" = some (some (.ref fd18)))
    (ld18 : K.lookup fd18 = some ⟨ocd18, odd18, .func (PySem.W.fnOf "gates" "gates" (defArgs sGates) (defBody sGates) (defScope sGates) .none kVd18 dcd18 pmd18 and18 cdd18 ctd18), sld18⟩)
    (cd18 : PySem.W.codeIn K cdd18 "gates" = true)
    (kd18 : PySem.W.keepIn K (.ref fd18) = true)
    (ad19 : PySem.W.nsIn K mainGlobals "_are_images" = some (some (.ref fd19)))
    (ld19 : K.lookup fd19 = some ⟨ocd19, odd19, .func (PySem.W.fnOf "_are_images" "_are_images" (defArgs sAreImages) (defBody sAreImages) (defScope sAreImages) .none kVd19 dcd19 pmd19 and19 cdd19 ctd19), sld19⟩)
    (cd19 : PySem.W.codeIn K cdd19 "_are_images" = true)
    (kd19 : PySem.W.keepIn K (.ref fd19) = true)
    (ad20 : PySem.W.nsIn K mainGlobals "_letters_beside" = some (some (.ref fd20)))
    (ld20 : K.lookup fd20 = some ⟨ocd20, odd20, .func (PySem.W.fnOf "_letters_beside" "_letters_beside" (defArgs sLBeside) (defBody sLBeside) (defScope sLBeside) .none kVd20 dcd20 pmd20 and20 cdd20 ctd20), sld20⟩)
    (cd20 : PySem.W.codeIn K cdd20 "_letters_beside" = true)
    (kd20 : PySem.W.keepIn K (.ref fd20) = true)
    (ad21 : PySem.W.nsIn K mainGlobals "_quarters_to" = some (some (.ref fd21)))
    (ld21 : K.lookup fd21 = some ⟨ocd21, odd21, .func (PySem.W.fnOf "_quarters_to" "_quarters_to" (defArgs sQuartersTo) (defBody sQuartersTo) (defScope sQuartersTo) .none kVd21 dcd21 pmd21 and21 cdd21 ctd21), sld21⟩)
    (cd21 : PySem.W.codeIn K cdd21 "_quarters_to" = true)
    (kd21 : PySem.W.keepIn K (.ref fd21) = true)
    (ad22 : PySem.W.nsIn K mainGlobals "_ways" = some (some (.ref fd22)))
    (ld22 : K.lookup fd22 = some ⟨ocd22, odd22, .func (PySem.W.fnOf "_ways" "_ways" (defArgs sWays) (defBody sWays) (defScope sWays) .none kVd22 dcd22 pmd22 and22 cdd22 ctd22), sld22⟩)
    (cd22 : PySem.W.codeIn K cdd22 "_ways" = true)
    (kd22 : PySem.W.keepIn K (.ref fd22) = true)
    (ad23 : PySem.W.nsIn K mainGlobals "_moved" = some (some (.ref fd23)))
    (ld23 : K.lookup fd23 = some ⟨ocd23, odd23, .func (PySem.W.fnOf "_moved" "_moved" (defArgs sMoved) (defBody sMoved) (defScope sMoved) .none kVd23 dcd23 pmd23 and23 cdd23 ctd23), sld23⟩)
    (cd23 : PySem.W.codeIn K cdd23 "_moved" = true)
    (kd23 : PySem.W.keepIn K (.ref fd23) = true)
    (ad24 : PySem.W.nsIn K mainGlobals "is_whole" = some (some (.ref fd24)))
    (ld24 : K.lookup fd24 = some ⟨ocd24, odd24, .func (PySem.W.fnOf "is_whole" "is_whole" (defArgs K79F.sIsWhole) (defBody K79F.sIsWhole) (defScope K79F.sIsWhole) .none kVd24 dcd24 pmd24 and24 cdd24 ctd24), sld24⟩)
    (cd24 : PySem.W.codeIn K cdd24 "is_whole" = true)
    (kd24 : PySem.W.keepIn K (.ref fd24) = true)
    (ad25 : PySem.W.nsIn K mainGlobals "is_name" = some (some (.ref fd25)))
    (ld25 : K.lookup fd25 = some ⟨ocd25, odd25, .func (PySem.W.fnOf "is_name" "is_name" (defArgs K79F.sName) (defBody K79F.sName) (defScope K79F.sName) .none kVd25 dcd25 pmd25 and25 cdd25 ctd25), sld25⟩)
    (cd25 : PySem.W.codeIn K cdd25 "is_name" = true)
    (kd25 : PySem.W.keepIn K (.ref fd25) = true)
    (ad26 : PySem.W.nsIn K mainGlobals "ascending" = some (some (.ref fd26)))
    (ld26 : K.lookup fd26 = some ⟨ocd26, odd26, .func (PySem.W.fnOf "ascending" "ascending" (defArgs K79F.sAsc) (defBody K79F.sAsc) (defScope K79F.sAsc) .none kVd26 dcd26 pmd26 and26 cdd26 ctd26), sld26⟩)
    (cd26 : PySem.W.codeIn K cdd26 "ascending" = true)
    (kd26 : PySem.W.keepIn K (.ref fd26) = true)
    (ad27 : PySem.W.nsIn K mainGlobals "_merged" = some (some (.ref fd27)))
    (ld27 : K.lookup fd27 = some ⟨ocd27, odd27, .func (PySem.W.fnOf "_merged" "_merged" (defArgs K79F.sMerged) (defBody K79F.sMerged) (defScope K79F.sMerged) .none kVd27 dcd27 pmd27 and27 cdd27 ctd27), sld27⟩)
    (cd27 : PySem.W.codeIn K cdd27 "_merged" = true)
    (kd27 : PySem.W.keepIn K (.ref fd27) = true)
    (ad28 : PySem.W.nsIn K mainGlobals "read_circuit" = some (some (.ref fd28)))
    (ld28 : K.lookup fd28 = some ⟨ocd28, odd28, .func (PySem.W.fnOf "read_circuit" "read_circuit" (defArgs K79F.sReadC) (defBody K79F.sReadC) (defScope K79F.sReadC) .none kVd28 dcd28 pmd28 and28 cdd28 ctd28), sld28⟩)
    (cd28 : PySem.W.codeIn K cdd28 "read_circuit" = true)
    (kd28 : PySem.W.keepIn K (.ref fd28) = true)
    (ad29 : PySem.W.nsIn K mainGlobals "read_line" = some (some (.ref fd29)))
    (ld29 : K.lookup fd29 = some ⟨ocd29, odd29, .func (PySem.W.fnOf "read_line" "read_line" (defArgs K79F.sReadL) (defBody K79F.sReadL) (defScope K79F.sReadL) .none kVd29 dcd29 pmd29 and29 cdd29 ctd29), sld29⟩)
    (cd29 : PySem.W.codeIn K cdd29 "read_line" = true)
    (kd29 : PySem.W.keepIn K (.ref fd29) = true)
    (ad30 : PySem.W.nsIn K mainGlobals "is_turn" = some (some (.ref fd30)))
    (ld30 : K.lookup fd30 = some ⟨ocd30, odd30, .func (PySem.W.fnOf "is_turn" "is_turn" (defArgs K79F.sIsTurn) (defBody K79F.sIsTurn) (defScope K79F.sIsTurn) .none kVd30 dcd30 pmd30 and30 cdd30 ctd30), sld30⟩)
    (cd30 : PySem.W.codeIn K cdd30 "is_turn" = true)
    (kd30 : PySem.W.keepIn K (.ref fd30) = true)
    (ad31 : PySem.W.nsIn K mainGlobals "_read_about" = some (some (.ref fd31)))
    (ld31 : K.lookup fd31 = some ⟨ocd31, odd31, .func (PySem.W.fnOf "_read_about" "_read_about" (defArgs K79F.sAbout) (defBody K79F.sAbout) (defScope K79F.sAbout) .none kVd31 dcd31 pmd31 and31 cdd31 ctd31), sld31⟩)
    (cd31 : PySem.W.codeIn K cdd31 "_read_about" = true)
    (kd31 : PySem.W.keepIn K (.ref fd31) = true)
    (ad32 : PySem.W.nsIn K mainGlobals "_read_turn" = some (some (.ref fd32)))
    (ld32 : K.lookup fd32 = some ⟨ocd32, odd32, .func (PySem.W.fnOf "_read_turn" "_read_turn" (defArgs K79F.sTurn) (defBody K79F.sTurn) (defScope K79F.sTurn) .none kVd32 dcd32 pmd32 and32 cdd32 ctd32), sld32⟩)
    (cd32 : PySem.W.codeIn K cdd32 "_read_turn" = true)
    (kd32 : PySem.W.keepIn K (.ref fd32) = true)
    (ad33 : PySem.W.nsIn K mainGlobals "_is_about" = some (some (.ref fd33)))
    (ld33 : K.lookup fd33 = some ⟨ocd33, odd33, .func (PySem.W.fnOf "_is_about" "_is_about" (defArgs K79F.sIsAbout) (defBody K79F.sIsAbout) (defScope K79F.sIsAbout) .none kVd33 dcd33 pmd33 and33 cdd33 ctd33), sld33⟩)
    (cd33 : PySem.W.codeIn K cdd33 "_is_about" = true)
    (kd33 : PySem.W.keepIn K (.ref fd33) = true)
    (ad34 : PySem.W.nsIn K mainGlobals "_are_wires" = some (some (.ref fd34)))
    (ld34 : K.lookup fd34 = some ⟨ocd34, odd34, .func (PySem.W.fnOf "_are_wires" "_are_wires" (defArgs K79F.sWires) (defBody K79F.sWires) (defScope K79F.sWires) .none kVd34 dcd34 pmd34 and34 cdd34 ctd34), sld34⟩)
    (cd34 : PySem.W.codeIn K cdd34 "_are_wires" = true)
    (kd34 : PySem.W.keepIn K (.ref fd34) = true)
    (ad35 : PySem.W.nsIn K mainGlobals "_joined" = some (some (.ref fd35)))
    (ld35 : K.lookup fd35 = some ⟨ocd35, odd35, .func (PySem.W.fnOf "_joined" "_joined" (defArgs K79F.sJoined) (defBody K79F.sJoined) (defScope K79F.sJoined) .none kVd35 dcd35 pmd35 and35 cdd35 ctd35), sld35⟩)
    (cd35 : PySem.W.codeIn K cdd35 "_joined" = true)
    (kd35 : PySem.W.keepIn K (.ref fd35) = true)
    (ad36 : PySem.W.nsIn K mainGlobals "_fitting" = some (some (.ref fd36)))
    (ld36 : K.lookup fd36 = some ⟨ocd36, odd36, .func (PySem.W.fnOf "_fitting" "_fitting" (defArgs K79F.sFitting) (defBody K79F.sFitting) (defScope K79F.sFitting) .none kVd36 dcd36 pmd36 and36 cdd36 ctd36), sld36⟩)
    (cd36 : PySem.W.codeIn K cdd36 "_fitting" = true)
    (kd36 : PySem.W.keepIn K (.ref fd36) = true)
    (ad37 : PySem.W.nsIn K mainGlobals "_turns" = some (some (.ref fd37)))
    (ld37 : K.lookup fd37 = some ⟨ocd37, odd37, .func (PySem.W.fnOf "_turns" "_turns" (defArgs K79F.sTurns) (defBody K79F.sTurns) (defScope K79F.sTurns) .none kVd37 dcd37 pmd37 and37 cdd37 ctd37), sld37⟩)
    (cd37 : PySem.W.codeIn K cdd37 "_turns" = true)
    (kd37 : PySem.W.keepIn K (.ref fd37) = true)
    (ad38 : PySem.W.nsIn K mainGlobals "_law_pot" = some (some (.ref fd38)))
    (ld38 : K.lookup fd38 = some ⟨ocd38, odd38, .func (PySem.W.fnOf "_law_pot" "_law_pot" (defArgs sPot) (defBody sPot) (defScope sPot) .none kVd38 dcd38 pmd38 and38 cdd38 ctd38), sld38⟩)
    (cd38 : PySem.W.codeIn K cdd38 "_law_pot" = true)
    (kd38 : PySem.W.keepIn K (.ref fd38) = true)
    (ad39 : PySem.W.nsIn K mainGlobals "_law_take" = some (some (.ref fd39)))
    (ld39 : K.lookup fd39 = some ⟨ocd39, odd39, .func (PySem.W.fnOf "_law_take" "_law_take" (defArgs sTake) (defBody sTake) (defScope sTake) .none kVd39 dcd39 pmd39 and39 cdd39 ctd39), sld39⟩)
    (cd39 : PySem.W.codeIn K cdd39 "_law_take" = true)
    (kd39 : PySem.W.keepIn K (.ref fd39) = true)
    (ad40 : PySem.W.nsIn K mainGlobals "_law_of" = some (some (.ref fd40)))
    (ld40 : K.lookup fd40 = some ⟨ocd40, odd40, .func (PySem.W.fnOf "_law_of" "_law_of" (defArgs sOf) (defBody sOf) (defScope sOf) .none kVd40 dcd40 pmd40 and40 cdd40 ctd40), sld40⟩)
    (cd40 : PySem.W.codeIn K cdd40 "_law_of" = true)
    (kd40 : PySem.W.keepIn K (.ref fd40) = true)
    (ad41 : PySem.W.nsIn K mainGlobals "_law_cells" = some (some (.ref fd41)))
    (ld41 : K.lookup fd41 = some ⟨ocd41, odd41, .func (PySem.W.fnOf "_law_cells" "_law_cells" (defArgs sCells) (defBody sCells) (defScope sCells) .none kVd41 dcd41 pmd41 and41 cdd41 ctd41), sld41⟩)
    (cd41 : PySem.W.codeIn K cdd41 "_law_cells" = true)
    (kd41 : PySem.W.keepIn K (.ref fd41) = true)
    (ad42 : PySem.W.nsIn K mainGlobals "_law_texts" = some (some (.ref fd42)))
    (ld42 : K.lookup fd42 = some ⟨ocd42, odd42, .func (PySem.W.fnOf "_law_texts" "_law_texts" (defArgs sLTexts) (defBody sLTexts) (defScope sLTexts) .none kVd42 dcd42 pmd42 and42 cdd42 ctd42), sld42⟩)
    (cd42 : PySem.W.codeIn K cdd42 "_law_texts" = true)
    (kd42 : PySem.W.keepIn K (.ref fd42) = true)
    (ad43 : PySem.W.nsIn K mainGlobals "_law_are_lines_right" = some (some (.ref fd43)))
    (ld43 : K.lookup fd43 = some ⟨ocd43, odd43, .func (PySem.W.fnOf "_law_are_lines_right" "_law_are_lines_right" (defArgs sLinesRight) (defBody sLinesRight) (defScope sLinesRight) .none kVd43 dcd43 pmd43 and43 cdd43 ctd43), sld43⟩)
    (cd43 : PySem.W.codeIn K cdd43 "_law_are_lines_right" = true)
    (kd43 : PySem.W.keepIn K (.ref fd43) = true)
    (ad44 : PySem.W.nsIn K mainGlobals "_law_are_all_right" = some (some (.ref fd44)))
    (ld44 : K.lookup fd44 = some ⟨ocd44, odd44, .func (PySem.W.fnOf "_law_are_all_right" "_law_are_all_right" (defArgs sAllRight) (defBody sAllRight) (defScope sAllRight) .none kVd44 dcd44 pmd44 and44 cdd44 ctd44), sld44⟩)
    (cd44 : PySem.W.codeIn K cdd44 "_law_are_all_right" = true)
    (kd44 : PySem.W.keepIn K (.ref fd44) = true)
    (ad45 : PySem.W.nsIn K mainGlobals "_law_right" = some (some (.ref fd45)))
    (ld45 : K.lookup fd45 = some ⟨ocd45, odd45, .func (PySem.W.fnOf "_law_right" "_law_right" (defArgs sRight) (defBody sRight) (defScope sRight) .none kVd45 dcd45 pmd45 and45 cdd45 ctd45), sld45⟩)
    (cd45 : PySem.W.codeIn K cdd45 "_law_right" = true)
    (kd45 : PySem.W.keepIn K (.ref fd45) = true)
    (ad46 : PySem.W.nsIn K mainGlobals "law" = some (some (.ref fd46)))
    (ld46 : K.lookup fd46 = some ⟨ocd46, odd46, .func (PySem.W.fnOf "law" "law" (defArgs sLaw) (defBody sLaw) (defScope sLaw) .none kVd46 dcd46 pmd46 and46 cdd46 ctd46), sld46⟩)
    (cd46 : PySem.W.codeIn K cdd46 "law" = true)
    (kd46 : PySem.W.keepIn K (.ref fd46) = true)
    (hn : PySem.W.specialIn K (.builtin "object.__class__") "__get__" = some (some (.builtin "getset_descriptor.__get__")))
    (ht : PySem.W.takesIn K (.builtin "object.__class__") = some true)
    (aC : PySem.W.nsIn K mainGlobals "Word" = some (some (.ref C)))
    (pgC : PySem.W.plainGet K C Str.empty = true)
    (hdC : PySem.W.hasDictIn K C = true)
    (poC : PySem.W.plainOver K C = true)
    (saC : PySem.W.findIn K (.ref C) "__setattr__" = some (some (.builtin "object.__setattr__")))
    (mkC : PySem.W.makesIn K C = true)
    (kC : PySem.W.keepIn K (.ref C) = true)
    (haC : PySem.W.findIn K (.ref C) "__class__" = some (some (.builtin "object.__class__")))
    (hmC : PySem.W.mroIn K C (.type "object") = some true)
    (nC0 : PySem.W.findIn K (.ref C) "letters" = some none)
    (nC1 : PySem.W.findIn K (.ref C) "sign" = some none)
    (aCT : PySem.W.nsIn K mainGlobals "Table" = some (some (.ref CT)))
    (pgCT : PySem.W.plainGet K CT Str.empty = true)
    (hdCT : PySem.W.hasDictIn K CT = true)
    (poCT : PySem.W.plainOver K CT = true)
    (saCT : PySem.W.findIn K (.ref CT) "__setattr__" = some (some (.builtin "object.__setattr__")))
    (mkCT : PySem.W.makesIn K CT = true)
    (kCT : PySem.W.keepIn K (.ref CT) = true)
    (haCT : PySem.W.findIn K (.ref CT) "__class__" = some (some (.builtin "object.__class__")))
    (hmCT : PySem.W.mroIn K CT (.type "object") = some true)
    (nCT0 : PySem.W.findIn K (.ref CT) "images" = some none)
    (nCT1 : PySem.W.findIn K (.ref CT) "wires" = some none)
    (aCC : PySem.W.nsIn K mainGlobals "Circuit" = some (some (.ref CC)))
    (pgCC : PySem.W.plainGet K CC Str.empty = true)
    (hdCC : PySem.W.hasDictIn K CC = true)
    (poCC : PySem.W.plainOver K CC = true)
    (saCC : PySem.W.findIn K (.ref CC) "__setattr__" = some (some (.builtin "object.__setattr__")))
    (mkCC : PySem.W.makesIn K CC = true)
    (kCC : PySem.W.keepIn K (.ref CC) = true)
    (haCC : PySem.W.findIn K (.ref CC) "__class__" = some (some (.builtin "object.__class__")))
    (hmCC : PySem.W.mroIn K CC (.type "object") = some true)
    (nCC0 : PySem.W.findIn K (.ref CC) "_text" = some none)
    (nCC1 : PySem.W.findIn K (.ref CC) "_lines" = some none)
    (nCC2 : PySem.W.findIn K (.ref CC) "steps" = some none)
    (nCC3 : PySem.W.findIn K (.ref CC) "wires" = some none)
    (nCC4 : PySem.W.findIn K (.ref CC) "knobs" = some none)
    (nCC5 : PySem.W.findIn K (.ref CC) "turns" = some none)
    (sfC : PySem.W.selfFirst K C = true)
    (nfC : PySem.W.notFirst K C (.ref C) = true)
    (neC : PySem.W.findIn K (.ref C) "__ne__" = some (some (.builtin "object.__ne__")))
    (sfCT : PySem.W.selfFirst K CT = true)
    (nfCT : PySem.W.notFirst K CT (.ref CT) = true)
    (neCT : PySem.W.findIn K (.ref CT) "__ne__" = some (some (.builtin "object.__ne__")))
    (am0 : PySem.W.findIn K (.ref C) "__init__" = some (some (.ref fm0)))
    (im0 : PySem.W.isFn K (.ref fm0) = true)
    (lm0 : K.lookup fm0 = some ⟨ocm0, odm0, .func (PySem.W.fnOf "__init__" "Word.__init__" (defArgs sInit) (defBody sInit) (defScope sInit) .none kVm0 dcm0 pmm0 anm0 cdm0 ctm0), slm0⟩)
    (cm0 : PySem.W.codeIn K cdm0 "Word.__init__" = true)
    (km0 : PySem.W.keepIn K (.ref fm0) = true)
    (am1 : PySem.W.findIn K (.ref C) "__len__" = some (some (.ref fm1)))
    (im1 : PySem.W.isFn K (.ref fm1) = true)
    (lm1 : K.lookup fm1 = some ⟨ocm1, odm1, .func (PySem.W.fnOf "__len__" "Word.__len__" (defArgs sLen) (defBody sLen) (defScope sLen) .none kVm1 dcm1 pmm1 anm1 cdm1 ctm1), slm1⟩)
    (cm1 : PySem.W.codeIn K cdm1 "Word.__len__" = true)
    (km1 : PySem.W.keepIn K (.ref fm1) = true)
    (am2 : PySem.W.findIn K (.ref C) "__eq__" = some (some (.ref fm2)))
    (im2 : PySem.W.isFn K (.ref fm2) = true)
    (lm2 : K.lookup fm2 = some ⟨ocm2, odm2, .func (PySem.W.fnOf "__eq__" "Word.__eq__" (defArgs sEq) (defBody sEq) (defScope sEq) .none kVm2 dcm2 pmm2 anm2 cdm2 ctm2), slm2⟩)
    (cm2 : PySem.W.codeIn K cdm2 "Word.__eq__" = true)
    (km2 : PySem.W.keepIn K (.ref fm2) = true)
    (am3 : PySem.W.findIn K (.ref C) "__neg__" = some (some (.ref fm3)))
    (im3 : PySem.W.isFn K (.ref fm3) = true)
    (lm3 : K.lookup fm3 = some ⟨ocm3, odm3, .func (PySem.W.fnOf "__neg__" "Word.__neg__" (defArgs sNeg) (defBody sNeg) (defScope sNeg) .none kVm3 dcm3 pmm3 anm3 cdm3 ctm3), slm3⟩)
    (cm3 : PySem.W.codeIn K cdm3 "Word.__neg__" = true)
    (km3 : PySem.W.keepIn K (.ref fm3) = true)
    (am4 : PySem.W.findIn K (.ref C) "__mul__" = some (some (.ref fm4)))
    (im4 : PySem.W.isFn K (.ref fm4) = true)
    (lm4 : K.lookup fm4 = some ⟨ocm4, odm4, .func (PySem.W.fnOf "__mul__" "Word.__mul__" (defArgs sMul) (defBody sMul) (defScope sMul) .none kVm4 dcm4 pmm4 anm4 cdm4 ctm4), slm4⟩)
    (cm4 : PySem.W.codeIn K cdm4 "Word.__mul__" = true)
    (km4 : PySem.W.keepIn K (.ref fm4) = true)
    (am5 : PySem.W.findIn K (.ref C) "bent" = some (some (.ref fm5)))
    (im5 : PySem.W.isFn K (.ref fm5) = true)
    (lm5 : K.lookup fm5 = some ⟨ocm5, odm5, .func (PySem.W.fnOf "bent" "Word.bent" (defArgs sBent) (defBody sBent) (defScope sBent) .none kVm5 dcm5 pmm5 anm5 cdm5 ctm5), slm5⟩)
    (cm5 : PySem.W.codeIn K cdm5 "Word.bent" = true)
    (km5 : PySem.W.keepIn K (.ref fm5) = true)
    (am6 : PySem.W.findIn K (.ref C) "passes" = some (some (.ref fm6)))
    (im6 : PySem.W.isFn K (.ref fm6) = true)
    (lm6 : K.lookup fm6 = some ⟨ocm6, odm6, .func (PySem.W.fnOf "passes" "Word.passes" (defArgs sPasses) (defBody sPasses) (defScope sPasses) .none kVm6 dcm6 pmm6 anm6 cdm6 ctm6), slm6⟩)
    (cm6 : PySem.W.codeIn K cdm6 "Word.passes" = true)
    (km6 : PySem.W.keepIn K (.ref fm6) = true)
    (am7 : PySem.W.findIn K (.ref C) "_beside" = some (some (.ref fm7)))
    (im7 : PySem.W.isFn K (.ref fm7) = true)
    (lm7 : K.lookup fm7 = some ⟨ocm7, odm7, .func (PySem.W.fnOf "_beside" "Word._beside" (defArgs sBeside) (defBody sBeside) (defScope sBeside) .none kVm7 dcm7 pmm7 anm7 cdm7 ctm7), slm7⟩)
    (cm7 : PySem.W.codeIn K cdm7 "Word._beside" = true)
    (km7 : PySem.W.keepIn K (.ref fm7) = true)
    (am8 : PySem.W.findIn K (.ref CT) "__init__" = some (some (.ref fm8)))
    (im8 : PySem.W.isFn K (.ref fm8) = true)
    (lm8 : K.lookup fm8 = some ⟨ocm8, odm8, .func (PySem.W.fnOf "__init__" "Table.__init__" (defArgs sTInit) (defBody sTInit) (defScope sTInit) .none kVm8 dcm8 pmm8 anm8 cdm8 ctm8), slm8⟩)
    (cm8 : PySem.W.codeIn K cdm8 "Table.__init__" = true)
    (km8 : PySem.W.keepIn K (.ref fm8) = true)
    (am9 : PySem.W.findIn K (.ref CT) "__eq__" = some (some (.ref fm9)))
    (im9 : PySem.W.isFn K (.ref fm9) = true)
    (lm9 : K.lookup fm9 = some ⟨ocm9, odm9, .func (PySem.W.fnOf "__eq__" "Table.__eq__" (defArgs sTEq) (defBody sTEq) (defScope sTEq) .none kVm9 dcm9 pmm9 anm9 cdm9 ctm9), slm9⟩)
    (cm9 : PySem.W.codeIn K cdm9 "Table.__eq__" = true)
    (km9 : PySem.W.keepIn K (.ref fm9) = true)
    (am10 : PySem.W.findIn K (.ref CT) "__mul__" = some (some (.ref fm10)))
    (im10 : PySem.W.isFn K (.ref fm10) = true)
    (lm10 : K.lookup fm10 = some ⟨ocm10, odm10, .func (PySem.W.fnOf "__mul__" "Table.__mul__" (defArgs sTMul) (defBody sTMul) (defScope sTMul) .none kVm10 dcm10 pmm10 anm10 cdm10 ctm10), slm10⟩)
    (cm10 : PySem.W.codeIn K cdm10 "Table.__mul__" = true)
    (km10 : PySem.W.keepIn K (.ref fm10) = true)
    (am11 : PySem.W.findIn K (.ref CT) "__invert__" = some (some (.ref fm11)))
    (im11 : PySem.W.isFn K (.ref fm11) = true)
    (lm11 : K.lookup fm11 = some ⟨ocm11, odm11, .func (PySem.W.fnOf "__invert__" "Table.__invert__" (defArgs sTInv) (defBody sTInv) (defScope sTInv) .none kVm11 dcm11 pmm11 anm11 cdm11 ctm11), slm11⟩)
    (cm11 : PySem.W.codeIn K cdm11 "Table.__invert__" = true)
    (km11 : PySem.W.keepIn K (.ref fm11) = true)
    (am12 : PySem.W.findIn K (.ref CT) "back" = some (some (.ref fm12)))
    (im12 : PySem.W.isFn K (.ref fm12) = true)
    (lm12 : K.lookup fm12 = some ⟨ocm12, odm12, .func (PySem.W.fnOf "back" "Table.back" (defArgs sTBack) (defBody sTBack) (defScope sTBack) .none kVm12 dcm12 pmm12 anm12 cdm12 ctm12), slm12⟩)
    (cm12 : PySem.W.codeIn K cdm12 "Table.back" = true)
    (km12 : PySem.W.keepIn K (.ref fm12) = true)
    (am13 : PySem.W.findIn K (.ref CT) "_image" = some (some (.ref fm13)))
    (im13 : PySem.W.isFn K (.ref fm13) = true)
    (lm13 : K.lookup fm13 = some ⟨ocm13, odm13, .func (PySem.W.fnOf "_image" "Table._image" (defArgs sTImage) (defBody sTImage) (defScope sTImage) .none kVm13 dcm13 pmm13 anm13 cdm13 ctm13), slm13⟩)
    (cm13 : PySem.W.codeIn K cdm13 "Table._image" = true)
    (km13 : PySem.W.keepIn K (.ref fm13) = true)
    (am14 : PySem.W.findIn K (.ref CT) "_led_to" = some (some (.ref fm14)))
    (im14 : PySem.W.isFn K (.ref fm14) = true)
    (lm14 : K.lookup fm14 = some ⟨ocm14, odm14, .func (PySem.W.fnOf "_led_to" "Table._led_to" (defArgs sTLedTo) (defBody sTLedTo) (defScope sTLedTo) .none kVm14 dcm14 pmm14 anm14 cdm14 ctm14), slm14⟩)
    (cm14 : PySem.W.codeIn K cdm14 "Table._led_to" = true)
    (km14 : PySem.W.keepIn K (.ref fm14) = true)
    (am15 : PySem.W.findIn K (.ref CC) "__init__" = some (some (.ref fm15)))
    (im15 : PySem.W.isFn K (.ref fm15) = true)
    (lm15 : K.lookup fm15 = some ⟨ocm15, odm15, .func (PySem.W.fnOf "__init__" "Circuit.__init__" (defArgs K79F.sCInit) (defBody K79F.sCInit) (defScope K79F.sCInit) .none kVm15 dcm15 pmm15 anm15 cdm15 ctm15), slm15⟩)
    (cm15 : PySem.W.codeIn K cdm15 "Circuit.__init__" = true)
    (km15 : PySem.W.keepIn K (.ref fm15) = true)
    (am16 : PySem.W.findIn K (.ref CC) "__len__" = some (some (.ref fm16)))
    (im16 : PySem.W.isFn K (.ref fm16) = true)
    (lm16 : K.lookup fm16 = some ⟨ocm16, odm16, .func (PySem.W.fnOf "__len__" "Circuit.__len__" (defArgs K79F.sCLen) (defBody K79F.sCLen) (defScope K79F.sCLen) .none kVm16 dcm16 pmm16 anm16 cdm16 ctm16), slm16⟩)
    (cm16 : PySem.W.codeIn K cdm16 "Circuit.__len__" = true)
    (km16 : PySem.W.keepIn K (.ref fm16) = true)
    (am17 : PySem.W.findIn K (.ref CC) "put" = some (some (.ref fm17)))
    (im17 : PySem.W.isFn K (.ref fm17) = true)
    (lm17 : K.lookup fm17 = some ⟨ocm17, odm17, .func (PySem.W.fnOf "put" "Circuit.put" (defArgs K79F.sCPut) (defBody K79F.sCPut) (defScope K79F.sCPut) .none kVm17 dcm17 pmm17 anm17 cdm17 ctm17), slm17⟩)
    (cm17 : PySem.W.codeIn K cdm17 "Circuit.put" = true)
    (km17 : PySem.W.keepIn K (.ref fm17) = true)
    (ap0 : PySem.W.findIn K (.ref C) "text" = some (some (.ref pap0)))
    (gp0 : PySem.W.specialIn K (.ref pap0) "__get__" = some (some (.builtin "property.__get__")))
    (tp0 : PySem.W.takesIn K (.ref pap0) = some true)
    (rp0 : PySem.W.recIn K pap0 "property" = some (.ref fp0 :: rsp0))
    (lp0 : K.lookup fp0 = some ⟨ocp0, odp0, .func (PySem.W.fnOf "text" "Word.text" (defArgs sWTextP) (defBody sWTextP) (defScope sWTextP) .none kVp0 dcp0 pmp0 anp0 cdp0 ctp0), slp0⟩)
    (cp0 : PySem.W.codeIn K cdp0 "Word.text" = true)
    (kp0 : PySem.W.keepIn K (.ref fp0) = true)
    (ap1 : PySem.W.findIn K (.ref CC) "text" = some (some (.ref pap1)))
    (gp1 : PySem.W.specialIn K (.ref pap1) "__get__" = some (some (.builtin "property.__get__")))
    (tp1 : PySem.W.takesIn K (.ref pap1) = some true)
    (rp1 : PySem.W.recIn K pap1 "property" = some (.ref fp1 :: rsp1))
    (lp1 : K.lookup fp1 = some ⟨ocp1, odp1, .func (PySem.W.fnOf "text" "Circuit.text" (defArgs K79F.sCText) (defBody K79F.sCText) (defScope K79F.sCText) .none kVp1 dcp1 pmp1 anp1 cdp1 ctp1), slp1⟩)
    (cp1 : PySem.W.codeIn K cdp1 "Circuit.text" = true)
    (kp1 : PySem.W.keepIn K (.ref fp1) = true)
    (z_len : PySem.W.nsIn K mainGlobals "len" = some none)
    (z_int : PySem.W.nsIn K mainGlobals "int" = some none)
    (z_abs : PySem.W.nsIn K mainGlobals "abs" = some none)
    (z_max : PySem.W.nsIn K mainGlobals "max" = some none)
    (z_min : PySem.W.nsIn K mainGlobals "min" = some none)
    (z_range : PySem.W.nsIn K mainGlobals "range" = some none)
    (z_list : PySem.W.nsIn K mainGlobals "list" = some none)
    (z_all : PySem.W.nsIn K mainGlobals "all" = some none)
    (z_any : PySem.W.nsIn K mainGlobals "any" = some none)
    (z_isinstance : PySem.W.nsIn K mainGlobals "isinstance" = some none)
    (z_str : PySem.W.nsIn K mainGlobals "str" = some none)
    (z_tuple : PySem.W.nsIn K mainGlobals "tuple" = some none)
    (z_enumerate : PySem.W.nsIn K mainGlobals "enumerate" = some none)
    (z_zip : PySem.W.nsIn K mainGlobals "zip" = some none)
    (z_set : PySem.W.nsIn K mainGlobals "set" = some none)
    (z_repr : PySem.W.nsIn K mainGlobals "repr" = some none)
    (z_sum : PySem.W.nsIn K mainGlobals "sum" = some none)
    (z_bool : PySem.W.nsIn K mainGlobals "bool" = some none)
    (z_sorted : PySem.W.nsIn K mainGlobals "sorted" = some none)
    (k_ib : PySem.W.kitOne K (.type "int") (.type "bool") = some false)
    (g_lets : PySem.W.nsIn K mainGlobals "LETTERS" = some (some (.str "IXYZ" ulets)))
    (g_most : PySem.W.nsIn K mainGlobals "MOST_WIRES" = some (some (.int 4 umost)))
    (g_nml : PySem.W.nsIn K mainGlobals "NAME_LETTERS" = some (some (.str "abcdefghijklmnopqrstuvwxyz" unml)))
    (g_lnm : PySem.W.nsIn K mainGlobals "LONGEST_NAME" = some (some (.int 8 ulnm)))
    (g_mln : PySem.W.nsIn K mainGlobals "MOST_LINES" = some (some (.int 40 umln)))
    (g_mtn : PySem.W.nsIn K mainGlobals "MOST_TURNS" = some (some (.int 6 umtn)))
    (g_mkn : PySem.W.nsIn K mainGlobals "MOST_KNOBS" = some (some (.int 3 umkn)))
    (gaS : PySem.W.nsIn K mainGlobals "SIZES" = some (some (.ref aS)))
    (gaT : PySem.W.nsIn K mainGlobals "TIMES" = some (some (.ref aT)))
    (gqa : PySem.W.nsIn K mainGlobals "QUARTER" = some (some (.ref qa)))
    (gta : PySem.W.nsIn K mainGlobals "THIRD" = some (some (.ref ta)))
    (gha : PySem.W.nsIn K mainGlobals "H" = some (some (.ref ha)))
    (gza : PySem.W.nsIn K mainGlobals "CZ" = some (some (.ref za)))
    (gxa : PySem.W.nsIn K mainGlobals "CX" = some (some (.ref xa)))
    (gaW : PySem.W.nsIn K mainGlobals "WIRES" = some (some (.ref aW)))
    (gaA : PySem.W.nsIn K mainGlobals "ABOUT" = some (some (.ref aA)))
    (gaP : PySem.W.nsIn K mainGlobals "PAIRS" = some (some (.ref aP)))
    (laS : K.lookup aS = some ⟨.type "dict", none, .dict esaS naS, #[]⟩)
    (yaS : PySem.W.KeysLit w.params esaS.toList)
    (waS : (aS == sysModules) = false)
    (laT : K.lookup aT = some ⟨.type "dict", none, .dict esaT naT, #[]⟩)
    (yaT : PySem.W.KeysLit w.params esaT.toList)
    (waT : (aT == sysModules) = false)
    (lqa : K.lookup qa = some ⟨.type "dict", none, .dict esqa nqa, #[]⟩)
    (yqa : PySem.W.KeysLit w.params esqa.toList)
    (wqa : (qa == sysModules) = false)
    (lta : K.lookup ta = some ⟨.type "dict", none, .dict esta nta, #[]⟩)
    (yta : PySem.W.KeysLit w.params esta.toList)
    (wta : (ta == sysModules) = false)
    (lha : K.lookup ha = some ⟨.type "dict", none, .dict esha nha, #[]⟩)
    (yha : PySem.W.KeysLit w.params esha.toList)
    (wha : (ha == sysModules) = false)
    (lza : K.lookup za = some ⟨.type "dict", none, .dict esza nza, #[]⟩)
    (yza : PySem.W.KeysLit w.params esza.toList)
    (wza : (za == sysModules) = false)
    (lxa : K.lookup xa = some ⟨.type "dict", none, .dict esxa nxa, #[]⟩)
    (yxa : PySem.W.KeysLit w.params esxa.toList)
    (wxa : (xa == sysModules) = false)
    (s_1 : PySem.W.nsIn K aS "wires 1" = some (some (.int 1 uS1)))
    (s_2 : PySem.W.nsIn K aS "wires 2" = some (some (.int 2 uS2)))
    (s_3 : PySem.W.nsIn K aS "wires 3" = some (some (.int 3 uS3)))
    (s_4 : PySem.W.nsIn K aS "wires 4" = some (some (.int 4 uS4)))
    (t_1 : PySem.W.nsIn K aT "1" = some (some (.int (1) uT1)))
    (t_2 : PySem.W.nsIn K aT "2" = some (some (.int (2) uT2)))
    (t_3 : PySem.W.nsIn K aT "3" = some (some (.int (3) uT3)))
    (t_4 : PySem.W.nsIn K aT "4" = some (some (.int (4) uT4)))
    (t_m1 : PySem.W.nsIn K aT "-1" = some (some (.int (-1) uTm1)))
    (t_m2 : PySem.W.nsIn K aT "-2" = some (some (.int (-2) uTm2)))
    (t_m3 : PySem.W.nsIn K aT "-3" = some (some (.int (-3) uTm3)))
    (t_m4 : PySem.W.nsIn K aT "-4" = some (some (.int (-4) uTm4)))
    (laW : K.lookup aW = some ⟨.type "tuple", odaW, .seq #[.str "0" xaW0, .str "1" xaW1, .str "2" xaW2, .str "3" xaW3] naW, slaW⟩)
    (laA : K.lookup aA = some ⟨.type "tuple", odaA, .seq #[.str "flip" xaA0, .str "quarter" xaA1] naA, slaA⟩)
    (laP : K.lookup aP = some ⟨.type "tuple", odaP, .seq #[.str "cz" xaP0, .str "cx" xaP1, .str "swap" xaP2] naP, slaP⟩)
    (q_II : PySem.W.nsIn K qa "II" = some none)
    (q_IX : PySem.W.nsIn K qa "IX" = some none)
    (q_IY : PySem.W.nsIn K qa "IY" = some none)
    (q_IZ : PySem.W.nsIn K qa "IZ" = some none)
    (q_XI : PySem.W.nsIn K qa "XI" = some none)
    (q_XX : PySem.W.nsIn K qa "XX" = some none)
    (q_XY : PySem.W.nsIn K qa "XY" = some (some (.int (1) uqXY)))
    (tt_XY : PySem.W.nsIn K ta "XY" = some (some (.str "Z" vtXY)))
    (q_XZ : PySem.W.nsIn K qa "XZ" = some (some (.int (-1) uqXZ)))
    (tt_XZ : PySem.W.nsIn K ta "XZ" = some (some (.str "Y" vtXZ)))
    (q_YI : PySem.W.nsIn K qa "YI" = some none)
    (q_YX : PySem.W.nsIn K qa "YX" = some (some (.int (-1) uqYX)))
    (tt_YX : PySem.W.nsIn K ta "YX" = some (some (.str "Z" vtYX)))
    (q_YY : PySem.W.nsIn K qa "YY" = some none)
    (q_YZ : PySem.W.nsIn K qa "YZ" = some (some (.int (1) uqYZ)))
    (tt_YZ : PySem.W.nsIn K ta "YZ" = some (some (.str "X" vtYZ)))
    (q_ZI : PySem.W.nsIn K qa "ZI" = some none)
    (q_ZX : PySem.W.nsIn K qa "ZX" = some (some (.int (1) uqZX)))
    (tt_ZX : PySem.W.nsIn K ta "ZX" = some (some (.str "Y" vtZX)))
    (q_ZY : PySem.W.nsIn K qa "ZY" = some (some (.int (-1) uqZY)))
    (tt_ZY : PySem.W.nsIn K ta "ZY" = some (some (.str "X" vtZY)))
    (q_ZZ : PySem.W.nsIn K qa "ZZ" = some none)
    (h_I : PySem.W.nsIn K ha "I" = some (some (.str "I" ohI)))
    (h_X : PySem.W.nsIn K ha "X" = some (some (.str "Z" ohX)))
    (h_Y : PySem.W.nsIn K ha "Y" = some (some (.str "-Y" ohY)))
    (h_Z : PySem.W.nsIn K ha "Z" = some (some (.str "X" ohZ)))
    (cz_II : PySem.W.nsIn K za "II" = some (some (.str "II" oczII)))
    (cz_IX : PySem.W.nsIn K za "IX" = some (some (.str "ZX" oczIX)))
    (cz_IY : PySem.W.nsIn K za "IY" = some (some (.str "ZY" oczIY)))
    (cz_IZ : PySem.W.nsIn K za "IZ" = some (some (.str "IZ" oczIZ)))
    (cz_XI : PySem.W.nsIn K za "XI" = some (some (.str "XZ" oczXI)))
    (cz_XX : PySem.W.nsIn K za "XX" = some (some (.str "YY" oczXX)))
    (cz_XY : PySem.W.nsIn K za "XY" = some (some (.str "-YX" oczXY)))
    (cz_XZ : PySem.W.nsIn K za "XZ" = some (some (.str "XI" oczXZ)))
    (cz_YI : PySem.W.nsIn K za "YI" = some (some (.str "YZ" oczYI)))
    (cz_YX : PySem.W.nsIn K za "YX" = some (some (.str "-XY" oczYX)))
    (cz_YY : PySem.W.nsIn K za "YY" = some (some (.str "XX" oczYY)))
    (cz_YZ : PySem.W.nsIn K za "YZ" = some (some (.str "YI" oczYZ)))
    (cz_ZI : PySem.W.nsIn K za "ZI" = some (some (.str "ZI" oczZI)))
    (cz_ZX : PySem.W.nsIn K za "ZX" = some (some (.str "IX" oczZX)))
    (cz_ZY : PySem.W.nsIn K za "ZY" = some (some (.str "IY" oczZY)))
    (cz_ZZ : PySem.W.nsIn K za "ZZ" = some (some (.str "ZZ" oczZZ)))
    (cx_II : PySem.W.nsIn K xa "II" = some (some (.str "II" ocxII)))
    (cx_IX : PySem.W.nsIn K xa "IX" = some (some (.str "IX" ocxIX)))
    (cx_IY : PySem.W.nsIn K xa "IY" = some (some (.str "ZY" ocxIY)))
    (cx_IZ : PySem.W.nsIn K xa "IZ" = some (some (.str "ZZ" ocxIZ)))
    (cx_XI : PySem.W.nsIn K xa "XI" = some (some (.str "XX" ocxXI)))
    (cx_XX : PySem.W.nsIn K xa "XX" = some (some (.str "XI" ocxXX)))
    (cx_XY : PySem.W.nsIn K xa "XY" = some (some (.str "YZ" ocxXY)))
    (cx_XZ : PySem.W.nsIn K xa "XZ" = some (some (.str "-YY" ocxXZ)))
    (cx_YI : PySem.W.nsIn K xa "YI" = some (some (.str "YX" ocxYI)))
    (cx_YX : PySem.W.nsIn K xa "YX" = some (some (.str "YI" ocxYX)))
    (cx_YY : PySem.W.nsIn K xa "YY" = some (some (.str "-XZ" ocxYY)))
    (cx_YZ : PySem.W.nsIn K xa "YZ" = some (some (.str "XY" ocxYZ)))
    (cx_ZI : PySem.W.nsIn K xa "ZI" = some (some (.str "ZI" ocxZI)))
    (cx_ZX : PySem.W.nsIn K xa "ZX" = some (some (.str "ZX" ocxZX)))
    (cx_ZY : PySem.W.nsIn K xa "ZY" = some (some (.str "IY" ocxZY)))
    (cx_ZZ : PySem.W.nsIn K xa "ZZ" = some (some (.str "IZ" ocxZZ)))
    (gB : PySem.W.nsIn K mainGlobals "LETTER_BESIDE" = some (some (.ref la)))
    (lB : K.lookup la = some ⟨.type "dict", none, .dict #[⟨h1, .ref k1, .str "I" tb1⟩, ⟨h2, .ref k2, .str "Z" tb2⟩, ⟨h3, .ref k3, .str "X" tb3⟩, ⟨h4, .ref k4, .str "Y" tb4⟩] nB, #[]⟩)
    (lk1 : K.lookup k1 = some ⟨.type "tuple", none, .seq #[.bool true, .bool true] nk1, #[]⟩)
    (hh1 : h1 = PySem.reduceHash (Builtin.Tuple.tupleHashOf [1, 1]))
    (lk2 : K.lookup k2 = some ⟨.type "tuple", none, .seq #[.bool false, .bool true] nk2, #[]⟩)
    (hh2 : h2 = PySem.reduceHash (Builtin.Tuple.tupleHashOf [0, 1]))
    (lk3 : K.lookup k3 = some ⟨.type "tuple", none, .seq #[.bool true, .bool false] nk3, #[]⟩)
    (hh3 : h3 = PySem.reduceHash (Builtin.Tuple.tupleHashOf [1, 0]))
    (lk4 : K.lookup k4 = some ⟨.type "tuple", none, .seq #[.bool false, .bool false] nk4, #[]⟩)
    (hh4 : h4 = PySem.reduceHash (Builtin.Tuple.tupleHashOf [0, 0]))
    (gCB : PySem.W.nsIn K mainGlobals "BadImages" = some (some (.ref CB)))
    (LCB : K.lookup CB = some (excClassObj nmCB qCB CB NCB bsCB [.ref CK, .type "ValueError", .type "Exception", .type "BaseException", .type "object"] true snCB subCB abCB colCB ddCB x0CB x1CB x2CB x3CB x5CB "ValueError.__new__"))
    (saCB : PySem.W.findIn K (.ref CB) "__setattr__" = some (some (.builtin "object.__setattr__")))
    (sub_CB : PySem.W.subIn K (.ref CB) (.type "BaseException") = some true)
    (tyCB : PySem.W.typeIn K (.ref CB) = some (.type "type"))
    (kpCB : PySem.W.keepIn K (.ref CB) = true)
    (nvCB : PySem.W.findIn K (.ref CB) "value" = some none)
    (inCB : PySem.W.findIn K (.ref CB) "__init__" = some (some (.ref fI)))
    (gCL : PySem.W.nsIn K mainGlobals "Long" = some (some (.ref CL)))
    (LCL : K.lookup CL = some (excClassObj nmCL qCL CL NCL bsCL [.ref CK, .type "ValueError", .type "Exception", .type "BaseException", .type "object"] true snCL subCL abCL colCL ddCL x0CL x1CL x2CL x3CL x5CL "ValueError.__new__"))
    (saCL : PySem.W.findIn K (.ref CL) "__setattr__" = some (some (.builtin "object.__setattr__")))
    (sub_CL : PySem.W.subIn K (.ref CL) (.type "BaseException") = some true)
    (tyCL : PySem.W.typeIn K (.ref CL) = some (.type "type"))
    (kpCL : PySem.W.keepIn K (.ref CL) = true)
    (nvCL : PySem.W.findIn K (.ref CL) "value" = some none)
    (inCL : PySem.W.findIn K (.ref CL) "__init__" = some (some (.ref fI)))
    (gCM : PySem.W.nsIn K mainGlobals "Many" = some (some (.ref CM)))
    (LCM : K.lookup CM = some (excClassObj nmCM qCM CM NCM bsCM [.ref CK, .type "ValueError", .type "Exception", .type "BaseException", .type "object"] true snCM subCM abCM colCM ddCM x0CM x1CM x2CM x3CM x5CM "ValueError.__new__"))
    (saCM : PySem.W.findIn K (.ref CM) "__setattr__" = some (some (.builtin "object.__setattr__")))
    (sub_CM : PySem.W.subIn K (.ref CM) (.type "BaseException") = some true)
    (tyCM : PySem.W.typeIn K (.ref CM) = some (.type "type"))
    (kpCM : PySem.W.keepIn K (.ref CM) = true)
    (nvCM : PySem.W.findIn K (.ref CM) "value" = some none)
    (inCM : PySem.W.findIn K (.ref CM) "__init__" = some (some (.ref fI)))
    (tI : PySem.W.typeIn K (.ref fI) = some (.type "function"))
    (lI : K.lookup fI = some ⟨ocI, odI, .func (PySem.W.fnOf "__init__" "KnobError.__init__" (defArgs sErr) (defBody sErr) (defScope sErr) .none kVI dcI pmI anI cdI ctI), slI⟩)
    (cI : PySem.W.codeIn K cdI "KnobError.__init__" = true)
    (kI : PySem.W.keepIn K (.ref fI) = true) :
    Nonempty (EndG l w K 15 "script" mg fa h 63) := by
  have e := hfa.symm.trans (PySem.W.mg_of X G ad46)
  cases e
  have T : TM mg := ⟨PySem.W.mg_none_of X G z_len, PySem.W.mg_none_of X G z_int, PySem.W.mg_none_of X G z_abs, PySem.W.mg_none_of X G z_max, PySem.W.mg_none_of X G z_min, PySem.W.mg_none_of X G z_range, PySem.W.mg_none_of X G z_list, PySem.W.mg_none_of X G z_all, PySem.W.mg_none_of X G z_any, PySem.W.mg_none_of X G z_isinstance, PySem.W.mg_none_of X G z_str, PySem.W.mg_none_of X G z_tuple, PySem.W.mg_none_of X G z_enumerate, PySem.W.mg_none_of X G z_zip, PySem.W.mg_none_of X G z_set, PySem.W.mg_none_of X G z_repr, PySem.W.mg_none_of X G z_sum, PySem.W.mg_none_of X G z_bool⟩
  have TF : K79F.TM mg := ⟨PySem.W.mg_none_of X G z_len, PySem.W.mg_none_of X G z_int, PySem.W.mg_none_of X G z_abs, PySem.W.mg_none_of X G z_max, PySem.W.mg_none_of X G z_min, PySem.W.mg_none_of X G z_range, PySem.W.mg_none_of X G z_list, PySem.W.mg_none_of X G z_all, PySem.W.mg_none_of X G z_isinstance, PySem.W.mg_none_of X G z_str, PySem.W.mg_none_of X G z_tuple, PySem.W.mg_none_of X G z_enumerate, PySem.W.mg_none_of X G z_zip, PySem.W.mg_none_of X G z_set, PySem.W.mg_none_of X G z_repr⟩
  have B : K79F.TB K mg := ⟨PySem.W.mg_none_of X G z_bool, PySem.W.mg_none_of X G z_sorted, k_ib⟩
  have T2 : TC K mg C := ⟨⟨⟨pgC, hdC, poC, saC⟩, haC, hn, ht, hmC⟩, nC0, nC1, PySem.W.mg_of X G aC, sfC, nfC, ⟨neC, hmC⟩⟩
  have T2F : K79F.TC K mg C := ⟨⟨⟨pgC, hdC, poC, saC⟩, haC, hn, ht, hmC⟩, nC0, nC1, PySem.W.mg_of X G aC⟩
  have Tt : TKt K mg CT := ⟨⟨⟨pgCT, hdCT, poCT, saCT⟩, haCT, hn, ht, hmCT⟩, nCT0, nCT1, PySem.W.mg_of X G aCT⟩
  have TK : K79F.TKc K mg CC := ⟨⟨⟨pgCC, hdCC, poCC, saCC⟩, haCC, hn, ht, hmCC⟩, nCC0, nCC1, nCC2, nCC3, nCC4, nCC5, PySem.W.mg_of X G aCC⟩
  have ktp : ∀ t, t = Value.type "tuple" → PySem.W.kitOne K t (.type "tuple") = some true := fun t e => by
    subst e
    exact kit_same
  have Z : TW w K mg qa ta := {
    len := PySem.W.mg_none_of X G z_len
    all := PySem.W.mg_none_of X G z_all
    sum := PySem.W.mg_none_of X G z_sum
    zip := PySem.W.mg_none_of X G z_zip
    isi := PySem.W.mg_none_of X G z_isinstance
    str := PySem.W.mg_none_of X G z_str
    lets := ⟨_, PySem.W.mg_of X G g_lets, _, rfl⟩
    most := ⟨_, PySem.W.mg_of X G g_most, _, rfl⟩
    mq := PySem.W.mg_of X G gqa
    mt := PySem.W.mg_of X G gta
    kq := ⟨_, _, lqa, yqa, wqa⟩
    kt := ⟨_, _, lta, yta, wta⟩
    dq := fun a b ha hb => by
      simp only [IXYZ, List.mem_cons, List.not_mem_nil, or_false] at ha hb
      rcases ha with rfl | rfl | rfl | rfl <;> rcases hb with rfl | rfl | rfl | rfl
      · exact ⟨_, q_II, rfl⟩
      · exact ⟨_, q_IX, rfl⟩
      · exact ⟨_, q_IY, rfl⟩
      · exact ⟨_, q_IZ, rfl⟩
      · exact ⟨_, q_XI, rfl⟩
      · exact ⟨_, q_XX, rfl⟩
      · exact ⟨_, q_XY, .int (1), ⟨_, rfl⟩, fun _ _ => .int (1)⟩
      · exact ⟨_, q_XZ, .int (-1), ⟨_, rfl⟩, fun _ _ => .int (-1)⟩
      · exact ⟨_, q_YI, rfl⟩
      · exact ⟨_, q_YX, .int (-1), ⟨_, rfl⟩, fun _ _ => .int (-1)⟩
      · exact ⟨_, q_YY, rfl⟩
      · exact ⟨_, q_YZ, .int (1), ⟨_, rfl⟩, fun _ _ => .int (1)⟩
      · exact ⟨_, q_ZI, rfl⟩
      · exact ⟨_, q_ZX, .int (1), ⟨_, rfl⟩, fun _ _ => .int (1)⟩
      · exact ⟨_, q_ZY, .int (-1), ⟨_, rfl⟩, fun _ _ => .int (-1)⟩
      · exact ⟨_, q_ZZ, rfl⟩
    dt := fun a b ha hb h1 h2 h3 => by
      simp only [IXYZ, List.mem_cons, List.not_mem_nil, or_false] at ha hb
      rcases ha with rfl | rfl | rfl | rfl <;> rcases hb with rfl | rfl | rfl | rfl
      · first | exact absurd rfl h1 | exact absurd rfl h2 | exact absurd rfl h3
      · first | exact absurd rfl h1 | exact absurd rfl h2 | exact absurd rfl h3
      · first | exact absurd rfl h1 | exact absurd rfl h2 | exact absurd rfl h3
      · first | exact absurd rfl h1 | exact absurd rfl h2 | exact absurd rfl h3
      · first | exact absurd rfl h1 | exact absurd rfl h2 | exact absurd rfl h3
      · first | exact absurd rfl h1 | exact absurd rfl h2 | exact absurd rfl h3
      · exact ⟨_, tt_XY, _, rfl⟩
      · exact ⟨_, tt_XZ, _, rfl⟩
      · first | exact absurd rfl h1 | exact absurd rfl h2 | exact absurd rfl h3
      · exact ⟨_, tt_YX, _, rfl⟩
      · first | exact absurd rfl h1 | exact absurd rfl h2 | exact absurd rfl h3
      · exact ⟨_, tt_YZ, _, rfl⟩
      · first | exact absurd rfl h1 | exact absurd rfl h2 | exact absurd rfl h3
      · exact ⟨_, tt_ZX, _, rfl⟩
      · exact ⟨_, tt_ZY, _, rfl⟩
      · first | exact absurd rfl h1 | exact absurd rfl h2 | exact absurd rfl h3 }
  have ZD : TD w K mg ha za xa := {
    mh := PySem.W.mg_of X G gha
    mz := PySem.W.mg_of X G gza
    mx := PySem.W.mg_of X G gxa
    kh := ⟨_, _, lha, yha, wha⟩
    kz := ⟨_, _, lza, yza, wza⟩
    kx := ⟨_, _, lxa, yxa, wxa⟩
    dh := fun a h => by
      simp only [IXYZ, List.mem_cons, List.not_mem_nil, or_false] at h
      rcases h with rfl | rfl | rfl | rfl
      · exact ⟨_, h_I, _, rfl⟩
      · exact ⟨_, h_X, _, rfl⟩
      · exact ⟨_, h_Y, _, rfl⟩
      · exact ⟨_, h_Z, _, rfl⟩
    dz := fun a h b h' => by
      simp only [IXYZ, List.mem_cons, List.not_mem_nil, or_false] at h h'
      rcases h with rfl | rfl | rfl | rfl <;> rcases h' with rfl | rfl | rfl | rfl
      · exact ⟨_, cz_II, _, rfl⟩
      · exact ⟨_, cz_IX, _, rfl⟩
      · exact ⟨_, cz_IY, _, rfl⟩
      · exact ⟨_, cz_IZ, _, rfl⟩
      · exact ⟨_, cz_XI, _, rfl⟩
      · exact ⟨_, cz_XX, _, rfl⟩
      · exact ⟨_, cz_XY, _, rfl⟩
      · exact ⟨_, cz_XZ, _, rfl⟩
      · exact ⟨_, cz_YI, _, rfl⟩
      · exact ⟨_, cz_YX, _, rfl⟩
      · exact ⟨_, cz_YY, _, rfl⟩
      · exact ⟨_, cz_YZ, _, rfl⟩
      · exact ⟨_, cz_ZI, _, rfl⟩
      · exact ⟨_, cz_ZX, _, rfl⟩
      · exact ⟨_, cz_ZY, _, rfl⟩
      · exact ⟨_, cz_ZZ, _, rfl⟩
    dx := fun a h b h' => by
      simp only [IXYZ, List.mem_cons, List.not_mem_nil, or_false] at h h'
      rcases h with rfl | rfl | rfl | rfl <;> rcases h' with rfl | rfl | rfl | rfl
      · exact ⟨_, cx_II, _, rfl⟩
      · exact ⟨_, cx_IX, _, rfl⟩
      · exact ⟨_, cx_IY, _, rfl⟩
      · exact ⟨_, cx_IZ, _, rfl⟩
      · exact ⟨_, cx_XI, _, rfl⟩
      · exact ⟨_, cx_XX, _, rfl⟩
      · exact ⟨_, cx_XY, _, rfl⟩
      · exact ⟨_, cx_XZ, _, rfl⟩
      · exact ⟨_, cx_YI, _, rfl⟩
      · exact ⟨_, cx_YX, _, rfl⟩
      · exact ⟨_, cx_YY, _, rfl⟩
      · exact ⟨_, cx_YZ, _, rfl⟩
      · exact ⟨_, cx_ZI, _, rfl⟩
      · exact ⟨_, cx_ZX, _, rfl⟩
      · exact ⟨_, cx_ZY, _, rfl⟩
      · exact ⟨_, cx_ZZ, _, rfl⟩ }
  have ZB : TBk w K mg la := tbk_mk (PySem.W.mg_of X G gB) lB lk1 hh1 lk2 hh2 lk3 hh3 lk4 hh4
  have ZG : K79F.TG w K mg aS aT aW aA aP := {
    lets := ⟨_, PySem.W.mg_of X G g_lets, _, rfl⟩
    most := ⟨_, PySem.W.mg_of X G g_most, _, rfl⟩
    nml := ⟨_, PySem.W.mg_of X G g_nml, _, rfl⟩
    lnm := ⟨_, PySem.W.mg_of X G g_lnm, _, rfl⟩
    mln := ⟨_, PySem.W.mg_of X G g_mln, _, rfl⟩
    mtn := ⟨_, PySem.W.mg_of X G g_mtn, _, rfl⟩
    mkn := ⟨_, PySem.W.mg_of X G g_mkn, _, rfl⟩
    gS := PySem.W.mg_of X G gaS
    gT := PySem.W.mg_of X G gaT
    gW := PySem.W.mg_of X G gaW
    gA := PySem.W.mg_of X G gaA
    gP := PySem.W.mg_of X G gaP
    kS := ⟨_, _, laS, yaS, waS⟩
    kT := ⟨_, _, laT, yaT, waT⟩
    nS := fun n h1 h4 => by
      have h : n = 1 ∨ n = 2 ∨ n = 3 ∨ n = 4 := by omega
      rcases h with rfl | rfl | rfl | rfl
      · exact ⟨_, s_1, _, rfl⟩
      · exact ⟨_, s_2, _, rfl⟩
      · exact ⟨_, s_3, _, rfl⟩
      · exact ⟨_, s_4, _, rfl⟩
    nT := fun i hi => by
      simp only [manys, List.mem_cons, List.not_mem_nil, or_false] at hi
      rcases hi with rfl | rfl | rfl | rfl | rfl | rfl | rfl | rfl
      · exact ⟨_, t_1, _, rfl⟩
      · exact ⟨_, t_2, _, rfl⟩
      · exact ⟨_, t_3, _, rfl⟩
      · exact ⟨_, t_4, _, rfl⟩
      · exact ⟨_, t_m1, _, rfl⟩
      · exact ⟨_, t_m2, _, rfl⟩
      · exact ⟨_, t_m3, _, rfl⟩
      · exact ⟨_, t_m4, _, rfl⟩
    tW := ⟨_, _, _, laW, rfl, rfl, sz (by show 4 ≤ 100000; decide), (.cons ⟨_, rfl⟩ (.cons ⟨_, rfl⟩ (.cons ⟨_, rfl⟩ (.cons ⟨_, rfl⟩ .nil))))⟩
    tA := ⟨_, _, _, laA, rfl, rfl, sz (by show 2 ≤ 100000; decide), (.cons ⟨_, rfl⟩ (.cons ⟨_, rfl⟩ .nil))⟩
    tP := ⟨_, _, _, laP, rfl, rfl, sz (by show 3 ≤ 100000; decide), (.cons ⟨_, rfl⟩ (.cons ⟨_, rfl⟩ (.cons ⟨_, rfl⟩ .nil)))⟩ }
  have Fd0 := fun_mk (st := sNeed) ld0 cd0 kd0
  have bd0 := Fd0.binds (ps := ["value", "wires"]) fun _ _ _ _ _ _ us hl => match us, hl with | [_, _], _ => rfl
  have Fd1 := fun_mk (st := sIsWordOf) ld1 cd1 kd1
  have bd1 := Fd1.binds (ps := ["value", "wires"]) fun _ _ _ _ _ _ us hl => match us, hl with | [_, _], _ => rfl
  have Fd2 := fun_mk (st := sAre) ld2 cd2 kd2
  have bd2 := Fd2.binds (ps := ["text"]) fun _ _ _ _ _ _ us hl => match us, hl with | [_], _ => rfl
  have Fd3 := fun_mk (st := sSigned) ld3 cd3 kd3
  have bd3 := Fd3.binds (ps := ["letters", "sign"]) fun _ _ _ _ _ _ us hl => match us, hl with | [_, _], _ => rfl
  have Fd4 := fun_mk (st := sQuarters) ld4 cd4 kd4
  have bd4 := Fd4.binds (ps := ["one", "other"]) fun _ _ _ _ _ _ us hl => match us, hl with | [_, _], _ => rfl
  have Fd5 := fun_mk (st := sMade) ld5 cd5 kd5
  have bd5 := Fd5.binds (ps := ["one", "other"]) fun _ _ _ _ _ _ us hl => match us, hl with | [_, _], _ => rfl
  have Fd6 := fun_mk (st := sLetter) ld6 cd6 kd6
  have bd6 := Fd6.binds (ps := ["one", "other"]) fun _ _ _ _ _ _ us hl => match us, hl with | [_, _], _ => rfl
  have Fd7 := fun_mk (st := sPassBy) ld7 cd7 kd7
  have bd7 := Fd7.binds (ps := ["one", "other"]) fun _ _ _ _ _ _ us hl => match us, hl with | [_, _], _ => rfl
  have Fd8 := fun_mk (st := sBentF) ld8 cd8 kd8
  have bd8 := Fd8.binds (ps := ["one", "other"]) fun _ _ _ _ _ _ us hl => match us, hl with | [_, _], _ => rfl
  have Fd9 := fun_mk (st := sLedThr) ld9 cd9 kd9
  have bd9 := Fd9.binds (ps := ["steps", "letters", "sign"]) fun _ _ _ _ _ _ us hl => match us, hl with | [_, _, _], _ => rfl
  have Fd10 := fun_mk (st := sFirstWords) ld10 cd10 kd10
  have bd10 := Fd10.binds (ps := ["wires"]) fun _ _ _ _ _ _ us hl => match us, hl with | [_], _ => rfl
  have Fd11 := fun_mk (st := sLone) ld11 cd11 kd11
  have bd11 := Fd11.binds (ps := ["letter", "at", "wires"]) fun _ _ _ _ _ _ us hl => match us, hl with | [_, _, _], _ => rfl
  have Fd12 := fun_mk (st := sThrOne) ld12 cd12 kd12
  have bd12 := Fd12.binds (ps := ["step", "letters"]) fun _ _ _ _ _ _ us hl => match us, hl with | [_, _], _ => rfl
  have Fd13 := fun_mk (st := sThrAbout) ld13 cd13 kd13
  have bd13 := Fd13.binds (ps := ["step", "letters"]) fun _ _ _ _ _ _ us hl => match us, hl with | [_, _], _ => rfl
  have Fd14 := fun_mk (st := sExch) ld14 cd14 kd14
  have bd14 := Fd14.binds (ps := ["letters", "places", "text"]) fun _ _ _ _ _ _ us hl => match us, hl with | [_, _, _], _ => rfl
  have Fd15 := fun_mk (st := sFixSteps) ld15 cd15 kd15
  have bd15 := Fd15.binds (ps := ["circuit"]) fun _ _ _ _ _ _ us hl => match us, hl with | [_], _ => rfl
  have Fd16 := fun_mk (st := sFixImages) ld16 cd16 kd16
  have bd16 := Fd16.binds (ps := ["circuit"]) fun _ _ _ _ _ _ us hl => match us, hl with | [_], _ => rfl
  have Fd17 := fun_mk (st := sTableOf) ld17 cd17 kd17
  have bd17 := Fd17.binds (ps := ["circuit"]) fun _ _ _ _ _ _ us hl => match us, hl with | [_], _ => rfl
  have Fd18 := fun_mk (st := sGates) ld18 cd18 kd18
  have bd18 := Fd18.binds (ps := ["table"]) fun _ _ _ _ _ _ us hl => match us, hl with | [_], _ => rfl
  have Fd19 := fun_mk (st := sAreImages) ld19 cd19 kd19
  have bd19 := Fd19.binds (ps := ["value"]) fun _ _ _ _ _ _ us hl => match us, hl with | [_], _ => rfl
  have Fd20 := fun_mk (st := sLBeside) ld20 cd20 kd20
  have bd20 := Fd20.binds (ps := ["passing"]) fun _ _ _ _ _ _ us hl => match us, hl with | [_], _ => rfl
  have Fd21 := fun_mk (st := sQuartersTo) ld21 cd21 kd21
  have bd21 := Fd21.binds (ps := ["table"]) fun _ _ _ _ _ _ us hl => match us, hl with | [_], _ => rfl
  have Fd22 := fun_mk (st := sWays) ld22 cd22 kd22
  have bd22 := Fd22.binds (ps := ["now", "goal", "done"]) fun _ _ _ _ _ _ us hl => match us, hl with | [_, _, _], _ => rfl
  have Fd23 := fun_mk (st := sMoved) ld23 cd23 kd23
  have bd23 := Fd23.binds (ps := ["letters", "about"]) fun _ _ _ _ _ _ us hl => match us, hl with | [_, _], _ => rfl
  have Fd24 := fun_mk (st := K79F.sIsWhole) ld24 cd24 kd24
  have bd24 := Fd24.binds (ps := ["value"]) fun _ _ _ _ _ _ us hl => match us, hl with | [_], _ => rfl
  have Fd25 := fun_mk (st := K79F.sName) ld25 cd25 kd25
  have bd25 := Fd25.binds (ps := ["value"]) fun _ _ _ _ _ _ us hl => match us, hl with | [_], _ => rfl
  have Fd26 := fun_mk (st := K79F.sAsc) ld26 cd26 kd26
  have bd26 := Fd26.binds (ps := ["rows"]) fun _ _ _ _ _ _ us hl => match us, hl with | [_], _ => rfl
  have Fd27 := fun_mk (st := K79F.sMerged) ld27 cd27 kd27
  have bd27 := Fd27.binds (ps := ["runs"]) fun _ _ _ _ _ _ us hl => match us, hl with | [_], _ => rfl
  have Fd28 := fun_mk (st := K79F.sReadC) ld28 cd28 kd28
  have bd28 := Fd28.binds (ps := ["text"]) fun _ _ _ _ _ _ us hl => match us, hl with | [_], _ => rfl
  have Fd29 := fun_mk (st := K79F.sReadL) ld29 cd29 kd29
  have bd29 := Fd29.binds (ps := ["line", "wires"]) fun _ _ _ _ _ _ us hl => match us, hl with | [_, _], _ => rfl
  have Fd30 := fun_mk (st := K79F.sIsTurn) ld30 cd30 kd30
  have bd30 := Fd30.binds (ps := ["step"]) fun _ _ _ _ _ _ us hl => match us, hl with | [_], _ => rfl
  have Fd31 := fun_mk (st := K79F.sAbout) ld31 cd31 kd31
  have bd31 := Fd31.binds (ps := ["name", "rest", "wires"]) fun _ _ _ _ _ _ us hl => match us, hl with | [_, _, _], _ => rfl
  have Fd32 := fun_mk (st := K79F.sTurn) ld32 cd32 kd32
  have bd32 := Fd32.binds (ps := ["rest", "wires"]) fun _ _ _ _ _ _ us hl => match us, hl with | [_, _], _ => rfl
  have Fd33 := fun_mk (st := K79F.sIsAbout) ld33 cd33 kd33
  have bd33 := Fd33.binds (ps := ["text", "wires"]) fun _ _ _ _ _ _ us hl => match us, hl with | [_, _], _ => rfl
  have Fd34 := fun_mk (st := K79F.sWires) ld34 cd34 kd34
  have bd34 := Fd34.binds (ps := ["texts", "wires"]) fun _ _ _ _ _ _ us hl => match us, hl with | [_, _], _ => rfl
  have Fd35 := fun_mk (st := K79F.sJoined) ld35 cd35 kd35
  have bd35 := Fd35.binds (ps := ["wires", "lines"]) fun _ _ _ _ _ _ us hl => match us, hl with | [_, _], _ => rfl
  have Fd36 := fun_mk (st := K79F.sFitting) ld36 cd36 kd36
  have bd36 := Fd36.binds (ps := ["wires", "lines"]) fun _ _ _ _ _ _ us hl => match us, hl with | [_, _], _ => rfl
  have Fd37 := fun_mk (st := K79F.sTurns) ld37 cd37 kd37
  have bd37 := Fd37.binds (ps := ["line"]) fun _ _ _ _ _ _ us hl => match us, hl with | [_], _ => rfl
  have Fd38 := fun_mk (st := sPot) ld38 cd38 kd38
  have bd38 := Fd38.binds (ps := ["script", "place"]) fun _ _ _ _ _ _ us hl => match us, hl with | [_, _], _ => rfl
  have Fd39 := fun_mk (st := sTake) ld39 cd39 kd39
  have bd39 := Fd39.binds (ps := ["pot", "upto"]) fun _ _ _ _ _ _ us hl => match us, hl with | [_, _], _ => rfl
  have Fd40 := fun_mk (st := sOf) ld40 cd40 kd40
  have bd40 := Fd40.binds (ps := ["pot", "some"]) fun _ _ _ _ _ _ us hl => match us, hl with | [_, _], _ => rfl
  have Fd41 := fun_mk (st := sCells) ld41 cd41 kd41
  have bd41 := Fd41.binds (ps := ["script", "most"]) fun _ _ _ _ _ _ us hl => match us, hl with | [_, _], _ => rfl
  have Fd42 := fun_mk (st := sLTexts) ld42 cd42 kd42
  have bd42 := Fd42.binds (ps := ["text"]) fun _ _ _ _ _ _ us hl => match us, hl with | [_], _ => rfl
  have Fd43 := fun_mk (st := sLinesRight) ld43 cd43 kd43
  have bd43 := Fd43.binds (ps := []) fun _ _ _ _ _ _ us hl => match us, hl with | [], _ => rfl
  have Fd44 := fun_mk (st := sAllRight) ld44 cd44 kd44
  have bd44 := Fd44.binds (ps := []) fun _ _ _ _ _ _ us hl => match us, hl with | [], _ => rfl
  have Fd45 := fun_mk (st := sRight) ld45 cd45 kd45
  have bd45 := Fd45.binds (ps := ["pot"]) fun _ _ _ _ _ _ us hl => match us, hl with | [_], _ => rfl
  have Fd46 := fun_mk (st := sLaw) ld46 cd46 kd46
  have Fm0 := fun_mk (st := sInit) lm0 cm0 km0
  have bm0 := Fm0.binds (ps := ["self", "text"]) fun _ _ _ _ _ _ us hl => match us, hl with | [_, _], _ => rfl
  have Fm1 := fun_mk (st := sLen) lm1 cm1 km1
  have bm1 := Fm1.binds (ps := ["self"]) fun _ _ _ _ _ _ us hl => match us, hl with | [_], _ => rfl
  have Fm2 := fun_mk (st := sEq) lm2 cm2 km2
  have bm2 := Fm2.binds (ps := ["self", "other"]) fun _ _ _ _ _ _ us hl => match us, hl with | [_, _], _ => rfl
  have Fm3 := fun_mk (st := sNeg) lm3 cm3 km3
  have bm3 := Fm3.binds (ps := ["self"]) fun _ _ _ _ _ _ us hl => match us, hl with | [_], _ => rfl
  have Fm4 := fun_mk (st := sMul) lm4 cm4 km4
  have bm4 := Fm4.binds (ps := ["self", "other"]) fun _ _ _ _ _ _ us hl => match us, hl with | [_, _], _ => rfl
  have Fm5 := fun_mk (st := sBent) lm5 cm5 km5
  have bm5 := Fm5.binds (ps := ["self", "other"]) fun _ _ _ _ _ _ us hl => match us, hl with | [_, _], _ => rfl
  have Fm6 := fun_mk (st := sPasses) lm6 cm6 km6
  have bm6 := Fm6.binds (ps := ["self", "other"]) fun _ _ _ _ _ _ us hl => match us, hl with | [_, _], _ => rfl
  have Fm7 := fun_mk (st := sBeside) lm7 cm7 km7
  have bm7 := Fm7.binds (ps := ["self", "other", "turned"]) fun _ _ _ _ _ _ us hl => match us, hl with | [_, _, _], _ => rfl
  have Fm8 := fun_mk (st := sTInit) lm8 cm8 km8
  have bm8 := Fm8.binds (ps := ["self", "images"]) fun _ _ _ _ _ _ us hl => match us, hl with | [_, _], _ => rfl
  have Fm9 := fun_mk (st := sTEq) lm9 cm9 km9
  have bm9 := Fm9.binds (ps := ["self", "other"]) fun _ _ _ _ _ _ us hl => match us, hl with | [_, _], _ => rfl
  have Fm10 := fun_mk (st := sTMul) lm10 cm10 km10
  have bm10 := Fm10.binds (ps := ["self", "other"]) fun _ _ _ _ _ _ us hl => match us, hl with | [_, _], _ => rfl
  have Fm11 := fun_mk (st := sTInv) lm11 cm11 km11
  have bm11 := Fm11.binds (ps := ["self"]) fun _ _ _ _ _ _ us hl => match us, hl with | [_], _ => rfl
  have Fm12 := fun_mk (st := sTBack) lm12 cm12 km12
  have bm12 := Fm12.binds (ps := ["self", "word"]) fun _ _ _ _ _ _ us hl => match us, hl with | [_, _], _ => rfl
  have Fm13 := fun_mk (st := sTImage) lm13 cm13 km13
  have bm13 := Fm13.binds (ps := ["self", "letter", "wire"]) fun _ _ _ _ _ _ us hl => match us, hl with | [_, _, _], _ => rfl
  have Fm14 := fun_mk (st := sTLedTo) lm14 cm14 km14
  have bm14 := Fm14.binds (ps := ["self", "letters"]) fun _ _ _ _ _ _ us hl => match us, hl with | [_, _], _ => rfl
  have Fm15 := fun_mk (st := K79F.sCInit) lm15 cm15 km15
  have bm15 := Fm15.binds (ps := ["self", "text"]) fun _ _ _ _ _ _ us hl => match us, hl with | [_, _], _ => rfl
  have Fm16 := fun_mk (st := K79F.sCLen) lm16 cm16 km16
  have bm16 := Fm16.binds (ps := ["self"]) fun _ _ _ _ _ _ us hl => match us, hl with | [_], _ => rfl
  have Fm17 := fun_mk (st := K79F.sCPut) lm17 cm17 km17
  have bm17 := Fm17.binds (ps := ["self", "place", "line"]) fun _ _ _ _ _ _ us hl => match us, hl with | [_, _, _], _ => rfl
  have Fp0 := fun_mk (st := sWTextP) lp0 cp0 kp0
  have bp0 := Fp0.binds (ps := ["self"]) fun _ _ _ _ _ _ us hl => match us, hl with | [_], _ => rfl
  have Fp1 := fun_mk (st := K79F.sCText) lp1 cp1 kp1
  have bp1 := Fp1.binds (ps := ["self"]) fun _ _ _ _ _ _ us hl => match us, hl with | [_], _ => rfl
  have FdG := fun_mk (st := K79F.sAre) ld2 cd2 kd2
  have FmG := fun_mk (st := K79F.sInit) lm0 cm0 km0
  have FI := fun_mk (st := sErr) lI cI kI
  have bI := FI.binds (ps := ["self", "value"]) fun _ _ _ _ _ _ us hl => match us, hl with | [_, _], _ => rfl
  refine ⟨{ fd := PySem.W.fnOf "law" "law" (defArgs sLaw) (defBody sLaw) (defScope sLaw) .none kVd46 dcd46 pmd46 and46 cdd46 ctd46, cs := [], R := rLaw, tab := (fun p hp => nomatch hp), bind := fun s v => .of_eq rfl, holds := fun H a ns hl hb hH hS => spD_lawN hS ⟨ns, rfl, rfl, rfl⟩, ok := fun base _ _ hTB => ?_ }⟩
  have kErr := fn_err (P := l.prog) (w := w) (mg := mg) (base := base) FI scErr rfl rfl rfl
  have eCB : Ce l.prog w K mg base 1 CB "BadImages" := ⟨PySem.W.mg_of X G gCB, ⟨⟨_, _, _, _, _, _, _, _, _, _, _, _, _, _, _, LCB, by rfl⟩, saCB, sub_CB, tyCB, kpCB⟩, nvCB, ⟨fI, _, _, kErr, inCB, tI, bI⟩⟩
  have eCL : Ce l.prog w K mg base 1 CL "Long" := ⟨PySem.W.mg_of X G gCL, ⟨⟨_, _, _, _, _, _, _, _, _, _, _, _, _, _, _, LCL, by rfl⟩, saCL, sub_CL, tyCL, kpCL⟩, nvCL, ⟨fI, _, _, kErr, inCL, tI, bI⟩⟩
  have eCM : Ce l.prog w K mg base 1 CM "Many" := ⟨PySem.W.mg_of X G gCM, ⟨⟨_, _, _, _, _, _, _, _, _, _, _, _, _, _, _, LCM, by rfl⟩, saCM, sub_CM, tyCM, kpCM⟩, nvCM, ⟨fI, _, _, kErr, inCM, tI, bI⟩⟩
  have kAre : Cf l.prog w K mg base _ "are_letters" [] _ := ⟨⟨_, _, _, [], [], ok_are Fd2 Z, PySem.W.mg_of X G ad2, kd2, bd2, .nil, fun _ => .nil⟩⟩
  have kAreF : Cf l.prog w K mg base _ "are_letters" [] _ := ⟨⟨_, _, _, [], [], K79F.ok_are FdG TF ZG, PySem.W.mg_of X G ad2, kd2, bd2, .nil, fun _ => .nil⟩⟩
  have kSigned : Cf l.prog w K mg base _ "signed_text" [] _ := ⟨⟨_, _, _, [], [], ok_signed Fd3, PySem.W.mg_of X G ad3, kd3, bd3, .nil, fun _ => .nil⟩⟩
  have kQuart : Cf l.prog w K mg base _ "quarters" [] _ := ⟨⟨_, _, _, [], [], ok_quarters Fd4 Z, PySem.W.mg_of X G ad4, kd4, bd4, .nil, fun _ => .nil⟩⟩
  have kLetter : Cf l.prog w K mg base _ "_made_letter" [] _ := ⟨⟨_, _, _, [], [], ok_letter Fd6 Z, PySem.W.mg_of X G ad6, kd6, bd6, .nil, fun _ => .nil⟩⟩
  have kMade : Cf l.prog w K mg base _ "made_letters" [] _ := ⟨⟨_, _, _, [], [], ok_made Fd5 Z kLetter, PySem.W.mg_of X G ad5, kd5, bd5, .nil, fun _ => .nil⟩⟩
  have kW : Ci l.prog w K mg base 2 C "Word" [] (rInit C) := ⟨PySem.W.mg_of X G aC, ⟨_, _, _, [], [], ok_init Fm0 Z T2 kAre, ⟨mkC, am0, im0, kC⟩, bm0, .nil, fun _ => .nil⟩⟩
  have kWF : Ci l.prog w K mg base 2 C "Word" [] (K79F.rInit C) := ⟨PySem.W.mg_of X G aC, ⟨_, _, _, [], [], K79F.ok_init FmG TF T2F kAreF, ⟨mkC, am0, im0, kC⟩, bm0, .nil, fun _ => .nil⟩⟩
  have mLen : Cm l.prog w K mg base _ C "__len__" [] _ := ⟨T2.ci.cl, ⟨_, _, _, [], [], ok_len Fm1 Z T2, ⟨am1, im1, km1⟩, bm1, .nil, fun _ => .nil⟩⟩
  have mEq : Cm l.prog w K mg base _ C "__eq__" [] _ := ⟨T2.ci.cl, ⟨_, _, _, [], [], ok_eq Fm2 Z T2, ⟨am2, im2, km2⟩, bm2, .nil, fun _ => .nil⟩⟩
  have mNeg : Cm l.prog w K mg base _ C "__neg__" [] _ := ⟨T2.ci.cl, ⟨_, _, _, [], [], ok_neg Fm3 T2 kSigned kW, ⟨am3, im3, km3⟩, bm3, .nil, fun _ => .nil⟩⟩
  have kNeed : Cf l.prog w K mg base _ "need_word" [] _ := ⟨⟨_, _, _, [], [], ok_need Fd0 Z T2, PySem.W.mg_of X G ad0, kd0, bd0, .nil, fun _ => .nil⟩⟩
  have mPasses : Cm l.prog w K mg base _ C "passes" [] _ := ⟨T2.ci.cl, ⟨_, _, _, [], [], ok_passes Fm6 Z T2 kNeed kQuart, ⟨am6, im6, km6⟩, bm6, .nil, fun _ => .nil⟩⟩
  have mBes : Cm l.prog w K mg base _ C "_beside" [] _ := ⟨T2.ci.cl, ⟨_, _, _, [], [], ok_beside Fm7 T2 kSigned kMade kW, ⟨am7, im7, km7⟩, bm7, .nil, fun _ => .nil⟩⟩
  have mMul : Cm l.prog w K mg base _ C "__mul__" [] _ := ⟨T2.ci.cl, ⟨_, _, _, [], [], ok_mul Fm4 Z T2 kQuart mBes, ⟨am4, im4, km4⟩, bm4, .nil, fun _ => .nil⟩⟩
  have mBent : Cm l.prog w K mg base _ C "bent" [] _ := ⟨T2.ci.cl, ⟨_, _, _, [], [], ok_bent Fm5 T2 kQuart mPasses mBes, ⟨am5, im5, km5⟩, bm5, .nil, fun _ => .nil⟩⟩
  have pText : Cp l.prog w K mg base 2 C "text" (rTextP C) := ⟨T2.ci.cl, ⟨_, _, _, _, ok_textP Fp0 T2 kSigned, ⟨ap0, gp0, tp0, ⟨_, rp0⟩⟩, bp0⟩⟩
  have kName : Cf l.prog w K mg base _ "is_name" [] _ := ⟨⟨_, _, _, [], [], K79F.ok_name Fd25 TF ZG, PySem.W.mg_of X G ad25, kd25, bd25, .nil, fun _ => .nil⟩⟩
  have kMerged : Cf l.prog w K mg base _ "_merged" [] _ := ⟨⟨_, _, _, [], [], K79F.ok_merged Fd27 TF, PySem.W.mg_of X G ad27, kd27, bd27, .nil, fun _ => .nil⟩⟩
  have kAsc : Cf l.prog w K mg base _ "ascending" [] _ := ⟨⟨_, _, _, [], [], K79F.ok_asc Fd26 TF kMerged, PySem.W.mg_of X G ad26, kd26, bd26, .nil, fun _ => .nil⟩⟩
  have kIsAbout : Cf l.prog w K mg base _ "_is_about" [] _ := ⟨⟨_, _, _, [], [], K79F.ok_isabout Fd33 TF kAreF, PySem.W.mg_of X G ad33, kd33, bd33, .nil, fun _ => .nil⟩⟩
  have kWires : Cf l.prog w K mg base _ "_are_wires" [] _ := ⟨⟨_, _, _, [], [], K79F.ok_wires Fd34 TF ZG, PySem.W.mg_of X G ad34, kd34, bd34, .nil, fun _ => .nil⟩⟩
  have kIsTurn : Cf l.prog w K mg base _ "is_turn" [] _ := ⟨⟨_, _, _, [], [], K79F.ok_isturn Fd30, PySem.W.mg_of X G ad30, kd30, bd30, .nil, fun _ => .nil⟩⟩
  have kAbout : Cf l.prog w K mg base _ "_read_about" [] _ := ⟨⟨_, _, _, [], [], K79F.ok_rabout Fd31 TF T2F kIsAbout kWF, PySem.W.mg_of X G ad31, kd31, bd31, .nil, fun _ => .nil⟩⟩
  have kRTurn : Cf l.prog w K mg base _ "_read_turn" [] _ := ⟨⟨_, _, _, [], [], K79F.ok_rturn Fd32 TF ZG T2F kIsAbout kWF kName kAsc, PySem.W.mg_of X G ad32, kd32, bd32, .nil, fun _ => .nil⟩⟩
  have kReadL : Cf l.prog w K mg base _ "read_line" [] _ := ⟨⟨_, _, _, [], [], K79F.ok_readl Fd29 TF ZG kRTurn kAbout kWires, PySem.W.mg_of X G ad29, kd29, bd29, .nil, fun _ => .nil⟩⟩
  have kReadC : Cf l.prog w K mg base _ "read_circuit" [] _ := ⟨⟨_, _, _, [], [], K79F.ok_readc Fd28 TF ZG kReadL kIsTurn, PySem.W.mg_of X G ad28, kd28, bd28, .nil, fun _ => .nil⟩⟩
  have kCC : Ci l.prog w K mg base 7 CC "Circuit" [] (K79F.rCInit CC) := ⟨PySem.W.mg_of X G aCC, ⟨_, _, _, [], [], K79F.ok_cinit Fm15 TF TK kReadC kIsTurn kAsc, ⟨mkCC, am15, im15, kCC⟩, bm15, .nil, fun _ => .nil⟩⟩
  have pCText : Cp l.prog w K mg base 1 CC "text" (K79F.rCText CC) := ⟨TK.ci.cl, ⟨_, _, _, _, K79F.ok_ctext Fp1 TK, ⟨ap1, gp1, tp1, ⟨_, rp1⟩⟩, bp1⟩⟩
  have mCLen : Cm l.prog w K mg base _ CC "__len__" [] _ := ⟨TK.ci.cl, ⟨_, _, _, [], [], K79F.ok_clen Fm16 TF TK, ⟨am16, im16, km16⟩, bm16, .nil, fun _ => .nil⟩⟩
  have kJoined : Cf l.prog w K mg base _ "_joined" [] _ := ⟨⟨_, _, _, [], [], K79F.ok_joined Fd35 TK kCC, PySem.W.mg_of X G ad35, kd35, bd35, .nil, fun _ => .nil⟩⟩
  have kTurns : Cf l.prog w K mg base _ "_turns" [] _ := ⟨⟨_, _, _, [], [], K79F.ok_turns Fd37, PySem.W.mg_of X G ad37, kd37, bd37, .nil, fun _ => .nil⟩⟩
  have kFitting : Cf l.prog w K mg base _ "_fitting" [] _ := ⟨⟨_, _, _, [], [], K79F.ok_fitting Fd36 TF ZG kJoined kTurns eCL eCM, PySem.W.mg_of X G ad36, kd36, bd36, .nil, fun _ => .nil⟩⟩
  have kWhole : Cf l.prog w K mg base _ "is_whole" [] _ := ⟨⟨_, _, _, [], [], K79F.ok_whole Fd24 TF B, PySem.W.mg_of X G ad24, kd24, bd24, .nil, fun _ => .nil⟩⟩
  have mPut : Cm l.prog w K mg base _ CC "put" [] _ := ⟨TK.ci.cl, ⟨_, _, _, [], [], K79F.ok_cput Fm17 TF TK kWhole kReadL kFitting, ⟨am17, im17, km17⟩, bm17, .nil, fun _ => .nil⟩⟩
  have kPassBy : Cf l.prog w K mg base _ "pass_by" [] _ := ⟨⟨_, _, _, [], [], ok_passby Fd7 kQuart, PySem.W.mg_of X G ad7, kd7, bd7, .nil, fun _ => .nil⟩⟩
  have kBentF : Cf l.prog w K mg base _ "bent" [] _ := ⟨⟨_, _, _, [], [], ok_bentf Fd8 kQuart kMade, PySem.W.mg_of X G ad8, kd8, bd8, .nil, fun _ => .nil⟩⟩
  have kExch : Cf l.prog w K mg base _ "_exchanged" [] _ := ⟨⟨_, _, _, [], [], ok_exch Fd14 T, PySem.W.mg_of X G ad14, kd14, bd14, .nil, fun _ => .nil⟩⟩
  have kThrAbout : Cf l.prog w K mg base _ "_through_about" [] _ := ⟨⟨_, _, _, [], [], ok_thrabout Fd13 kPassBy kBentF, PySem.W.mg_of X G ad13, kd13, bd13, .nil, fun _ => .nil⟩⟩
  have kThrOne : Cf l.prog w K mg base _ "_through_one" [] _ := ⟨⟨_, _, _, [], [], ok_throne Fd12 ZD kExch kThrAbout, PySem.W.mg_of X G ad12, kd12, bd12, .nil, fun _ => .nil⟩⟩
  have kLed : Cf l.prog w K mg base _ "led_through" [] _ := ⟨⟨_, _, _, [], [], ok_ledthr Fd9 kThrOne, PySem.W.mg_of X G ad9, kd9, bd9, .nil, fun _ => .nil⟩⟩
  have kLone : Cf l.prog w K mg base _ "lone_letter" [] _ := ⟨⟨_, _, _, [], [], ok_lone Fd11, PySem.W.mg_of X G ad11, kd11, bd11, .nil, fun _ => .nil⟩⟩
  have kFirst : Cf l.prog w K mg base _ "first_words" [] _ := ⟨⟨_, _, _, [], [], ok_first Fd10 T kLone, PySem.W.mg_of X G ad10, kd10, bd10, .nil, fun _ => .nil⟩⟩
  have kFixS : Cf l.prog w K mg base _ "fixed_steps" [] _ := ⟨⟨_, _, _, [], [], ok_fixsteps Fd15 TK kIsTurn, PySem.W.mg_of X G ad15, kd15, bd15, .nil, fun _ => .nil⟩⟩
  have kFixI : Cf l.prog w K mg base _ "fixed_images" [] _ := ⟨⟨_, _, _, [], [], ok_fiximages Fd16 T TK kFixS kLed kFirst kSigned kW, PySem.W.mg_of X G ad16, kd16, bd16, .nil, fun _ => .nil⟩⟩
  have kIsWordOf : Cf l.prog w K mg base _ "is_word_of" [] _ := ⟨⟨_, _, _, [], [], ok_iswordof Fd1 T T2 mLen, PySem.W.mg_of X G ad1, kd1, bd1, .nil, fun _ => .nil⟩⟩
  have kAreIm : Cf l.prog w K mg base _ "_are_images" [] _ := ⟨⟨_, _, _, [], [], ok_areimages Fd19 T Z kIsWordOf mPasses ktp T.tuple, PySem.W.mg_of X G ad19, kd19, bd19, .nil, fun _ => .nil⟩⟩
  have kT : Ci l.prog w K mg base 6 CT "Table" [] (rTInit K C CT CB) := ⟨PySem.W.mg_of X G aCT, ⟨_, _, _, [], [], ok_tinit Fm8 T Tt kAreIm eCB, ⟨mkCT, am8, im8, kCT⟩, bm8, .nil, fun _ => .nil⟩⟩
  have kTof : Cf l.prog w K mg base _ "table_of" [] _ := ⟨⟨_, _, _, [], [], ok_tableof Fd17 kFixI kT, PySem.W.mg_of X G ad17, kd17, bd17, .nil, fun _ => .nil⟩⟩
  have mTIm : Cm l.prog w K mg base _ CT "_image" [] _ := ⟨Tt.ci.cl, ⟨_, _, _, [], [], ok_image Fm13 Tt mBent, ⟨am13, im13, km13⟩, bm13, .nil, fun _ => .nil⟩⟩
  have mBack : Cm l.prog w K mg base _ CT "back" [] _ := ⟨Tt.ci.cl, ⟨_, _, _, [], [], ok_back Fm12 T T2 Tt kNeed kSigned kW mMul mTIm, ⟨am12, im12, km12⟩, bm12, .nil, fun _ => .nil⟩⟩
  have mTEq : Cm l.prog w K mg base _ CT "__eq__" [] _ := ⟨Tt.ci.cl, ⟨_, _, _, [], [], ok_teq Fm9 T Tt mEq, ⟨am9, im9, km9⟩, bm9, .nil, fun _ => .nil⟩⟩
  have kLBes : Cf l.prog w K mg base _ "_letters_beside" [] _ := ⟨⟨_, _, _, [], [], ok_lbeside Fd20 T ZB, PySem.W.mg_of X G ad20, kd20, bd20, .nil, fun _ => .nil⟩⟩
  have mTMul : Cm l.prog w K mg base _ CT "__mul__" [] _ := ⟨Tt.ci.cl, ⟨_, _, _, [], [], ok_tmul Fm10 T Tt mBack kT, ⟨am10, im10, km10⟩, bm10, .nil, fun _ => .nil⟩⟩
  have mLedTo : Cm l.prog w K mg base _ CT "_led_to" [] _ := ⟨Tt.ci.cl, ⟨_, _, _, [], [], ok_ledto Fm14 T2 Tt kPassBy kLBes kW mBack mNeg, ⟨am14, im14, km14⟩, bm14, .nil, fun _ => .nil⟩⟩
  have mTInv : Cm l.prog w K mg base _ CT "__invert__" [] _ := ⟨Tt.ci.cl, ⟨_, _, _, [], [], ok_tinv Fm11 T Tt kFirst mLedTo kT, ⟨am11, im11, km11⟩, bm11, .nil, fun _ => .nil⟩⟩
  have kMoved : Cf l.prog w K mg base _ "_moved" [] _ := ⟨⟨_, _, _, [], [], ok_moved Fd23 kPassBy kMade, PySem.W.mg_of X G ad23, kd23, bd23, .nil, fun _ => .nil⟩⟩
  have kWays : Cf l.prog w K mg base _ "_ways" [] _ := ⟨⟨_, _, _, [], [], ok_ways Fd22 kPassBy kMade, PySem.W.mg_of X G ad22, kd22, bd22, .nil, fun _ => .nil⟩⟩
  have kQTo : Cf l.prog w K mg base _ "_quarters_to" [] _ := ⟨⟨_, _, _, [], [], ok_qto Fd21 T T2 Tt kFirst kWays kMoved, PySem.W.mg_of X G ad21, kd21, bd21, .nil, fun _ => .nil⟩⟩
  have kGates : Cf l.prog w K mg base _ "gates" [] _ := ⟨⟨_, _, _, [], [], ok_gates Fd18 T T2 Tt TK kQTo kCC kTof kLBes mEq mCLen mPut, PySem.W.mg_of X G ad18, kd18, bd18, .nil, fun _ => .nil⟩⟩
  have kPot : Cf l.prog w K mg base _ "_law_pot" [] _ := ⟨⟨_, _, _, [], [], ok_pot Fd38 T, PySem.W.mg_of X G ad38, kd38, bd38, .nil, fun _ => .nil⟩⟩
  have kTake : Cf l.prog w K mg base _ "_law_take" [] _ := ⟨⟨_, _, _, [], [], ok_tk Fd39 T, PySem.W.mg_of X G ad39, kd39, bd39, .nil, fun _ => .nil⟩⟩
  have kOf : Cf l.prog w K mg base _ "_law_of" [] _ := ⟨⟨_, _, _, [], [], ok_of Fd40 T kTake, PySem.W.mg_of X G ad40, kd40, bd40, .nil, fun _ => .nil⟩⟩
  have kCells : Cf l.prog w K mg base _ "_law_cells" [] _ := ⟨⟨_, _, _, [], [], ok_cells Fd41 T, PySem.W.mg_of X G ad41, kd41, bd41, .nil, fun _ => .nil⟩⟩
  have V : VL l.prog w K mg base C CC CT CB := ⟨T, T2, Tt, TK, sfCT, nfCT, ⟨neCT, hmCT⟩, kCC, kW, kT, kTof, kGates, pText, pCText, mTEq, mTMul, mTInv, mBack⟩
  have kLTexts : Cf l.prog w K mg base _ "_law_texts" [] _ := ⟨⟨_, _, _, [], [], ok_ltexts Fd42 V, PySem.W.mg_of X G ad42, kd42, bd42, .nil, fun _ => .nil⟩⟩
  have kLines : Cf l.prog w K mg base _ "_law_are_lines_right" [] _ := ⟨⟨_, _, _, [], [], ok_lines Fd43 T kLTexts, PySem.W.mg_of X G ad43, kd43, bd43, .nil, fun _ => .nil⟩⟩
  have kAllR : Cf l.prog w K mg base _ "_law_are_all_right" [] _ := ⟨⟨_, _, _, [], [], ok_allr Fd44 V kLTexts, PySem.W.mg_of X G ad44, kd44, bd44, .nil, fun _ => .nil⟩⟩
  have kRight : Cf l.prog w K mg base _ "_law_right" [] _ := ⟨⟨_, _, _, [], [], ok_right Fd45 V kTake kOf kLines kAllR, PySem.W.mg_of X G ad45, kd45, bd45, .nil, fun _ => .nil⟩⟩
  exact FnG.of (ok_law Fd46 T kCells kPot kRight)
end K79
set_option Elab.async false
set_option linter.all false
open PySem PySem.W PyProof.Rows
set_option maxRecDepth 100000 in
set_option maxHeartbeats 0 in
theorem PySem.Challenge.cw_looseknobs_k79_tables_by_hand_holds : PySem.Challenge.rw_looseknobs_k79_tables_by_hand.Holds := by
  w_on; o_law; k_head; (case hw => w_witness2)
  k_fill
  refine Dl.walk_G (l := PySem.Challenge.rw_looseknobs_k79_tables_by_hand) (n := 63) (k := 15) (x := "script") rfl (by decide) rfl ⟨rfl, by decide, by decide⟩ (fun w h Y => PySem.W.kIn_of Y) ?F
  case F =>
    intro w mg fa h KX G hmg tabs
    refine' K79.all_mk KX G hmg ?ad0 ?ld0 ?cd0 ?kd0 ?ad1 ?ld1 ?cd1 ?kd1 ?ad2 ?ld2 ?cd2 ?kd2 ?ad3 ?ld3 ?cd3 ?kd3 ?ad4 ?ld4 ?cd4 ?kd4 ?ad5 ?ld5 ?cd5 ?kd5 ?ad6 ?ld6 ?cd6 ?kd6 ?ad7 ?ld7 ?cd7 ?kd7 ?ad8 ?ld8 ?cd8 ?kd8 ?ad9 ?ld9 ?cd9 ?kd9 ?ad10 ?ld10 ?cd10 ?kd10 ?ad11 ?ld11 ?cd11 ?kd11 ?ad12 ?ld12 ?cd12 ?kd12 ?ad13 ?ld13 ?cd13 ?kd13 ?ad14 ?ld14 ?cd14 ?kd14 ?ad15 ?ld15 ?cd15 ?kd15 ?ad16 ?ld16 ?cd16 ?kd16 ?ad17 ?ld17 ?cd17 ?kd17 ?ad18 ?ld18 ?cd18 ?kd18 ?ad19 ?ld19 ?cd19 ?kd19 ?ad20 ?ld20 ?cd20 ?kd20 ?ad21 ?ld21 ?cd21 ?kd21 ?ad22 ?ld22 ?cd22 ?kd22 ?ad23 ?ld23 ?cd23 ?kd23 ?ad24 ?ld24 ?cd24 ?kd24 ?ad25 ?ld25 ?cd25 ?kd25 ?ad26 ?ld26 ?cd26 ?kd26 ?ad27 ?ld27 ?cd27 ?kd27 ?ad28 ?ld28 ?cd28 ?kd28 ?ad29 ?ld29 ?cd29 ?kd29 ?ad30 ?ld30 ?cd30 ?kd30 ?ad31 ?ld31 ?cd31 ?kd31 ?ad32 ?ld32 ?cd32 ?kd32 ?ad33 ?ld33 ?cd33 ?kd33 ?ad34 ?ld34 ?cd34 ?kd34 ?ad35 ?ld35 ?cd35 ?kd35 ?ad36 ?ld36 ?cd36 ?kd36 ?ad37 ?ld37 ?cd37 ?kd37 ?ad38 ?ld38 ?cd38 ?kd38 ?ad39 ?ld39 ?cd39 ?kd39 ?ad40 ?ld40 ?cd40 ?kd40 ?ad41 ?ld41 ?cd41 ?kd41 ?ad42 ?ld42 ?cd42 ?kd42 ?ad43 ?ld43 ?cd43 ?kd43 ?ad44 ?ld44 ?cd44 ?kd44 ?ad45 ?ld45 ?cd45 ?kd45 ?ad46 ?ld46 ?cd46 ?kd46 ?hn ?ht ?aC ?pgC ?hdC ?poC ?saC ?mkC ?kC ?haC ?hmC ?nC0 ?nC1 ?aCT ?pgCT ?hdCT ?poCT ?saCT ?mkCT ?kCT ?haCT ?hmCT ?nCT0 ?nCT1 ?aCC ?pgCC ?hdCC ?poCC ?saCC ?mkCC ?kCC ?haCC ?hmCC ?nCC0 ?nCC1 ?nCC2 ?nCC3 ?nCC4 ?nCC5 ?sfC ?nfC ?neC ?sfCT ?nfCT ?neCT ?am0 ?im0 ?lm0 ?cm0 ?km0 ?am1 ?im1 ?lm1 ?cm1 ?km1 ?am2 ?im2 ?lm2 ?cm2 ?km2 ?am3 ?im3 ?lm3 ?cm3 ?km3 ?am4 ?im4 ?lm4 ?cm4 ?km4 ?am5 ?im5 ?lm5 ?cm5 ?km5 ?am6 ?im6 ?lm6 ?cm6 ?km6 ?am7 ?im7 ?lm7 ?cm7 ?km7 ?am8 ?im8 ?lm8 ?cm8 ?km8 ?am9 ?im9 ?lm9 ?cm9 ?km9 ?am10 ?im10 ?lm10 ?cm10 ?km10 ?am11 ?im11 ?lm11 ?cm11 ?km11 ?am12 ?im12 ?lm12 ?cm12 ?km12 ?am13 ?im13 ?lm13 ?cm13 ?km13 ?am14 ?im14 ?lm14 ?cm14 ?km14 ?am15 ?im15 ?lm15 ?cm15 ?km15 ?am16 ?im16 ?lm16 ?cm16 ?km16 ?am17 ?im17 ?lm17 ?cm17 ?km17 ?ap0 ?gp0 ?tp0 ?rp0 ?lp0 ?cp0 ?kp0 ?ap1 ?gp1 ?tp1 ?rp1 ?lp1 ?cp1 ?kp1 ?z_len ?z_int ?z_abs ?z_max ?z_min ?z_range ?z_list ?z_all ?z_any ?z_isinstance ?z_str ?z_tuple ?z_enumerate ?z_zip ?z_set ?z_repr ?z_sum ?z_bool ?z_sorted ?k_ib ?g_lets ?g_most ?g_nml ?g_lnm ?g_mln ?g_mtn ?g_mkn ?gaS ?gaT ?gqa ?gta ?gha ?gza ?gxa ?gaW ?gaA ?gaP ?laS ?yaS ?waS ?laT ?yaT ?waT ?lqa ?yqa ?wqa ?lta ?yta ?wta ?lha ?yha ?wha ?lza ?yza ?wza ?lxa ?yxa ?wxa ?s_1 ?s_2 ?s_3 ?s_4 ?t_1 ?t_2 ?t_3 ?t_4 ?t_m1 ?t_m2 ?t_m3 ?t_m4 ?laW ?laA ?laP ?q_II ?q_IX ?q_IY ?q_IZ ?q_XI ?q_XX ?q_XY ?tt_XY ?q_XZ ?tt_XZ ?q_YI ?q_YX ?tt_YX ?q_YY ?q_YZ ?tt_YZ ?q_ZI ?q_ZX ?tt_ZX ?q_ZY ?tt_ZY ?q_ZZ ?h_I ?h_X ?h_Y ?h_Z ?cz_II ?cz_IX ?cz_IY ?cz_IZ ?cz_XI ?cz_XX ?cz_XY ?cz_XZ ?cz_YI ?cz_YX ?cz_YY ?cz_YZ ?cz_ZI ?cz_ZX ?cz_ZY ?cz_ZZ ?cx_II ?cx_IX ?cx_IY ?cx_IZ ?cx_XI ?cx_XX ?cx_XY ?cx_XZ ?cx_YI ?cx_YX ?cx_YY ?cx_YZ ?cx_ZI ?cx_ZX ?cx_ZY ?cx_ZZ ?gB ?lB ?lk1 ?hh1 ?lk2 ?hh2 ?lk3 ?hh3 ?lk4 ?hh4 ?gCB ?LCB ?saCB ?sub_CB ?tyCB ?kpCB ?nvCB ?inCB ?gCL ?LCL ?saCL ?sub_CL ?tyCL ?kpCL ?nvCL ?inCL ?gCM ?LCM ?saCM ?sub_CM ?tyCM ?kpCM ?nvCM ?inCM ?tI ?lI ?cI ?kI
    (case ad0 => k_is)
    (case ld0 => k_is)
    (case cd0 => k_is)
    (case kd0 => k_is)
    (case ad1 => k_is)
    (case ld1 => k_is)
    (case cd1 => k_is)
    (case kd1 => k_is)
    (case ad2 => k_is)
    (case ld2 => k_is)
    (case cd2 => k_is)
    (case kd2 => k_is)
    (case ad3 => k_is)
    (case ld3 => k_is)
    (case cd3 => k_is)
    (case kd3 => k_is)
    (case ad4 => k_is)
    (case ld4 => k_is)
    (case cd4 => k_is)
    (case kd4 => k_is)
    (case ad5 => k_is)
    (case ld5 => k_is)
    (case cd5 => k_is)
    (case kd5 => k_is)
    (case ad6 => k_is)
    (case ld6 => k_is)
    (case cd6 => k_is)
    (case kd6 => k_is)
    (case ad7 => k_is)
    (case ld7 => k_is)
    (case cd7 => k_is)
    (case kd7 => k_is)
    (case ad8 => k_is)
    (case ld8 => k_is)
    (case cd8 => k_is)
    (case kd8 => k_is)
    (case ad9 => k_is)
    (case ld9 => k_is)
    (case cd9 => k_is)
    (case kd9 => k_is)
    (case ad10 => k_is)
    (case ld10 => k_is)
    (case cd10 => k_is)
    (case kd10 => k_is)
    (case ad11 => k_is)
    (case ld11 => k_is)
    (case cd11 => k_is)
    (case kd11 => k_is)
    (case ad12 => k_is)
    (case ld12 => k_is)
    (case cd12 => k_is)
    (case kd12 => k_is)
    (case ad13 => k_is)
    (case ld13 => k_is)
    (case cd13 => k_is)
    (case kd13 => k_is)
    (case ad14 => k_is)
    (case ld14 => k_is)
    (case cd14 => k_is)
    (case kd14 => k_is)
    (case ad15 => k_is)
    (case ld15 => k_is)
    (case cd15 => k_is)
    (case kd15 => k_is)
    (case ad16 => k_is)
    (case ld16 => k_is)
    (case cd16 => k_is)
    (case kd16 => k_is)
    (case ad17 => k_is)
    (case ld17 => k_is)
    (case cd17 => k_is)
    (case kd17 => k_is)
    (case ad18 => k_is)
    (case ld18 => k_is)
    (case cd18 => k_is)
    (case kd18 => k_is)
    (case ad19 => k_is)
    (case ld19 => k_is)
    (case cd19 => k_is)
    (case kd19 => k_is)
    (case ad20 => k_is)
    (case ld20 => k_is)
    (case cd20 => k_is)
    (case kd20 => k_is)
    (case ad21 => k_is)
    (case ld21 => k_is)
    (case cd21 => k_is)
    (case kd21 => k_is)
    (case ad22 => k_is)
    (case ld22 => k_is)
    (case cd22 => k_is)
    (case kd22 => k_is)
    (case ad23 => k_is)
    (case ld23 => k_is)
    (case cd23 => k_is)
    (case kd23 => k_is)
    (case ad24 => k_is)
    (case ld24 => k_is)
    (case cd24 => k_is)
    (case kd24 => k_is)
    (case ad25 => k_is)
    (case ld25 => k_is)
    (case cd25 => k_is)
    (case kd25 => k_is)
    (case ad26 => k_is)
    (case ld26 => k_is)
    (case cd26 => k_is)
    (case kd26 => k_is)
    (case ad27 => k_is)
    (case ld27 => k_is)
    (case cd27 => k_is)
    (case kd27 => k_is)
    (case ad28 => k_is)
    (case ld28 => k_is)
    (case cd28 => k_is)
    (case kd28 => k_is)
    (case ad29 => k_is)
    (case ld29 => k_is)
    (case cd29 => k_is)
    (case kd29 => k_is)
    (case ad30 => k_is)
    (case ld30 => k_is)
    (case cd30 => k_is)
    (case kd30 => k_is)
    (case ad31 => k_is)
    (case ld31 => k_is)
    (case cd31 => k_is)
    (case kd31 => k_is)
    (case ad32 => k_is)
    (case ld32 => k_is)
    (case cd32 => k_is)
    (case kd32 => k_is)
    (case ad33 => k_is)
    (case ld33 => k_is)
    (case cd33 => k_is)
    (case kd33 => k_is)
    (case ad34 => k_is)
    (case ld34 => k_is)
    (case cd34 => k_is)
    (case kd34 => k_is)
    (case ad35 => k_is)
    (case ld35 => k_is)
    (case cd35 => k_is)
    (case kd35 => k_is)
    (case ad36 => k_is)
    (case ld36 => k_is)
    (case cd36 => k_is)
    (case kd36 => k_is)
    (case ad37 => k_is)
    (case ld37 => k_is)
    (case cd37 => k_is)
    (case kd37 => k_is)
    (case ad38 => k_is)
    (case ld38 => k_is)
    (case cd38 => k_is)
    (case kd38 => k_is)
    (case ad39 => k_is)
    (case ld39 => k_is)
    (case cd39 => k_is)
    (case kd39 => k_is)
    (case ad40 => k_is)
    (case ld40 => k_is)
    (case cd40 => k_is)
    (case kd40 => k_is)
    (case ad41 => k_is)
    (case ld41 => k_is)
    (case cd41 => k_is)
    (case kd41 => k_is)
    (case ad42 => k_is)
    (case ld42 => k_is)
    (case cd42 => k_is)
    (case kd42 => k_is)
    (case ad43 => k_is)
    (case ld43 => k_is)
    (case cd43 => k_is)
    (case kd43 => k_is)
    (case ad44 => k_is)
    (case ld44 => k_is)
    (case cd44 => k_is)
    (case kd44 => k_is)
    (case ad45 => k_is)
    (case ld45 => k_is)
    (case cd45 => k_is)
    (case kd45 => k_is)
    (case ad46 => k_is)
    (case ld46 => k_is)
    (case cd46 => k_is)
    (case kd46 => k_is)
    (case hn => k_is)
    (case ht => k_is)
    (case aC => k_is)
    (case pgC => k_is)
    (case hdC => k_is)
    (case poC => k_is)
    (case saC => k_is)
    (case mkC => k_is)
    (case kC => k_is)
    (case haC => k_is)
    (case hmC => k_is)
    (case nC0 => k_is)
    (case nC1 => k_is)
    (case aCT => k_is)
    (case pgCT => k_is)
    (case hdCT => k_is)
    (case poCT => k_is)
    (case saCT => k_is)
    (case mkCT => k_is)
    (case kCT => k_is)
    (case haCT => k_is)
    (case hmCT => k_is)
    (case nCT0 => k_is)
    (case nCT1 => k_is)
    (case aCC => k_is)
    (case pgCC => k_is)
    (case hdCC => k_is)
    (case poCC => k_is)
    (case saCC => k_is)
    (case mkCC => k_is)
    (case kCC => k_is)
    (case haCC => k_is)
    (case hmCC => k_is)
    (case nCC0 => k_is)
    (case nCC1 => k_is)
    (case nCC2 => k_is)
    (case nCC3 => k_is)
    (case nCC4 => k_is)
    (case nCC5 => k_is)
    (case sfC => k_is)
    (case nfC => k_is)
    (case neC => k_is)
    (case sfCT => k_is)
    (case nfCT => k_is)
    (case neCT => k_is)
    (case am0 => k_is)
    (case im0 => k_is)
    (case lm0 => k_is)
    (case cm0 => k_is)
    (case km0 => k_is)
    (case am1 => k_is)
    (case im1 => k_is)
    (case lm1 => k_is)
    (case cm1 => k_is)
    (case km1 => k_is)
    (case am2 => k_is)
    (case im2 => k_is)
    (case lm2 => k_is)
    (case cm2 => k_is)
    (case km2 => k_is)
    (case am3 => k_is)
    (case im3 => k_is)
    (case lm3 => k_is)
    (case cm3 => k_is)
    (case km3 => k_is)
    (case am4 => k_is)
    (case im4 => k_is)
    (case lm4 => k_is)
    (case cm4 => k_is)
    (case km4 => k_is)
    (case am5 => k_is)
    (case im5 => k_is)
    (case lm5 => k_is)
    (case cm5 => k_is)
    (case km5 => k_is)
    (case am6 => k_is)
    (case im6 => k_is)
    (case lm6 => k_is)
    (case cm6 => k_is)
    (case km6 => k_is)
    (case am7 => k_is)
    (case im7 => k_is)
    (case lm7 => k_is)
    (case cm7 => k_is)
    (case km7 => k_is)
    (case am8 => k_is)
    (case im8 => k_is)
    (case lm8 => k_is)
    (case cm8 => k_is)
    (case km8 => k_is)
    (case am9 => k_is)
    (case im9 => k_is)
    (case lm9 => k_is)
    (case cm9 => k_is)
    (case km9 => k_is)
    (case am10 => k_is)
    (case im10 => k_is)
    (case lm10 => k_is)
    (case cm10 => k_is)
    (case km10 => k_is)
    (case am11 => k_is)
    (case im11 => k_is)
    (case lm11 => k_is)
    (case cm11 => k_is)
    (case km11 => k_is)
    (case am12 => k_is)
    (case im12 => k_is)
    (case lm12 => k_is)
    (case cm12 => k_is)
    (case km12 => k_is)
    (case am13 => k_is)
    (case im13 => k_is)
    (case lm13 => k_is)
    (case cm13 => k_is)
    (case km13 => k_is)
    (case am14 => k_is)
    (case im14 => k_is)
    (case lm14 => k_is)
    (case cm14 => k_is)
    (case km14 => k_is)
    (case am15 => k_is)
    (case im15 => k_is)
    (case lm15 => k_is)
    (case cm15 => k_is)
    (case km15 => k_is)
    (case am16 => k_is)
    (case im16 => k_is)
    (case lm16 => k_is)
    (case cm16 => k_is)
    (case km16 => k_is)
    (case am17 => k_is)
    (case im17 => k_is)
    (case lm17 => k_is)
    (case cm17 => k_is)
    (case km17 => k_is)
    (case ap0 => k_is)
    (case gp0 => k_is)
    (case tp0 => k_is)
    (case rp0 => k_is)
    (case lp0 => k_is)
    (case cp0 => k_is)
    (case kp0 => k_is)
    (case ap1 => k_is)
    (case gp1 => k_is)
    (case tp1 => k_is)
    (case rp1 => k_is)
    (case lp1 => k_is)
    (case cp1 => k_is)
    (case kp1 => k_is)
    (case z_len => k_is)
    (case z_int => k_is)
    (case z_abs => k_is)
    (case z_max => k_is)
    (case z_min => k_is)
    (case z_range => k_is)
    (case z_list => k_is)
    (case z_all => k_is)
    (case z_any => k_is)
    (case z_isinstance => k_is)
    (case z_str => k_is)
    (case z_tuple => k_is)
    (case z_enumerate => k_is)
    (case z_zip => k_is)
    (case z_set => k_is)
    (case z_repr => k_is)
    (case z_sum => k_is)
    (case z_bool => k_is)
    (case z_sorted => k_is)
    (case k_ib => first | k_is | rfl | with_unfolding_all rfl)
    (case g_lets => k_is)
    (case g_most => k_is)
    (case g_nml => k_is)
    (case g_lnm => k_is)
    (case g_mln => k_is)
    (case g_mtn => k_is)
    (case g_mkn => k_is)
    (case gaS => k_is)
    (case gaT => k_is)
    (case gqa => k_is)
    (case gta => k_is)
    (case gha => k_is)
    (case gza => k_is)
    (case gxa => k_is)
    (case gaW => k_is)
    (case gaA => k_is)
    (case gaP => k_is)
    (case laS => k_is)
    (case yaS => k_keys)
    (case waS => first | rfl | decide | k_is)
    (case laT => k_is)
    (case yaT => k_keys)
    (case waT => first | rfl | decide | k_is)
    (case lqa => k_is)
    (case yqa => k_keys)
    (case wqa => first | rfl | decide | k_is)
    (case lta => k_is)
    (case yta => k_keys)
    (case wta => first | rfl | decide | k_is)
    (case lha => k_is)
    (case yha => k_keys)
    (case wha => first | rfl | decide | k_is)
    (case lza => k_is)
    (case yza => k_keys)
    (case wza => first | rfl | decide | k_is)
    (case lxa => k_is)
    (case yxa => k_keys)
    (case wxa => first | rfl | decide | k_is)
    (case s_1 => k_is)
    (case s_2 => k_is)
    (case s_3 => k_is)
    (case s_4 => k_is)
    (case t_1 => k_is)
    (case t_2 => k_is)
    (case t_3 => k_is)
    (case t_4 => k_is)
    (case t_m1 => k_is)
    (case t_m2 => k_is)
    (case t_m3 => k_is)
    (case t_m4 => k_is)
    (case laW => k_is)
    (case laA => k_is)
    (case laP => k_is)
    (case q_II => k_is)
    (case q_IX => k_is)
    (case q_IY => k_is)
    (case q_IZ => k_is)
    (case q_XI => k_is)
    (case q_XX => k_is)
    (case q_XY => k_is)
    (case tt_XY => k_is)
    (case q_XZ => k_is)
    (case tt_XZ => k_is)
    (case q_YI => k_is)
    (case q_YX => k_is)
    (case tt_YX => k_is)
    (case q_YY => k_is)
    (case q_YZ => k_is)
    (case tt_YZ => k_is)
    (case q_ZI => k_is)
    (case q_ZX => k_is)
    (case tt_ZX => k_is)
    (case q_ZY => k_is)
    (case tt_ZY => k_is)
    (case q_ZZ => k_is)
    (case h_I => k_is)
    (case h_X => k_is)
    (case h_Y => k_is)
    (case h_Z => k_is)
    (case cz_II => k_is)
    (case cz_IX => k_is)
    (case cz_IY => k_is)
    (case cz_IZ => k_is)
    (case cz_XI => k_is)
    (case cz_XX => k_is)
    (case cz_XY => k_is)
    (case cz_XZ => k_is)
    (case cz_YI => k_is)
    (case cz_YX => k_is)
    (case cz_YY => k_is)
    (case cz_YZ => k_is)
    (case cz_ZI => k_is)
    (case cz_ZX => k_is)
    (case cz_ZY => k_is)
    (case cz_ZZ => k_is)
    (case cx_II => k_is)
    (case cx_IX => k_is)
    (case cx_IY => k_is)
    (case cx_IZ => k_is)
    (case cx_XI => k_is)
    (case cx_XX => k_is)
    (case cx_XY => k_is)
    (case cx_XZ => k_is)
    (case cx_YI => k_is)
    (case cx_YX => k_is)
    (case cx_YY => k_is)
    (case cx_YZ => k_is)
    (case cx_ZI => k_is)
    (case cx_ZX => k_is)
    (case cx_ZY => k_is)
    (case cx_ZZ => k_is)
    (case gB => k_is)
    (case lB => k_is)
    (case lk1 => k_is)
    (case hh1 => first | rfl | decide +kernel)
    (case lk2 => k_is)
    (case hh2 => first | rfl | decide +kernel)
    (case lk3 => k_is)
    (case hh3 => first | rfl | decide +kernel)
    (case lk4 => k_is)
    (case hh4 => first | rfl | decide +kernel)
    (case gCB => k_is)
    (case LCB => k_is)
    (case saCB => k_is)
    (case sub_CB => k_is)
    (case tyCB => k_is)
    (case kpCB => k_is)
    (case nvCB => k_is)
    (case inCB => k_is)
    (case gCL => k_is)
    (case LCL => k_is)
    (case saCL => k_is)
    (case sub_CL => k_is)
    (case tyCL => k_is)
    (case kpCL => k_is)
    (case nvCL => k_is)
    (case inCL => k_is)
    (case gCM => k_is)
    (case LCM => k_is)
    (case saCM => k_is)
    (case sub_CM => k_is)
    (case tyCM => k_is)
    (case kpCM => k_is)
    (case nvCM => k_is)
    (case inCM => k_is)
    (case tI => k_is)
    (case lI => k_is)
    (case cI => k_is)
    (case kI => k_is)
