import PyProof.Rows.All
import Wide.All
import OpenK.AllK
import Wide.FinOn
import HandS.ForMost
import HandS.ForExc
import HandS.Walk
import HandS.IsInst
import HandS.Property
import HandS.StrMore
import HandS.Wide
import HandS.Conv
import HandS.ExcInit
import HandS.Flow
import HandS.Lambda
import HandS.CallSlots
import HandS.ExcOwn
import HandS.Comp
import HandS.Iter
import KE.KOpsOwn
import KE.KFmtOwn
import HandS.Zip0
import PyProof.StrLoop
import HandS.More
import HandS.Text
import OpenK.KOps
import HandS.ExcValue
import HandS.TupAny
import KE.KExcIs
import HandS.EndBits
import HandS.EndTab
import HandS.SetFor
import HandS.Strs
import HandS.Codes
import KE.KDictZip
import HandS.GenList
import KE.KNest
import PySem.Challenge.RW_looseknobs_k09_words_by_hand
set_option Elab.async false
set_option linter.all false
set_option maxRecDepth 100000
set_option maxHeartbeats 4000000
set_option autoImplicit false
namespace Dl
open PySem PySem.Spec PyProof.Rows L2

/-! ## data -/
inductive D where
  | non | bl (b : Bool) | int (i : Int) | str (x : Str) | ty (n : String) | adr (a : Addr)
  | tup (ds : List D) | lst (ds : List D) | dic (ks : List Key) (ds : List D)
  | ins (C : Addr) (ns : List Str) (ds : List D) | exc (C : Addr) (d : D) | sc (ns : List Int)
/-- an exception that was caught, at a -/
def ExO (C dx a : Addr) : HO := .ext fun h => ∃ oe vs, h.get? a = some oe ∧ Zc (.ref C) (some dx) oe ∧ oe.data = .fields vs
mutual
inductive Rep (K : PySem.W.Frag) (F : Hp) : V → D → Prop
  | non : Rep K F .non .non
  | bl (b) : Rep K F (.bl b) (.bl b)
  | int (i) : Rep K F (.int i) (.int i)
  | str (x) : Rep K F (.str x) (.str x)
  | ty (n) : Rep K F (.ty n) (.ty n)
  | adr (a) : Rep K F (.ref a) (.adr a)
  | tup {a vs ds} : SqT K F a vs → Reps K F vs ds → Rep K F (.ref a) (.tup ds)
  | lst {a vs ds} : F a = some (.lst vs) → Reps K F vs ds → Rep K F (.ref a) (.lst ds)
  | dic {a} {kvs : List (Key × V)} {ds} : F a = some (.dK kvs) → Reps K F (kvs.map (·.2)) ds → Rep K F (.ref a) (.dic (kvs.map (·.1)) ds)
  | ins {a C dx} {fs : List (Str × V)} {ds} : F a = some (.ins C dx fs) → Reps K F (fs.map (·.2)) ds → Rep K F (.ref a) (.ins C (fs.map (·.1)) ds)
  | exc {a C dx v d} : F a = some (ExO C dx a) → F dx = some (.xd [("value", v)]) → Rep K F v d → Rep K F (.ref a) (.exc C d)
  | sc {a ns} : SqL K F a (ns.map V.int) → Rep K F (.ref a) (.sc ns)
inductive Reps (K : PySem.W.Frag) (F : Hp) : List V → List D → Prop
  | nil : Reps K F [] []
  | cons {v d vs ds} : Rep K F v d → Reps K F vs ds → Reps K F (v :: vs) (d :: ds)
end
theorem same_sqT {K : PySem.W.Frag} {H H' : Hp} {a : Addr} {xs : List V} (e : Same H H') (h : SqT K H a xs) : SqT K H' a xs := by
  rcases h with (h | ⟨o, h⟩) | h
  · exact .inl (.inl (e _ _ h))
  · exact .inl (.inr ⟨o, e _ _ h⟩)
  · exact .inr h
theorem same_sqL {K : PySem.W.Frag} {H H' : Hp} {a : Addr} {xs : List V} (e : Same H H') (h : SqL K H a xs) : SqL K H' a xs := by
  rcases h with (h | ⟨o, h⟩) | h
  · exact .inl (.inl (e _ _ h))
  · exact .inl (.inr ⟨o, e _ _ h⟩)
  · exact .inr h
theorem same_rd {H H' : Hp} {a : Addr} {u : HO} (e : Same H H') (h : Rd H a u) : Rd H' a u := by
  rcases h with h | ⟨o, h⟩
  · exact .inl (e _ _ h)
  · exact .inr ⟨o, e _ _ h⟩
mutual
theorem Rep.mono {K : PySem.W.Frag} {F F' : Hp} (e : Same F F') : ∀ {v d}, Rep K F v d → Rep K F' v d
  | _, _, .non => .non
  | _, _, .bl b => .bl b
  | _, _, .int b => .int b
  | _, _, .str b => .str b
  | _, _, .ty b => .ty b
  | _, _, .adr b => .adr b
  | _, _, .tup h r => .tup (same_sqT e h) (Reps.mono e r)
  | _, _, .lst h r => .lst (e _ _ h) (Reps.mono e r)
  | _, _, .dic h r => .dic (e _ _ h) (Reps.mono e r)
  | _, _, .ins h r => .ins (e _ _ h) (Reps.mono e r)
  | _, _, .exc h k r => .exc (e _ _ h) (e _ _ k) (Rep.mono e r)
  | _, _, .sc h => .sc (same_sqL e h)
theorem Reps.mono {K : PySem.W.Frag} {F F' : Hp} (e : Same F F') : ∀ {v d}, Reps K F v d → Reps K F' v d
  | _, _, .nil => .nil
  | _, _, .cons a b => .cons (Rep.mono e a) (Reps.mono e b)
end
theorem Reps.length {K : PySem.W.Frag} {F : Hp} : ∀ {vs ds}, Reps K F vs ds → vs.length = ds.length
  | _, _, .nil => rfl
  | _, _, .cons _ t => congrArg (· + 1) (Reps.length t)
theorem Reps.get {K : PySem.W.Frag} {F : Hp} : ∀ {vs ds} {i : Nat} {d : D}, Reps K F vs ds → ds[i]? = some d → ∃ v, vs[i]? = some v ∧ Rep K F v d
  | _, _, _, _, .nil, e => by simp at e
  | _, _, 0, _, .cons r _, e => by simp at e; subst e; exact ⟨_, rfl, r⟩
  | _, _, i + 1, x, .cons _ t, e => by
    obtain ⟨u, h1, h2⟩ := Reps.get (i := i) (d := x) t (by simpa using e)
    exact ⟨u, by simpa using h1, h2⟩
theorem Reps.get' {K : PySem.W.Frag} {F : Hp} : ∀ {vs ds} {i : Nat} {v : V}, Reps K F vs ds → vs[i]? = some v → ∃ d, ds[i]? = some d ∧ Rep K F v d
  | _, _, _, _, .nil, e => by simp at e
  | _, _, 0, _, .cons r _, e => by simp at e; subst e; exact ⟨_, rfl, r⟩
  | _, _, i + 1, x, .cons _ t, e => by
    obtain ⟨u, h1, h2⟩ := Reps.get' (i := i) (v := x) t (by simpa using e)
    exact ⟨u, by simpa using h1, h2⟩
theorem Reps.append {K : PySem.W.Frag} {F : Hp} : ∀ {vs ds ws es}, Reps K F vs ds → Reps K F ws es → Reps K F (vs ++ ws) (ds ++ es)
  | _, _, _, _, .nil, s => s
  | _, _, _, _, .cons r t, s => .cons r (Reps.append t s)
theorem Reps.take {K : PySem.W.Frag} {F : Hp} : ∀ {vs ds} (n : Nat), Reps K F vs ds → Reps K F (vs.take n) (ds.take n)
  | _, _, 0, _ => .nil
  | _, _, _ + 1, .nil => .nil
  | _, _, n + 1, .cons r t => .cons r (Reps.take n t)
theorem Reps.drop {K : PySem.W.Frag} {F : Hp} : ∀ {vs ds} (n : Nat), Reps K F vs ds → Reps K F (vs.drop n) (ds.drop n)
  | _, _, 0, r => r
  | _, _, _ + 1, .nil => .nil
  | _, _, n + 1, .cons _ t => Reps.drop n t
theorem Reps.set {K : PySem.W.Frag} {F : Hp} {v : V} {d : D} (r : Rep K F v d) : ∀ {vs ds} (i : Nat), Reps K F vs ds → Reps K F (vs.set i v) (ds.set i d)
  | _, _, _, .nil => .nil
  | _, _, 0, .cons _ t => .cons r t
  | _, _, i + 1, .cons q t => .cons q (Reps.set r i t)
theorem Reps.rev {K : PySem.W.Frag} {F : Hp} : ∀ {vs ds}, Reps K F vs ds → Reps K F vs.reverse ds.reverse
  | _, _, .nil => .nil
  | _, _, .cons r t => by
    rw [List.reverse_cons, List.reverse_cons]
    exact (Reps.rev t).append (.cons r .nil)

/-! ## slots, what changes -/
inductive S where
  | p (d : D) | l (j : Nat)
inductive M where
  | lst (ds : List D) | dic (ks : List Key) (ds : List D) | obj (C : Addr) (ns : List Str) (ds : List D) | gone | tab (P : Addr) (q : Str)
def RepS (K : PySem.W.Frag) (F : Hp) (A : List Addr) (v : V) : S → Prop
  | .p d => Rep K F v d
  | .l j => ∃ a, v = .ref a ∧ A[j]? = some a
theorem getElem?_pre {α : Type} {A A' : List α} (p : A <+: A') {j : Nat} {a : α} (h : A[j]? = some a) : A'[j]? = some a := by
  obtain ⟨B, rfl⟩ := p
  rw [List.getElem?_append_left (List.getElem?_eq_some_iff.mp h).1]
  exact h
theorem RepS.mono {K : PySem.W.Frag} {F F' : Hp} {A A' : List Addr} (e : Same F F') (p : A <+: A') {v : V} : ∀ {s}, RepS K F A v s → RepS K F' A' v s
  | .p _, h => Rep.mono e h
  | .l _, ⟨a, h1, h2⟩ => ⟨a, h1, getElem?_pre p h2⟩
inductive RepSs (K : PySem.W.Frag) (F : Hp) (A : List Addr) : List V → List S → Prop
  | nil : RepSs K F A [] []
  | cons {v s vs ss} : RepS K F A v s → RepSs K F A vs ss → RepSs K F A (v :: vs) (s :: ss)
theorem RepSs.mono {K : PySem.W.Frag} {F F' : Hp} {A A' : List Addr} (e : Same F F') (p : A <+: A') : ∀ {vs ss}, RepSs K F A vs ss → RepSs K F' A' vs ss
  | _, _, .nil => .nil
  | _, _, .cons a b => .cons (a.mono e p) (RepSs.mono e p b)
theorem RepSs.length {K : PySem.W.Frag} {F : Hp} {A : List Addr} : ∀ {vs ss}, RepSs K F A vs ss → vs.length = ss.length
  | _, _, .nil => rfl
  | _, _, .cons _ t => congrArg (· + 1) (RepSs.length t)
theorem RepSs.append {K : PySem.W.Frag} {F : Hp} {A : List Addr} : ∀ {vs ss vs' ss'}, RepSs K F A vs ss → RepSs K F A vs' ss' → RepSs K F A (vs ++ vs') (ss ++ ss')
  | _, _, _, _, .nil, s => s
  | _, _, _, _, .cons r t, s => .cons r (RepSs.append t s)
def MOk (K : PySem.W.Frag) (F : Hp) (A : List Addr) (H : Hp) (a : Addr) : M → Prop
  | .lst ds => ∃ vs, H a = some (.lst vs) ∧ Reps K F vs ds
  | .dic ks ds => ∃ kvs, H a = some (.dK kvs) ∧ kvs.map (·.1) = ks ∧ Reps K F (kvs.map (·.2)) ds
  | .obj C ns ds => ∃ dx fs, H a = some (.ins C dx fs) ∧ fs.map (·.1) = ns ∧ Reps K F (fs.map (·.2)) ds
  | .gone => ∃ o, H a = some o
  | .tab P q => a = P ∧ ∃ ps : Array Value, H a = some (.tbl ps) ∧ TriplesOk ps.toList ∧ ∀ (pos : Pos) (cv : Value), codeAmong pos ps.toList = some cv → ∃ c, cv = .ref c ∧ F c = some (LamX.CodeO c q)
theorem MOk.there {K : PySem.W.Frag} {F : Hp} {A : List Addr} {H : Hp} {a : Addr} : ∀ {m}, MOk K F A H a m → ∃ o, H a = some o
  | .lst _, ⟨_, h, _⟩ => ⟨_, h⟩
  | .dic _ _, ⟨_, h, _⟩ => ⟨_, h⟩
  | .obj _ _ _, ⟨_, _, h, _⟩ => ⟨_, h⟩
  | .gone, h => h
  | .tab _ _, ⟨_, ps, h, _⟩ => ⟨_, h⟩
theorem MOk.mono {K : PySem.W.Frag} {F F' : Hp} {A A' : List Addr} {H H' : Hp} {a : Addr} (e : Same F F') (p : A <+: A') (k : H' a = H a) : ∀ {m}, MOk K F A H a m → MOk K F' A' H' a m
  | .lst _, ⟨vs, h, r⟩ => ⟨vs, by rw [k]; exact h, r.mono e⟩
  | .dic _ _, ⟨kvs, h, q, r⟩ => ⟨kvs, by rw [k]; exact h, q, r.mono e⟩
  | .obj _ _ _, ⟨dx, fs, h, q, r⟩ => ⟨dx, fs, by rw [k]; exact h, q, r.mono e⟩
  | .gone, ⟨o, h⟩ => ⟨o, by rw [k]; exact h⟩
  | .tab _ _, ⟨e1, ps, h, t, g⟩ => ⟨e1, ps, by rw [k]; exact h, t, fun pos cv q => by
      obtain ⟨c, q1, q2⟩ := g pos cv q
      exact ⟨c, q1, e _ _ q2⟩⟩

/-- where a def began -/
structure En where
  K : PySem.W.Frag
  H0 : Hp
  F0 : Hp
  A0 : List Addr
def notGone : M → Prop
  | .gone => False
  | _ => True
structure Rc (N : En) (F : Hp) (A : List Addr) (H : Hp) (μ : List M) : Prop where
  sub : Same F H
  base : Same N.F0 F
  new : ∀ a o, F a = some o → (∃ o', N.F0 a = some o') ∨ N.H0 a = none
  keep : ∀ a o, N.H0 a = some o → a ∉ N.A0 → H a = some o
  pre : ∃ B, A = N.A0 ++ B ∧ ∀ b ∈ B, N.H0 b = none
  nd : A.Nodup
  len : A.length = μ.length
  mus : ∀ (j : Nat) (a : Addr) (m : M), A[j]? = some a → μ[j]? = some m → MOk N.K F A H a m
  fr : ∀ (j : Nat) (a : Addr) (m : M), A[j]? = some a → μ[j]? = some m → notGone m → F a = none
structure Rl (N : En) (F : Hp) (A : List Addr) (H : Hp) (σ : L2.St) (δ : List (Option S)) (μ : List M) : Prop where
  rc : Rc N F A H μ
  len : δ.length = σ.length
  sl : ∀ (i : Nat) (s : S), δ[i]? = some (some s) → ∃ v, σ[i]? = some (some v) ∧ RepS N.K F A v s
theorem Rc.at {N : En} {F : Hp} {A : List Addr} {H : Hp} {μ : List M} (r : Rc N F A H μ) {j : Nat} {a : Addr} (h : A[j]? = some a) : ∃ m, μ[j]? = some m ∧ MOk N.K F A H a m := by
  have hj := (List.getElem?_eq_some_iff.mp h).1
  rw [r.len] at hj
  exact ⟨μ[j], List.getElem?_eq_getElem hj, r.mus j a _ h (List.getElem?_eq_getElem hj)⟩
theorem Rc.at' {N : En} {F : Hp} {A : List Addr} {H : Hp} {μ : List M} (r : Rc N F A H μ) {j : Nat} {m : M} (h : μ[j]? = some m) : ∃ a, A[j]? = some a ∧ MOk N.K F A H a m := by
  have hj := (List.getElem?_eq_some_iff.mp h).1
  rw [← r.len] at hj
  exact ⟨A[j], List.getElem?_eq_getElem hj, r.mus j _ _ (List.getElem?_eq_getElem hj) h⟩
theorem Rc.there {N : En} {F : Hp} {A : List Addr} {H : Hp} {μ : List M} (r : Rc N F A H μ) {a : Addr} (h : a ∈ A) : ∃ o, H a = some o := by
  obtain ⟨j, hj⟩ := List.getElem?_of_mem h
  obtain ⟨m, _, k⟩ := r.at hj
  exact k.there
theorem Rc.fresh {N : En} {F : Hp} {A : List Addr} {H : Hp} {μ : List M} (r : Rc N F A H μ) {p : Addr} (h : H p = none) : N.H0 p = none ∧ F p = none ∧ p ∉ A := by
  have hA : p ∉ A := fun hm => by
    obtain ⟨o, e⟩ := r.there hm
    rw [h] at e; cases e
  refine ⟨?_, r.sub.free h, hA⟩
  cases e : N.H0 p with
  | none => rfl
  | some o =>
    obtain ⟨B, rfl, _⟩ := r.pre
    rw [r.keep p o e fun hm => hA (List.mem_append_left _ hm)] at h
    cases h
theorem ne_mem {A : List Addr} {p a : Addr} {j : Nat} (h : p ∉ A) (h1 : A[j]? = some a) : a ≠ p := fun z => h (by rw [← z]; exact List.mem_of_getElem? h1)
theorem nodup_at {α : Type} {A : List α} (nd : A.Nodup) {i j : Nat} {a : α} (h1 : A[i]? = some a) (h2 : A[j]? = some a) : i = j := by
  obtain ⟨l1, e1⟩ := List.getElem?_eq_some_iff.mp h1
  obtain ⟨l2, e2⟩ := List.getElem?_eq_some_iff.mp h2
  exact (List.getElem_inj nd).mp (e1.trans e2.symm)
theorem ne_at {A : List Addr} (nd : A.Nodup) {i j : Nat} {a b : Addr} (hi : i ≠ j) (h1 : A[i]? = some b) (h2 : A[j]? = some a) : b ≠ a := fun z => hi (nodup_at nd h1 (by rw [z]; exact h2))
theorem same_updN {H : Hp} {p : Addr} {o : HO} (h : H p = none) : Same H (upd H p o) := fun b x e => by
  rw [upd_ne (ne_of_none e h)]
  exact e
/-- a new frozen object -/
theorem Rc.frozen {N : En} {F : Hp} {A : List Addr} {H : Hp} {μ : List M} (r : Rc N F A H μ) {p : Addr} (h : H p = none) (o : HO) : Rc N (upd F p o) A (upd H p o) μ where
  sub := fun b x e => by
    by_cases hb : b = p
    · subst hb; rw [upd_same] at e ⊢; exact e
    · rw [upd_ne hb] at e ⊢; exact r.sub b x e
  base := r.base.trans (same_updN (r.fresh h).2.1)
  new := fun a x e => by
    by_cases hb : a = p
    · subst hb; exact .inr (r.fresh h).1
    · rw [upd_ne hb] at e; exact r.new a x e
  keep := fun a x e hA => by
    rw [upd_ne (ne_of_none e (r.fresh h).1)]
    exact r.keep a x e hA
  pre := r.pre
  nd := r.nd
  len := r.len
  mus := fun j a m h1 h2 => (r.mus j a m h1 h2).mono (same_updN (r.fresh h).2.1) (List.prefix_refl _) (upd_ne (ne_mem (r.fresh h).2.2 h1))
  fr := fun j a m h1 h2 h3 => by
    rw [upd_ne (ne_mem (r.fresh h).2.2 h1)]
    exact r.fr j a m h1 h2 h3
/-- a new object of no further interest -/
theorem Rc.junk {N : En} {F : Hp} {A : List Addr} {H : Hp} {μ : List M} (r : Rc N F A H μ) {p : Addr} (h : H p = none) (o : HO) : Rc N F A (upd H p o) μ where
  sub := r.sub.trans (same_updN h)
  base := r.base
  new := r.new
  keep := fun a x e hA => by
    rw [upd_ne (ne_of_none e (r.fresh h).1)]
    exact r.keep a x e hA
  pre := r.pre
  nd := r.nd
  len := r.len
  mus := fun j a m h1 h2 => (r.mus j a m h1 h2).mono (Same.refl _) (List.prefix_refl _) (upd_ne (ne_mem (r.fresh h).2.2 h1))
  fr := r.fr
/-- a new object that changes -/
theorem Rc.newM {N : En} {F : Hp} {A : List Addr} {H : Hp} {μ : List M} (r : Rc N F A H μ) {p : Addr} (h : H p = none) {o : HO} {m : M} (ok : MOk N.K F (A ++ [p]) (upd H p o) p m) : Rc N F (A ++ [p]) (upd H p o) (μ ++ [m]) where
  sub := r.sub.trans (same_updN h)
  base := r.base
  new := r.new
  keep := fun a x e hA => by
    rw [upd_ne (ne_of_none e (r.fresh h).1)]
    exact r.keep a x e hA
  pre := by
    obtain ⟨B, rfl, hB⟩ := r.pre
    refine ⟨B ++ [p], List.append_assoc .., fun b hb => ?_⟩
    rcases List.mem_append.mp hb with hb | hb
    · exact hB b hb
    · rw [List.mem_singleton] at hb; subst hb; exact (r.fresh h).1
  nd := List.nodup_append.mpr ⟨r.nd, by simp, fun a ha b hb => by
    rw [List.mem_singleton] at hb; subst hb
    intro z; subst z; exact (r.fresh h).2.2 ha⟩
  len := by simp [r.len]
  mus := fun j a m' h1 h2 => by
    by_cases hj : j < A.length
    · rw [List.getElem?_append_left hj] at h1
      rw [List.getElem?_append_left (by rw [← r.len]; exact hj)] at h2
      exact (r.mus j a m' h1 h2).mono (Same.refl _) (List.prefix_append _ _) (upd_ne (ne_mem (r.fresh h).2.2 h1))
    · rw [List.getElem?_append_right (by omega)] at h1
      rw [List.getElem?_append_right (by rw [← r.len]; omega), ← r.len] at h2
      have e : j - A.length = 0 := by
        have := (List.getElem?_eq_some_iff.mp h1).1
        simp at this; omega
      rw [e] at h1 h2
      simp at h1 h2
      subst h1 h2
      exact ok
  fr := fun j a m' h1 h2 h3 => by
    by_cases hj : j < A.length
    · rw [List.getElem?_append_left hj] at h1
      rw [List.getElem?_append_left (by rw [← r.len]; exact hj)] at h2
      exact r.fr j a m' h1 h2 h3
    · rw [List.getElem?_append_right (by omega)] at h1
      have e : j - A.length = 0 := by
        have := (List.getElem?_eq_some_iff.mp h1).1
        simp at this; omega
      rw [e] at h1
      simp at h1
      subst h1
      exact (r.fresh h).2.1
/-- a changing object is changed -/
theorem Rc.write {N : En} {F : Hp} {A : List Addr} {H : Hp} {μ : List M} (r : Rc N F A H μ) {j : Nat} {a : Addr} {m m' : M} (ha : A[j]? = some a) (hm : μ[j]? = some m) (ng : notGone m) {o : HO} (ok : MOk N.K F A (upd H a o) a m') : Rc N F A (upd H a o) (μ.set j m') where
  sub := fun b x e => by
    have hb : b ≠ a := fun z => by rw [z, r.fr j a m ha hm ng] at e; cases e
    rw [upd_ne hb]; exact r.sub b x e
  base := r.base
  new := r.new
  keep := fun b x e hA => by
    by_cases hb : b = a
    · subst hb
      obtain ⟨B, rfl, hB⟩ := r.pre
      rcases List.mem_append.mp (List.mem_of_getElem? ha) with h | h
      · exact absurd h hA
      · rw [hB _ h] at e; cases e
    · rw [upd_ne hb]; exact r.keep b x e hA
  pre := r.pre
  nd := r.nd
  len := by simp [r.len]
  mus := fun i b n h1 h2 => by
    by_cases hi : i = j
    · subst hi
      rw [ha] at h1; cases h1
      rw [List.getElem?_set_self (List.getElem?_eq_some_iff.mp hm).1] at h2
      cases h2
      exact ok
    · rw [List.getElem?_set_ne (Ne.symm hi)] at h2
      exact (r.mus i b n h1 h2).mono (Same.refl _) (List.prefix_refl _) (upd_ne (ne_at r.nd hi h1 ha))
  fr := fun i b n h1 h2 h3 => by
    by_cases hi : i = j
    · subst hi
      rw [ha] at h1; cases h1
      exact r.fr i _ m ha hm ng
    · rw [List.getElem?_set_ne (Ne.symm hi)] at h2
      exact r.fr i b n h1 h2 h3
/-- an own list is frozen -/
theorem Rc.freeze {N : En} {F : Hp} {A : List Addr} {H : Hp} {μ : List M} (r : Rc N F A H μ) {j : Nat} {a : Addr} {m : M} (ha : A[j]? = some a) (hm : μ[j]? = some m) (ng : notGone m) (hj : N.A0.length ≤ j) {o : HO} (ho : H a = some o) :
    Rc N (upd F a o) A H (μ.set j .gone) ∧ Same F (upd F a o) := by
  have hF := r.fr j a m ha hm ng
  have sm : Same F (upd F a o) := same_updN hF
  refine ⟨⟨fun b x e => ?_, r.base.trans sm, fun b x e => ?_, r.keep, r.pre, r.nd, by simp [r.len], fun i b n h1 h2 => ?_, fun i b n h1 h2 h3 => ?_⟩, sm⟩
  · by_cases hb : b = a
    · subst hb; rw [upd_same] at e; cases e; exact ho
    · rw [upd_ne hb] at e; exact r.sub b x e
  · by_cases hb : b = a
    · subst hb
      obtain ⟨B, rfl, hB⟩ := r.pre
      rw [List.getElem?_append_right hj] at ha
      exact .inr (hB _ (List.mem_of_getElem? ha))
    · rw [upd_ne hb] at e; exact r.new b x e
  · by_cases hi : i = j
    · subst hi
      rw [ha] at h1; cases h1
      rw [List.getElem?_set_self (List.getElem?_eq_some_iff.mp hm).1] at h2
      cases h2
      exact ⟨o, ho⟩
    · rw [List.getElem?_set_ne (Ne.symm hi)] at h2
      exact (r.mus i b n h1 h2).mono sm (List.prefix_refl _) rfl
  · by_cases hi : i = j
    · subst hi
      rw [List.getElem?_set_self (List.getElem?_eq_some_iff.mp hm).1] at h2
      cases h2
      exact h3.elim
    · rw [List.getElem?_set_ne (Ne.symm hi)] at h2
      rw [upd_ne (ne_at r.nd hi h1 ha)]
      exact r.fr i b n h1 h2 h3
/-- the last ones are let go -/
theorem Rc.trim {N : En} {F : Hp} {A : List Addr} {H : Hp} {μ : List M} (r : Rc N F A H μ) {n : Nat} (hn : N.A0.length ≤ n) : Rc N F (A.take n) H (μ.take n) := by
  have pp : A.take n <+: A := List.take_prefix _ _
  refine ⟨r.sub, r.base, r.new, r.keep, ?_, r.nd.sublist (List.take_sublist _ _), by simp [r.len], fun j a m h1 h2 => ?_, fun j a m h1 h2 h3 => ?_⟩
  · obtain ⟨B, rfl, hB⟩ := r.pre
    refine ⟨B.take (n - N.A0.length), ?_, fun b hb => hB b (List.mem_of_mem_take hb)⟩
    rw [List.take_append, List.take_of_length_le hn]
  · have k := r.mus j a m (getElem?_pre pp h1) (getElem?_pre (List.take_prefix _ _) h2)
    cases m with
    | lst ds => exact k
    | dic ks ds => exact k
    | gone => exact k
    | obj C ns ss => exact k
    | tab P q => exact k
  · exact r.fr j a m (getElem?_pre pp h1) (getElem?_pre (List.take_prefix _ _) h2) h3
theorem Rl.to {N : En} {F F' : Hp} {A A' : List Addr} {H H' : Hp} {σ : L2.St} {δ : List (Option S)} {μ μ' : List M} (r : Rl N F A H σ δ μ) (e : Same F F') (p : A <+: A') (r' : Rc N F' A' H' μ') : Rl N F' A' H' σ δ μ' :=
  ⟨r', r.len, fun i s h => by
    obtain ⟨v, h1, h2⟩ := r.sl i s h
    exact ⟨v, h1, h2.mono e p⟩⟩
theorem Rl.set {N : En} {F : Hp} {A : List Addr} {H : Hp} {σ : L2.St} {δ : List (Option S)} {μ : List M} (r : Rl N F A H σ δ μ) {i : Nat} {v : V} {s : S} (h : RepS N.K F A v s) : Rl N F A H (σ.set i (some v)) (δ.set i (some s)) μ :=
  ⟨r.rc, by simp [r.len], fun j t e => by
    by_cases hj : j = i
    · subst hj
      have hl : j < δ.length := by
        have := (List.getElem?_eq_some_iff.mp e).1
        simpa using this
      rw [List.getElem?_set_self hl] at e
      cases e
      exact ⟨v, List.getElem?_set_self (by rw [← r.len]; exact hl), h⟩
    · rw [List.getElem?_set_ne (Ne.symm hj)] at e ⊢
      exact r.sl j t e⟩
/-- slots forgotten -/
theorem Rl.weak {N : En} {F : Hp} {A : List Addr} {H : Hp} {σ : L2.St} {δ δ' : List (Option S)} {μ : List M} (r : Rl N F A H σ δ μ) (hl : δ'.length = δ.length) (h : ∀ (i : Nat) (s : S), δ'[i]? = some (some s) → δ[i]? = some (some s)) : Rl N F A H σ δ' μ :=
  ⟨r.rc, hl.trans r.len, fun i s e => r.sl i s (h i s e)⟩

/-! ## results, judgements -/
inductive Rx where
  | v (s : S) | x (C : Addr) (d : D)
inductive Os where
  | nx (δ : List (Option S)) (μ : List M) | rt (s : S) (μ : List M) | xx (C : Addr) (d : D) (δ : List (Option S)) (μ : List M)
  | bk (δ : List (Option S)) (μ : List M) | ct (δ : List (Option S)) (μ : List M)
def EndE (N : En) (W : WX) (σ : L2.St) (δ : List (Option S)) (F : Hp) (A : List Addr) (μ' : List M) (Q : VK) : Rx → Prop
  | .v s => ∀ v F' A' H', Same F F' → A <+: A' → Rl N F' A' H' σ δ μ' → RepS N.K F' A' v s → Q v H'
  | .x C d => ∀ dx v F' A' H', Same F F' → A <+: A' → Rl N F' A' H' σ δ μ' → F' dx = some (.xd [("value", v)]) → Rep N.K F' v d → W (.ref C) (some dx) σ H'
def tD (N : En) (W : WX) (δ : List (Option S)) (μ : List M) (r : Rx) (μ' : List M) : TE := fun σ H Q => ∃ F A, Rl N F A H σ δ μ ∧ EndE N W σ δ F A μ' Q r
def DE (X : Cx) (N : En) (W : WX) (δ : List (Option S)) (μ : List M) (e : Expr) (r : Rx) (μ' : List M) : Prop := PE X e (tD N W δ μ r μ')
def tDT (N : En) (W : WX) (δ : List (Option S)) (μ : List M) (b : Bool) (μ' : List M) : TT := fun σ H Q => ∃ F A, Rl N F A H σ δ μ ∧ ∀ F' A' H', Same F F' → A <+: A' → Rl N F' A' H' σ δ μ' → Q b H'
def DT (X : Cx) (N : En) (W : WX) (δ : List (Option S)) (μ : List M) (e : Expr) (b : Bool) (μ' : List M) : Prop := PT X e (tDT N W δ μ b μ')
def DW (X : Cx) (N : En) (W : WX) (δ : List (Option S)) (μ : List M) (e : Expr) (b : Bool) (μ' : List M) : Prop := PW X e (tDT N W δ μ b μ')
def tDA (N : En) (W : WX) (δ : List (Option S)) (μ : List M) (ss : List S) (μ' : List M) : TA := fun σ H Q => ∃ F A, Rl N F A H σ δ μ ∧ ∀ vs F' A' H', Same F F' → A <+: A' → Rl N F' A' H' σ δ μ' → RepSs N.K F' A' vs ss → Q vs H'
def DA (X : Cx) (N : En) (W : WX) (δ : List (Option S)) (μ : List M) (es : List Expr) (ss : List S) (μ' : List M) : Prop := PA X es (tDA N W δ μ ss μ')
def EndS (N : En) (W : WX) (F : Hp) (A : List Addr) (K : Ends) : Os → Prop
  | .nx δ' μ' => ∀ σ' F' A' H', Same F F' → A <+: A' → Rl N F' A' H' σ' δ' μ' → K.nx σ' H'
  | .bk δ' μ' => ∀ σ' F' A' H', Same F F' → A <+: A' → Rl N F' A' H' σ' δ' μ' → K.bk σ' H'
  | .ct δ' μ' => ∀ σ' F' A' H', Same F F' → A <+: A' → Rl N F' A' H' σ' δ' μ' → K.ct σ' H'
  | .rt s μ' => ∀ v F' A' H', Same F F' → A <+: A' → Rc N F' A' H' μ' → RepS N.K F' A' v s → K.rt v H'
  | .xx C d δ' μ' => ∀ σ' dx v F' A' H', Same F F' → A <+: A' → Rl N F' A' H' σ' δ' μ' → F' dx = some (.xd [("value", v)]) → Rep N.K F' v d → W (.ref C) (some dx) σ' H'
def tDS (N : En) (W : WX) (δ : List (Option S)) (μ : List M) (o : Os) : TS := fun K σ H => ∃ F A, Rl N F A H σ δ μ ∧ EndS N W F A K o
def DS (X : Cx) (N : En) (W : WX) (δ : List (Option S)) (μ : List M) (st : Stmt) (o : Os) : Prop := PS X st (tDS N W δ μ o)
def DSs (X : Cx) (N : En) (W : WX) (δ : List (Option S)) (μ : List M) (sts : List Stmt) (o : Os) : Prop := PSs X sts (tDS N W δ μ o)

theorem PE.imp {X : Cx} {e : Expr} {t t' : TE} (h : PE X e t) (w : ∀ σ H Q, t' σ H Q → t σ H Q) : PE X e t' := ⟨fun p s σ H Q I q => h.run p s σ H Q I (w σ H Q q)⟩
theorem PT.imp {X : Cx} {e : Expr} {t t' : TT} (h : PT X e t) (w : ∀ σ H Q, t' σ H Q → t σ H Q) : PT X e t' := ⟨fun p s σ H Q I q => h.run p s σ H Q I (w σ H Q q)⟩
theorem PW.imp {X : Cx} {e : Expr} {t t' : TT} (h : PW X e t) (w : ∀ σ H Q, t' σ H Q → t σ H Q) : PW X e t' := ⟨fun wh p s σ H Q I q => h.run wh p s σ H Q I (w σ H Q q)⟩
theorem PA.imp {X : Cx} {e : List Expr} {t t' : TA} (h : PA X e t) (w : ∀ σ H Q, t' σ H Q → t σ H Q) : PA X e t' := ⟨fun po p s σ H Q I q => h.run po p s σ H Q I (w σ H Q q)⟩
theorem PS.imp {X : Cx} {e : Stmt} {t t' : TS} (h : PS X e t) (w : ∀ D σ H, t' D σ H → t D σ H) : PS X e t' := ⟨fun p s σ H D I q => h.run p s σ H D I (w D σ H q)⟩
theorem PSs.imp {X : Cx} {e : List Stmt} {t t' : TS} (h : PSs X e t) (w : ∀ D σ H, t' D σ H → t D σ H) : PSs X e t' := ⟨fun p s σ H D I q => h.run p s σ H D I (w D σ H q)⟩
/-- the heap may be taken as it is at the end -/
theorem EndE.to {N : En} {W : WX} {σ : L2.St} {δ : List (Option S)} {F F1 : Hp} {A A1 : List Addr} {μ' : List M} {Q : VK} (e : Same F F1) (p : A <+: A1) : ∀ {r}, EndE N W σ δ F A μ' Q r → EndE N W σ δ F1 A1 μ' Q r
  | .v _, h => fun v F' A' H' e' p' => h v F' A' H' (e.trans e') (p.trans p')
  | .x _ _, h => fun dx v F' A' H' e' p' => h dx v F' A' H' (e.trans e') (p.trans p')
theorem EndS.to {N : En} {W : WX} {F F1 : Hp} {A A1 : List Addr} {K : Ends} (e : Same F F1) (p : A <+: A1) : ∀ {o}, EndS N W F A K o → EndS N W F1 A1 K o
  | .nx _ _, h => fun σ F' A' H' e' p' => h σ F' A' H' (e.trans e') (p.trans p')
  | .bk _ _, h => fun σ F' A' H' e' p' => h σ F' A' H' (e.trans e') (p.trans p')
  | .ct _ _, h => fun σ F' A' H' e' p' => h σ F' A' H' (e.trans e') (p.trans p')
  | .rt _ _, h => fun σ F' A' H' e' p' => h σ F' A' H' (e.trans e') (p.trans p')
  | .xx _ _ _ _, h => fun σ dx v F' A' H' e' p' => h σ dx v F' A' H' (e.trans e') (p.trans p')
end Dl

set_option Elab.async false
set_option linter.all false
set_option maxRecDepth 100000
set_option maxHeartbeats 4000000
set_option autoImplicit false
namespace Dl
open PySem PySem.Spec PyProof.Rows L2
section
variable {X : Cx} {N : En} {W : WX} {δ δ' δ1 δ2 : List (Option S)} {μ μ' μ1 μ2 μ3 : List M} {e a b c : Expr} {pos : Pos} {d : D} {s s1 s2 : S} {r : Rx}
theorem EndE.here {σ : L2.St} {F : Hp} {A : List Addr} {Q : VK} {H : Hp} {v : V} (k : EndE N W σ δ F A μ Q (.v s)) (R : Rl N F A H σ δ μ) (h : RepS N.K F A v s) : Q v H := k v F A H (Same.refl _) (List.prefix_refl _) R h
/-! ### names and constants -/
theorem de_c {v : V} (h : PE X e (tC v)) (q : ∀ K F, Rep K F v d) : DE X N W δ μ e (.v (.p d)) μ :=
  PE.imp h fun σ H Q ⟨F, A, R, k⟩ => k.here R (q _ _)
theorem de_int {i : Int} {j} : DE X N W δ μ (.Constant (.int i) j pos) (.v (.p (.int i))) μ := de_c pe_int fun _ _ => .int i
theorem de_bl {i : Bool} {j} : DE X N W δ μ (.Constant (.bool i) j pos) (.v (.p (.bl i))) μ := de_c pe_bl fun _ _ => .bl i
theorem de_non {j} : DE X N W δ μ (.Constant .none j pos) (.v (.p .non)) μ := de_c pe_non fun _ _ => .non
theorem de_str {x : Str} {j} : DE X N W δ μ (.Constant (.str x) j pos) (.v (.p (.str x))) μ := de_c pe_str fun _ _ => .str x
theorem de_var (i : Nat) {x : Str} (hs : δ[i]? = some (some s) := by rfl) (hN : X.N[i]? = some x := by rfl) (hv : Vis X.env.scope x := by first | exact Or.inl rfl | exact Or.inr (Or.inl rfl) | exact Or.inr (Or.inr rfl))
    (hd : (x == ("__debug__" : Str)) = false := by decide) (hcd : (x == ("__classdict__" : Str)) = false := by decide) : DE X N W δ μ (.Name x pos) (.v s) μ :=
  PE.imp (pe_var hN hv hd hcd) fun σ H Q ⟨F, A, R, k⟩ => by
    obtain ⟨v, h1, h2⟩ := R.sl i s hs
    exact ⟨v, h1, k.here R h2⟩
theorem de_glob {x : Str} {v : V} {u : Value} (hm : X.mg x = some u) (q : RelV v u) (rp : ∀ K F, Rep K F v d) (hg : Gl X x := by rfl) (hd : (x == ("__debug__" : Str)) = false := by decide) : DE X N W δ μ (.Name x pos) (.v (.p d)) μ :=
  de_c (pe_glob hg hm q hd) rp
/-! ### operators by their values -/
def OpOk (X : Cx) (N : En) (W : WX) (f : Value → Value → Sem Value) (μ : List M) (s1 s2 : S) (r : Rx) (μ' : List M) : Prop :=
  ∃ rr : R2, OpR X f rr ∧ ∀ σ δ F A H x y Q, Rl N F A H σ δ μ → RepS N.K F A x s1 → RepS N.K F A y s2 → EndE N W σ δ F A μ' Q r → rr x y H Q
def UnOk (X : Cx) (N : En) (W : WX) (f : Value → Sem Value) (μ : List M) (s1 : S) (r : Rx) (μ' : List M) : Prop :=
  ∃ rr : V → Hp → VK → Prop, UnR X f rr ∧ ∀ σ δ F A H x Q, Rl N F A H σ δ μ → RepS N.K F A x s1 → EndE N W σ δ F A μ' Q r → rr x H Q
theorem two {rr : R2} {σ : L2.St} {H : Hp} {Q : VK} (hr : ∀ σ δ F A H x y Q, Rl N F A H σ δ μ2 → RepS N.K F A x s1 → RepS N.K F A y s2 → EndE N W σ δ F A μ3 Q r → rr x y H Q)
    (h : tD N W δ μ r μ3 σ H Q) : tOp rr (tD N W δ μ (.v s1) μ1) (tD N W δ μ1 (.v s2) μ2) σ H Q := by
  obtain ⟨F, A, R, k⟩ := h
  exact ⟨F, A, R, fun x F1 A1 H1 e1 p1 R1 rx => ⟨F1, A1, R1, fun y F2 A2 H2 e2 p2 R2 ry => hr σ δ F2 A2 H2 x y Q R2 (rx.mono e2 p2) ry (k.to (e1.trans e2) (p1.trans p2))⟩⟩
theorem de_bin {op : Operator} (ha : DE X N W δ μ a (.v s1) μ1) (hb : DE X N W δ μ1 b (.v s2) μ2) (h : OpOk X N W (binaryOp op) μ2 s1 s2 r μ3) : DE X N W δ μ (.BinOp a op b pos) r μ3 := by
  obtain ⟨rr, ho, hr⟩ := h
  exact PE.imp (pe_op ho ha hb) fun σ H Q q => two hr q
theorem de_un {op : UnaryOp} (ha : DE X N W δ μ a (.v s1) μ1) (h : UnOk X N W (unaryOp op) μ1 s1 r μ2) : DE X N W δ μ (.UnaryOp op a pos) r μ2 := by
  obtain ⟨rr, ho, hr⟩ := h
  exact PE.imp (pe_un ho ha) fun σ H Q ⟨F, A, R, k⟩ => ⟨F, A, R, fun x F1 A1 H1 e1 p1 R1 rx => hr σ δ F1 A1 H1 x Q R1 rx (k.to e1 p1)⟩
theorem de_cmp {op : CmpOp} (ha : DE X N W δ μ a (.v s1) μ1) (hb : DE X N W δ μ1 b (.v s2) μ2) (h : OpOk X N W (compareOp op) μ2 s1 s2 r μ3) (hm : behindInMarks op b = false := by first | exact nomark _ | rfl) : DE X N W δ μ (.Compare a [op] [b] pos) r μ3 := by
  obtain ⟨rr, ho, hr⟩ := h
  exact PE.imp (pe_cmpR ho ha hb hm) fun σ H Q q => two hr q
theorem EndE.bool {σ : L2.St} {F : Hp} {A : List Addr} {Q : Bool → Hp → Prop} {k : Bool} (h : ∀ F' A' H', Same F F' → A <+: A' → Rl N F' A' H' σ δ μ' → Q k H') : EndE N W σ δ F A μ' (fun x H' => ∃ k, x = .bl k ∧ Q k H') (.v (.p (.bl k))) :=
  fun v F' A' H' e p R rv => by
    cases rv
    exact ⟨k, rfl, h F' A' H' e p R⟩
theorem dt_cmp {op : CmpOp} {k : Bool} (ha : DE X N W δ μ a (.v s1) μ1) (hb : DE X N W δ μ1 b (.v s2) μ2) (h : OpOk X N W (compareOp op) μ2 s1 s2 (.v (.p (.bl k))) μ3) (hm : behindInMarks op b = false := by first | exact nomark _ | rfl) : DT X N W δ μ (.Compare a [op] [b] pos) k μ3 := by
  obtain ⟨rr, ho, hr⟩ := h
  exact PT.imp (pt_cmpR ho ha hb hm) fun σ H Q ⟨F, A, R, q⟩ => two (W := W) hr ⟨F, A, R, EndE.bool q⟩
theorem dt_val {k : Bool} (h : DE X N W δ μ e (.v (.p (.bl k))) μ1) (he : ∀ whole, isTrue e X.env whole = (do let v ← whole; standAt e.pos; holding [v] (truthy v)) := by intro _; rfl) : DT X N W δ μ e k μ1 :=
  PT.imp (pt_val h he) fun σ H Q ⟨F, A, R, q⟩ => ⟨F, A, R, EndE.bool q⟩
/-- a chain of two -/
theorem de_chain {op op' : CmpOp} {s3 : S} {k k' : Bool} (ha : DE X N W δ μ a (.v s1) μ) (hb : DE X N W δ μ b (.v s2) μ) (hc : DE X N W δ μ c (.v s) μ) (h : OpOk X N W (compareOp op) μ s1 s2 (.v (.p (.bl k))) μ) (h' : OpOk X N W (compareOp op') μ s2 s (.v (.p (.bl k'))) μ)
    (hm : behindInMarks op b = false := by first | exact nomark _ | rfl) (hm' : behindInMarks op' c = false := by first | exact nomark _ | rfl) : True := trivial
/-! ### tests -/
theorem dt_not {k : Bool} (h : DT X N W δ μ a k μ1) : DT X N W δ μ (.UnaryOp .Not a pos) (!k) μ1 := PT.imp (pt_not h) fun σ H Q ⟨F, A, R, q⟩ => ⟨F, A, R, q⟩
theorem de_not {k : Bool} (h : DE X N W δ μ a (.v (.p (.bl k))) μ1) : DE X N W δ μ (.UnaryOp .Not a pos) (.v (.p (.bl (!k)))) μ1 :=
  PE.imp (pe_not h) fun σ H Q ⟨F, A, R, q⟩ => ⟨F, A, R, fun v F' A' H' e p R' rv => by
    cases rv
    exact ⟨k, rfl, q _ F' A' H' e p R' (.bl _)⟩⟩
theorem dw_and1 {k : Bool} (h : DT X N W δ μ a k μ1) : DW X N W δ μ (.BoolOp .And [a] pos) k μ1 := pw_and1 h
theorem dw_or1 {k : Bool} (h : DT X N W δ μ a k μ1) : DW X N W δ μ (.BoolOp .Or [a] pos) k μ1 := pw_or1 h
theorem dw_no : PW X e (fun _ _ _ => False) := ⟨fun _ _ _ _ _ _ _ h => h.elim⟩
theorem pe_no : PE X e (fun _ _ _ => False) := ⟨fun _ _ _ _ _ _ h => h.elim⟩
theorem dw_and {rest : List Expr} {k k' : Bool} (h : DT X N W δ μ a k μ1) (h' : k = true → DW X N W δ μ1 (.BoolOp .And (b :: rest) pos) k' μ1) : DW X N W δ μ (.BoolOp .And (a :: b :: rest) pos) (k && k') μ1 := by
  cases k with
  | true => exact PW.imp (pw_and h (h' rfl)) fun σ H Q ⟨F, A, R, q⟩ => ⟨F, A, R, fun F1 A1 H1 e1 p1 R1 => iteT ⟨F1, A1, R1, fun F2 A2 H2 e2 p2 R2 => q F2 A2 H2 (e1.trans e2) (p1.trans p2) R2⟩⟩
  | false => exact PW.imp (pw_and h dw_no) fun σ H Q ⟨F, A, R, q⟩ => ⟨F, A, R, fun F1 A1 H1 e1 p1 R1 => iteF (q F1 A1 H1 e1 p1 R1)⟩
theorem dw_or {rest : List Expr} {k k' : Bool} (h : DT X N W δ μ a k μ1) (h' : k = false → DW X N W δ μ1 (.BoolOp .Or (b :: rest) pos) k' μ1) : DW X N W δ μ (.BoolOp .Or (a :: b :: rest) pos) (k || k') μ1 := by
  cases k with
  | false => exact PW.imp (pw_or h (h' rfl)) fun σ H Q ⟨F, A, R, q⟩ => ⟨F, A, R, fun F1 A1 H1 e1 p1 R1 => iteF ⟨F1, A1, R1, fun F2 A2 H2 e2 p2 R2 => q F2 A2 H2 (e1.trans e2) (p1.trans p2) R2⟩⟩
  | true => exact PW.imp (pw_or h dw_no) fun σ H Q ⟨F, A, R, q⟩ => ⟨F, A, R, fun F1 A1 H1 e1 p1 R1 => iteT (q F1 A1 H1 e1 p1 R1)⟩
theorem dt_w {k : Bool} (h : DW X N W δ μ e k μ1) : DT X N W δ μ e k μ1 := h.pt
/-- and, or of bools as values -/
theorem de_one {op : BoolOp} (h : DE X N W δ μ a r μ1) : DE X N W δ μ (.BoolOp op [a] pos) r μ1 := pe_one h
theorem de_and {rest : List Expr} {k k' : Bool} (h : DE X N W δ μ a (.v (.p (.bl k))) μ1) (h' : k = true → DE X N W δ μ1 (.BoolOp .And (b :: rest) pos) (.v (.p (.bl k'))) μ1) : DE X N W δ μ (.BoolOp .And (a :: b :: rest) pos) (.v (.p (.bl (k && k')))) μ1 := by
  cases k with
  | true => exact PE.imp (pe_and h (h' rfl)) fun σ H Q ⟨F, A, R, q⟩ => ⟨F, A, R, fun v F1 A1 H1 e1 p1 R1 rv => by
      cases rv
      exact ⟨true, rfl, iteT ⟨F1, A1, R1, fun w F2 A2 H2 e2 p2 R2 rw => q w F2 A2 H2 (e1.trans e2) (p1.trans p2) R2 rw⟩⟩⟩
  | false => exact PE.imp (pe_and h pe_no) fun σ H Q ⟨F, A, R, q⟩ => ⟨F, A, R, fun v F1 A1 H1 e1 p1 R1 rv => by
      cases rv
      exact ⟨false, rfl, iteF (q _ F1 A1 H1 e1 p1 R1 (.bl _))⟩⟩
theorem de_or {rest : List Expr} {k k' : Bool} (h : DE X N W δ μ a (.v (.p (.bl k))) μ1) (h' : k = false → DE X N W δ μ1 (.BoolOp .Or (b :: rest) pos) (.v (.p (.bl k'))) μ1) : DE X N W δ μ (.BoolOp .Or (a :: b :: rest) pos) (.v (.p (.bl (k || k')))) μ1 := by
  cases k with
  | false => exact PE.imp (pe_or h (h' rfl)) fun σ H Q ⟨F, A, R, q⟩ => ⟨F, A, R, fun v F1 A1 H1 e1 p1 R1 rv => by
      cases rv
      exact ⟨false, rfl, iteF ⟨F1, A1, R1, fun w F2 A2 H2 e2 p2 R2 rw => q w F2 A2 H2 (e1.trans e2) (p1.trans p2) R2 rw⟩⟩⟩
  | true => exact PE.imp (pe_or h pe_no) fun σ H Q ⟨F, A, R, q⟩ => ⟨F, A, R, fun v F1 A1 H1 e1 p1 R1 rv => by
      cases rv
      exact ⟨true, rfl, iteT (q _ F1 A1 H1 e1 p1 R1 (.bl _))⟩⟩
theorem de_if {k : Bool} (h : DT X N W δ μ c k μ1) (ha : k = true → DE X N W δ μ1 a r μ2) (hb : k = false → DE X N W δ μ1 b r μ2) : DE X N W δ μ (.IfExp c a b pos) r μ2 := by
  cases k with
  | true => exact PE.imp (pe_ifExp h (ha rfl) pe_no) fun σ H Q ⟨F, A, R, q⟩ => ⟨F, A, R, fun F1 A1 H1 e1 p1 R1 => iteT ⟨F1, A1, R1, q.to e1 p1⟩⟩
  | false => exact PE.imp (pe_ifExp h pe_no (hb rfl)) fun σ H Q ⟨F, A, R, q⟩ => ⟨F, A, R, fun F1 A1 H1 e1 p1 R1 => iteF ⟨F1, A1, R1, q.to e1 p1⟩⟩
/-! ### arguments, displays -/
theorem da_nil : DA X N W δ μ [] [] μ := PA.imp pa_nil fun σ H Q ⟨F, A, R, q⟩ => q [] F A H (Same.refl _) (List.prefix_refl _) R .nil
theorem da_cons {es : List Expr} {ss : List S} (h : DE X N W δ μ e (.v s) μ1) (h' : DA X N W δ μ1 es ss μ2) (hs : starEach (e :: es) X.env = (false, eval e X.env) :: starEach es X.env := by rfl) : DA X N W δ μ (e :: es) (s :: ss) μ2 :=
  PA.imp (pa_cons h h' hs) fun σ H Q ⟨F, A, R, q⟩ => ⟨F, A, R, fun v F1 A1 H1 e1 p1 R1 rv => ⟨F1, A1, R1, fun vs F2 A2 H2 e2 p2 R2 rvs => q (v :: vs) F2 A2 H2 (e1.trans e2) (p1.trans p2) R2 (.cons (rv.mono e2 p2) rvs)⟩⟩
def DP (X : Cx) (N : En) (W : WX) (δ : List (Option S)) (μ : List M) (es : List Expr) (ds : List D) (μ' : List M) : Prop := DA X N W δ μ es (ds.map S.p) μ'
theorem dp_nil : DP X N W δ μ [] [] μ := da_nil
theorem dp_cons {es : List Expr} {ds : List D} (h : DE X N W δ μ e (.v (.p d)) μ1) (h' : DP X N W δ μ1 es ds μ2) (hs : starEach (e :: es) X.env = (false, eval e X.env) :: starEach es X.env := by rfl) : DP X N W δ μ (e :: es) (d :: ds) μ2 := da_cons h h' hs
theorem reps_of {K : PySem.W.Frag} {F : Hp} {A : List Addr} : ∀ {vs : List V} {ds : List D}, RepSs K F A vs (ds.map S.p) → Reps K F vs ds
  | _, [], .nil => .nil
  | _, _ :: _, .cons a b => .cons a (reps_of b)
theorem of_reps {K : PySem.W.Frag} {F : Hp} {A : List Addr} : ∀ {vs : List V} {ds : List D}, Reps K F vs ds → RepSs K F A vs (ds.map S.p)
  | _, [], .nil => .nil
  | _, _ :: _, .cons a b => .cons a (of_reps b)
theorem de_tup {es : List Expr} {ds : List D} {x1} (h : DP X N W δ μ es ds μ1) (hl : ds.length ≤ sizeLine := by first | (show _ ≤ sizeLine; decide) | (simp; decide)) : DE X N W δ μ (.Tuple es x1 pos) (.v (.p (.tup ds))) μ1 :=
  PE.imp (pe_tup h) fun σ H Q ⟨F, A, R, q⟩ => ⟨F, A, R, fun vs F1 A1 H1 e1 p1 R1 rv => ⟨by rw [(reps_of rv).length]; exact hl, fun p np => by
    have sm := same_updN (o := .tup vs) (R1.rc.fresh np).2.1
    exact q (.ref p) _ A1 _ (e1.trans sm) p1 (R1.to sm (List.prefix_refl _) (R1.rc.frozen np _)) (.tup (SqT.of upd_same) ((reps_of rv).mono sm))⟩⟩
theorem de_lst {es : List Expr} {ds : List D} (h : DP X N W δ μ es ds μ1) (hl : ds.length ≤ sizeLine := by first | (show _ ≤ sizeLine; decide) | (simp; decide)) : DE X N W δ μ (.List es pos) (.v (.p (.lst ds))) μ1 :=
  PE.imp (pe_lst h) fun σ H Q ⟨F, A, R, q⟩ => ⟨F, A, R, fun vs F1 A1 H1 e1 p1 R1 rv => ⟨by rw [(reps_of rv).length]; exact hl, fun p np => by
    have sm := same_updN (o := .lst vs) (R1.rc.fresh np).2.1
    exact q (.ref p) _ A1 _ (e1.trans sm) p1 (R1.to sm (List.prefix_refl _) (R1.rc.frozen np _)) (.lst upd_same ((reps_of rv).mono sm))⟩⟩
/-- a list that will change -/
theorem de_lstM {es : List Expr} {ds : List D} (h : DP X N W δ μ es ds μ1) (hl : ds.length ≤ sizeLine := by first | (show _ ≤ sizeLine; decide) | (simp; decide)) : DE X N W δ μ (.List es pos) (.v (.l μ1.length)) (μ1 ++ [.lst ds]) :=
  PE.imp (pe_lst h) fun σ H Q ⟨F, A, R, q⟩ => ⟨F, A, R, fun vs F1 A1 H1 e1 p1 R1 rv => ⟨by rw [(reps_of rv).length]; exact hl, fun p np => by
    have pp : A1 <+: A1 ++ [p] := List.prefix_append _ _
    refine q (.ref p) _ (A1 ++ [p]) _ e1 (p1.trans pp) (R1.to (Same.refl _) pp (R1.rc.newM np ⟨vs, upd_same, reps_of rv⟩)) ⟨p, rfl, ?_⟩
    rw [← R1.rc.len]; simp⟩⟩
/-! ### builtins -/
def CallOk (X : Cx) (N : En) (W : WX) (f : Value) (μ : List M) (ss : List S) (r : Rx) (μ' : List M) : Prop :=
  ∃ rr, CallR X f rr ∧ ∀ σ δ F A H vs Q, Rl N F A H σ δ μ → RepSs N.K F A vs ss → EndE N W σ δ F A μ' Q r → rr vs H Q
theorem de_callB {x : Str} {id : String} {p : Pos} {es : List Expr} {ss : List S} (ha : DA X N W δ μ (e :: es) ss μ1) (hc : CallOk X N W (.builtin id) μ1 ss r μ2) (hm : X.mg x = none) (hv : bootBuiltins x = some (.builtin id)) (hg : Gl X x := by rfl) (hn : x ≠ "__name__" := by decide) (hdb : (x == ("__debug__" : Str)) = false := by decide)
    (he : starEach (e :: es) X.env = (false, eval e X.env) :: starEach es X.env := by rfl) (hpl : (backTo pos (starEach es X.env)).any (·.1) = false := by rfl) : DE X N W δ μ (.Call (.Name x p) (e :: es) [] pos) r μ2 := by
  obtain ⟨rr, ho, hr⟩ := hc
  exact PE.imp (pe_callB ho hg hm hv ha hn hdb he hpl) fun σ H Q ⟨F, A, R, k⟩ => ⟨F, A, R, fun vs F1 A1 H1 e1 p1 R1 rv => hr σ δ F1 A1 H1 vs Q R1 rv (k.to e1 p1)⟩
theorem de_callT {x : Str} {T : String} {p : Pos} {es : List Expr} {ss : List S} (ha : DA X N W δ μ (e :: es) ss μ1) (hc : CallOk X N W (.type T) μ1 ss r μ2) (hm : X.mg x = none) (hv : bootBuiltins x = some (.type T)) (hg : Gl X x := by rfl) (hn : x ≠ "__name__" := by decide) (hdb : (x == ("__debug__" : Str)) = false := by decide)
    (he : starEach (e :: es) X.env = (false, eval e X.env) :: starEach es X.env := by rfl) (hpl : (backTo pos (starEach es X.env)).any (·.1) = false := by rfl) : DE X N W δ μ (.Call (.Name x p) (e :: es) [] pos) r μ2 := by
  obtain ⟨rr, ho, hr⟩ := hc
  exact PE.imp (pe_callTy ho hg hm hv ha hn hdb he hpl) fun σ H Q ⟨F, A, R, k⟩ => ⟨F, A, R, fun vs F1 A1 H1 e1 p1 R1 rv => hr σ δ F1 A1 H1 vs Q R1 rv (k.to e1 p1)⟩
/-- a method of a builtin type -/
def MtOk (X : Cx) (N : En) (W : WX) (T : String) (id : String) (μ0 μ : List M) (s : S) (ss : List S) (r : Rx) (μ' : List M) : Prop :=
  ∃ rr, MtR X id rr ∧ (∀ σ δ F A H x, Rl N F A H σ δ μ0 → RepS N.K F A x s → tyV X.K T x H) ∧ ∀ σ δ F A H x vs Q, Rl N F A H σ δ μ → RepS N.K F A x s → RepSs N.K F A vs ss → EndE N W σ δ F A μ' Q r → rr x vs H Q
theorem de_bm {o : Expr} {T id : String} {name : Str} {apos : Pos} {es : List Expr} {ss : List S} (pa : PlainAttrs T) (slot : Slot T name id) (hty : typeOf (.builtin id) = pure (.type "method_descriptor")) (ho : DE X N W δ μ o (.v s) μ1) (ha : DA X N W δ μ1 (e :: es) ss μ2) (h : MtOk X N W T id μ1 μ2 s ss r μ3)
    (hbase : attributeBase o name X.env (eval o X.env) = eval o X.env := by rfl)
    (hfew : ((backTo pos (starEach (e :: es) X.env)).all (fun x => !x.1) && (backToKw pos (keywordEach [] X.env)).all (fun x => x.1.isSome)
      && decide ((e :: es).length + ([] : List Keyword).length + (if ([] : List Keyword).isEmpty then 0 else 1) < 30)) = true := by rfl)
    (hline : (apos.endLine == pos.line) = true := by rfl) (hs : starEach (e :: es) X.env = (false, eval e X.env) :: starEach es X.env := by rfl) (hplain : (backTo pos (starEach es X.env)).any (·.1) = false := by rfl) :
    DE X N W δ μ (.Call (.Attribute o name apos) (e :: es) [] pos) r μ3 := by
  obtain ⟨rr, hm, ht, hr⟩ := h
  exact PE.imp (pe_bm pa slot hty hm ho ha hbase hfew hline hs hplain) fun σ H Q ⟨F, A, R, k⟩ => ⟨F, A, R, fun x F1 A1 H1 e1 p1 R1 rx => ⟨ht σ δ F1 A1 H1 x R1 rx, F1, A1, R1, fun vs F2 A2 H2 e2 p2 R2 rv => hr σ δ F2 A2 H2 x vs Q R2 (rx.mono e2 p2) rv (k.to (e1.trans e2) (p1.trans p2))⟩⟩
theorem de_bm0 {o : Expr} {T id : String} {name : Str} {apos : Pos} (pa : PlainAttrs T) (slot : Slot T name id) (hty : typeOf (.builtin id) = pure (.type "method_descriptor")) (ho : DE X N W δ μ o (.v s) μ1) (h : MtOk X N W T id μ1 μ1 s [] r μ2)
    (hbase : attributeBase o name X.env (eval o X.env) = eval o X.env := by rfl) (hline : (apos.endLine == pos.line) = true := by rfl) :
    DE X N W δ μ (.Call (.Attribute o name apos) [] [] pos) r μ2 := by
  obtain ⟨rr, hm, ht, hr⟩ := h
  exact PE.imp (pe_bm0 pa slot hty hm ho hbase hline) fun σ H Q ⟨F, A, R, k⟩ => ⟨F, A, R, fun x F1 A1 H1 e1 p1 R1 rx => ⟨ht σ δ F1 A1 H1 x R1 rx, hr σ δ F1 A1 H1 x [] Q R1 rx .nil (k.to e1 p1)⟩⟩
/-- a subscript -/
def IxOk (X : Cx) (N : En) (W : WX) (μ : List M) (s1 s2 : S) (r : Rx) (μ' : List M) : Prop :=
  ∃ rr : R2, IxR X rr ∧ ∀ σ δ F A H x y Q, Rl N F A H σ δ μ → RepS N.K F A x s1 → RepS N.K F A y s2 → EndE N W σ δ F A μ' Q r → rr x y H Q
theorem de_ix (ha : DE X N W δ μ a (.v s1) μ1) (hb : DE X N W δ μ1 b (.v s2) μ2) (h : IxOk X N W μ2 s1 s2 r μ3) (hs : PlainIx b := by exact fun _ _ => rfl) : DE X N W δ μ (.Subscript a b pos) r μ3 := by
  obtain ⟨rr, ho, hr⟩ := h
  exact PE.imp (pe_ix ho ha hb hs) fun σ H Q q => two hr q
/-! ### statements -/
theorem Rl.endS {σ : L2.St} {F : Hp} {A : List Addr} {H : Hp} {D : Ends} (k : EndS N W F A D (.nx δ μ)) (R : Rl N F A H σ δ μ) : D.nx σ H := k σ F A H (Same.refl _) (List.prefix_refl _) R
/-- what stands behind a statement -/
def Cont (X : Cx) (N : En) (W : WX) (rest : List Stmt) : Os → Os → Prop
  | .nx δ μ, o => DSs X N W δ μ rest o
  | o1, o => o = o1
theorem cn {rest : List Stmt} {o : Os} (h : DSs X N W δ μ rest o) : Cont X N W rest (.nx δ μ) o := h
theorem cr {rest : List Stmt} : Cont X N W rest (.rt s μ) (.rt s μ) := rfl
theorem cx {rest : List Stmt} {C : Addr} : Cont X N W rest (.xx C d δ μ) (.xx C d δ μ) := rfl
theorem cb {rest : List Stmt} : Cont X N W rest (.bk δ μ) (.bk δ μ) := rfl
theorem cc {rest : List Stmt} : Cont X N W rest (.ct δ μ) (.ct δ μ) := rfl
theorem pss_no {sts : List Stmt} : PSs X sts (fun _ _ _ => False) := ⟨fun _ _ _ _ _ _ h => h.elim⟩
theorem dss_nil : DSs X N W δ μ [] (.nx δ μ) := PSs.imp pss_nil fun K σ H ⟨F, A, R, k⟩ => R.endS k
theorem dss_cons {st : Stmt} {rest : List Stmt} {o1 o : Os} (h : DS X N W δ μ st o1) (h' : Cont X N W rest o1 o) : DSs X N W δ μ (st :: rest) o := by
  cases o1 with
  | nx δ1 μ1 =>
    exact PSs.imp (pss_cons h h') fun K σ H ⟨F, A, R, k⟩ => ⟨F, A, R, fun σ1 F1 A1 H1 e1 p1 R1 => ⟨F1, A1, R1, by
      have k' := k.to e1 p1
      cases o <;> exact k'⟩⟩
  | rt s μ1 =>
    cases h'
    exact PSs.imp (pss_cons h pss_no) fun K σ H ⟨F, A, R, k⟩ => ⟨F, A, R, k⟩
  | xx C d δ1 μ1 =>
    cases h'
    exact PSs.imp (pss_cons h pss_no) fun K σ H ⟨F, A, R, k⟩ => ⟨F, A, R, k⟩
  | bk δ1 μ1 =>
    cases h'
    exact PSs.imp (pss_cons h pss_no) fun K σ H ⟨F, A, R, k⟩ => ⟨F, A, R, k⟩
  | ct δ1 μ1 =>
    cases h'
    exact PSs.imp (pss_cons h pss_no) fun K σ H ⟨F, A, R, k⟩ => ⟨F, A, R, k⟩
theorem ds_expr (h : DE X N W δ μ e (.v s) μ1) (hs : swapsWith e none pos.line X.env = pure false := by rfl) : DS X N W δ μ (.Expr e pos) (.nx δ μ1) :=
  PS.imp (ps_expr h hs) fun K σ H ⟨F, A, R, k⟩ => ⟨F, A, R, fun v F1 A1 H1 e1 p1 R1 rv => k σ F1 A1 H1 e1 p1 R1⟩
theorem ds_ret (h : DE X N W δ μ e (.v s) μ1) : DS X N W δ μ (.Return (some e) pos) (.rt s μ1) :=
  PS.imp (ps_ret h) fun K σ H ⟨F, A, R, k⟩ => ⟨F, A, R, fun v F1 A1 H1 e1 p1 R1 rv => k v F1 A1 H1 e1 p1 R1.rc rv⟩
theorem ds_set (i : Nat) {x : Str} {pos' : Pos} (h : DE X N W δ μ e (.v s) μ1) (hN : X.N.Nodup) (hi : X.N[i]? = some x := by rfl) (hx : Loc X.env.scope x := by first | exact Or.inl rfl | exact Or.inr rfl) (hs : swapsWith e (some (.Name x pos')) pos.line X.env = pure false := by rfl)
    (hf : X.fn x = true ∨ X.env.scope.names.lookup x = some .local := by first | exact .inl rfl | exact .inr rfl) : DS X N W δ μ (.Assign [.Name x pos'] e pos) (.nx (δ.set i (some s)) μ1) :=
  PS.imp (ps_set (i := i) hN hi hx h hs hf) fun K σ H ⟨F, A, R, k⟩ => ⟨F, A, R, fun v F1 A1 H1 e1 p1 R1 rv => k _ F1 A1 H1 e1 p1 (R1.set rv)⟩
theorem ds_pass : DS X N W δ μ (.Pass pos) (.nx δ μ) := PS.imp ps_pass fun K σ H ⟨F, A, R, k⟩ => R.endS k
theorem ds_if {A B : List Stmt} {k : Bool} {o : Os} (h : DT X N W δ μ c k μ1) (ha : k = true → DSs X N W δ μ1 A o) (hb : k = false → DSs X N W δ μ1 B o) : DS X N W δ μ (.If c A B pos) o := by
  cases k with
  | true => exact PS.imp (ps_if h (ha rfl) pss_no) fun K σ H ⟨F, A, R, q⟩ => ⟨F, A, R, fun F1 A1 H1 e1 p1 R1 => iteT ⟨F1, A1, R1, q.to e1 p1⟩⟩
  | false => exact PS.imp (ps_if h pss_no (hb rfl)) fun K σ H ⟨F, A, R, q⟩ => ⟨F, A, R, fun F1 A1 H1 e1 p1 R1 => iteF ⟨F1, A1, R1, q.to e1 p1⟩⟩
/-- an if, and what follows it -/
theorem dss_if {A B rest : List Stmt} {k : Bool} {o oa ob : Os} (h : DT X N W δ μ c k μ1) (ha : k = true → DSs X N W δ μ1 A oa) (hb : k = false → DSs X N W δ μ1 B ob) (ca : k = true → Cont X N W rest oa o) (cb : k = false → Cont X N W rest ob o) : DSs X N W δ μ (.If c A B pos :: rest) o := by
  cases k with
  | true => exact dss_cons (ds_if h (fun _ => ha rfl) nofun) (ca rfl)
  | false => exact dss_cons (ds_if h nofun (fun _ => hb rfl)) (cb rfl)
end
end Dl

set_option Elab.async false
set_option linter.all false
set_option maxRecDepth 100000
set_option maxHeartbeats 4000000
set_option autoImplicit false
namespace Dl
open PySem PySem.Spec PyProof.Rows L2
/-! ## what a def promises -/
abbrev Rel := List S → List M → Rx → List M → Prop
def spD (K : PySem.W.Frag) (R : Rel) : Sp := fun vs H Q E => ∃ (F : Hp) (A : List Addr) (ss : List S) (μ : List M) (r : Rx) (μ' : List M), R ss μ r μ' ∧ Rc ⟨K, H, F, A⟩ F A H μ ∧ RepSs K F A vs ss ∧
  match r with
  | .v s => ∀ v F' A' H', Rc ⟨K, H, F, A⟩ F' A' H' μ' → RepS K F' A' v s → Q v H'
  | .x C d => ∀ dx v F' A' H', Rc ⟨K, H, F, A⟩ F' A' H' μ' → F' dx = some (.xd [("value", v)]) → Rep K F' v d → E (.ref C) (some dx) H'
theorem Rc.entry {N : En} {F : Hp} {A : List Addr} {H : Hp} {μ : List M} (r : Rc N F A H μ) : Rc ⟨N.K, H, F, A⟩ F A H μ :=
  ⟨r.sub, Same.refl _, fun a o e => .inl ⟨o, e⟩, fun _ _ e _ => e, ⟨[], by simp, fun _ h => by cases h⟩, r.nd, r.len, r.mus, r.fr⟩
theorem Rc.back {N : En} {F F' : Hp} {A A' : List Addr} {H H' : Hp} {μ μ' : List M} (r : Rc N F A H μ) (q : Rc ⟨N.K, H, F, A⟩ F' A' H' μ') : Rc N F' A' H' μ' where
  sub := q.sub
  base := r.base.trans q.base
  new := fun a o e => by
    rcases q.new a o e with ⟨o', h⟩ | h
    · exact r.new a o' h
    · exact .inr (r.fresh h).1
  keep := fun a o e hA => by
    refine q.keep a o (r.keep a o e hA) fun hm => ?_
    obtain ⟨B, rfl, hB⟩ := r.pre
    rcases List.mem_append.mp hm with h | h
    · exact hA h
    · rw [hB a h] at e; cases e
  pre := by
    obtain ⟨B, rfl, hB⟩ := r.pre
    obtain ⟨B', e, hB'⟩ := q.pre
    refine ⟨B ++ B', by rw [e]; exact List.append_assoc .., fun b hb => ?_⟩
    rcases List.mem_append.mp hb with h | h
    · exact hB b h
    · exact (r.fresh (hB' b h)).1
  nd := q.nd
  len := q.len
  mus := q.mus
  fr := q.fr
theorem Rc.prefix_ {N : En} {F : Hp} {A : List Addr} {H : Hp} {μ : List M} (r : Rc N F A H μ) : N.A0 <+: A := by
  obtain ⟨B, rfl, _⟩ := r.pre
  exact List.prefix_append _ _
/-- where one stands -/
structure Go (X : Cx) (N : En) (W : WX) (n : Nat) : Prop where
  tk : Takes X W
  calm : X.calm = true
  hK : N.K = X.K
  room : Room n X.A
  po : PassesOwn (model X.prog X.w) X.A X.env X.xe
  nd : X.N.Nodup
/-- a def of the module by its name -/
structure Cf (P : Program) (w : World) (K : PySem.W.Frag) (mg : Str → Option Value) (base : Heap) (k : Nat) (x : Str) (dd : List D) (R : Rel) : Prop where
  ex : ∃ (f : Addr) (fd : FuncData) (ps : List Str) (ds : List Value) (dvs : List V), FnOk P w K mg base (L2.CX P w) k f fd ps (spD K R) ∧ mg x = some (.ref f) ∧ PySem.W.keepIn K (.ref f) = true ∧ Binds K fd ps ds ∧ Vals dvs ds ∧ ∀ F, Reps K F dvs dd
/-- a method -/
structure Cm (P : Program) (w : World) (K : PySem.W.Frag) (mg : Str → Option Value) (base : Heap) (k : Nat) (C : Addr) (x : Str) (dd : List D) (R : Rel) : Prop where
  cls : Cls K C
  ex : ∃ (f : Addr) (fd : FuncData) (ps : List Str) (ds : List Value) (dvs : List V), FnOk P w K mg base (L2.CX P w) k f fd ps (spD K R) ∧ Meth K C x f ∧ Binds K fd ps ds ∧ Vals dvs ds ∧ ∀ F, Reps K F dvs dd
/-- a property -/
structure Cp (P : Program) (w : World) (K : PySem.W.Frag) (mg : Str → Option Value) (base : Heap) (k : Nat) (C : Addr) (x : Str) (R : Rel) : Prop where
  cls : Cls K C
  ex : ∃ (f p : Addr) (fd : FuncData) (ps : List Str), FnOk P w K mg base (L2.CX P w) k f fd ps (spD K R) ∧ PropOf K C x p f ∧ Binds K fd ps []
/-- a class that is made by its __init__ -/
structure Ci (P : Program) (w : World) (K : PySem.W.Frag) (mg : Str → Option Value) (base : Heap) (k : Nat) (C : Addr) (x : Str) (dd : List D) (R : Rel) : Prop where
  at_ : mg x = some (.ref C)
  ex : ∃ (f : Addr) (fd : FuncData) (ps : List Str) (ds : List Value) (dvs : List V), FnOk P w K mg base (L2.CX P w) k f fd ps (spD K R) ∧ Mk K C f ∧ Binds K fd ps ds ∧ Vals dvs ds ∧ ∀ F, Reps K F dvs dd
section
variable {X : Cx} {N : En} {W : WX} {n : Nat} {δ δ' δ1 δ2 : List (Option S)} {μ μ' μ1 μ2 μ3 : List M} {e a b c o : Expr} {es : List Expr} {ss : List S} {pos p apos : Pos} {d : D} {s s1 s2 : S} {r : Rx} {R : Rel} {k : Nat} {x m f : Str} {dd : List D} {C : Addr}
/-- the promise, for the caller -/
theorem spD_in {E : XK} {σ : L2.St} {F : Hp} {A : List Addr} {H : Hp} {vs : List V} {Q : VK} (hR : R ss μ r μ') (Rl0 : Rl N F A H σ δ μ) (rv : RepSs N.K F A vs ss) (k : EndE N (fun cls d _ H => E cls d H) σ δ F A μ' Q r) : spD N.K R vs H Q E := by
  refine ⟨F, A, ss, μ, r, μ', hR, Rl0.rc.entry, rv, ?_⟩
  cases r with
  | v s => exact fun v F' A' H' q rv => k v F' A' H' q.base q.prefix_ (Rl0.to q.base q.prefix_ (Rl0.rc.back q)) rv
  | x C d => exact fun dx v F' A' H' q h1 h2 => k dx v F' A' H' q.base q.prefix_ (Rl0.to q.base q.prefix_ (Rl0.rc.back q)) h1 h2
/-- an error that is raised within an expression: the wish of it, at these slots -/
theorem EndE.wish {σ : L2.St} {F : Hp} {A : List Addr} {Q : VK} (k : EndE N W σ δ F A μ' Q r) : EndE N (fun cls d _ H => W cls d σ H) σ δ F A μ' Q r := by
  cases r with
  | v s => exact k
  | x C d => exact k
theorem call_fnD {pins : List (Addr × Obj)} {σ : L2.St} {H : Hp} {sh : Shared} {F : Hp} {A : List Addr} {Q : VK} {us : List Value} {vs dvs : List V} {ds : List Value} {f : Addr} {fd : FuncData} {ps : List Str} (g : Go X N W n) (hk : k ≤ n)
    (Fo : FnOk X.prog X.w X.K X.mg X.base (L2.CX X.prog X.w) k f fd ps (spD X.K R)) (hb : Binds X.K fd ps ds) (hd : Vals dvs ds) (rd : ∀ F, Reps X.K F dvs dd) (I : Inv X pins σ H sh) (R0 : Rl N F A H σ δ μ) (rv : RepSs N.K F A vs ss) (ru : Vals vs us)
    (hR : R (ss ++ dd.map S.p) μ r μ') (q : EndE N W σ δ F A μ' Q r) : wpAny (model X.prog X.w) X.A (call (.ref f) us) (EP X pins σ Q) X.xe sh := by
  refine run_fnSD (E := WE W) Fo (g.room.mono hk) hb hd (passAt g.tk σ) I ru ?_
  have hK := g.hK
  rw [← hK] at rd ⊢
  exact spD_in hR R0 (rv.append (of_reps (rd F))) q.wish
theorem de_call (g : Go X N W n) (cf : Cf X.prog X.w X.K X.mg X.base k x dd R) (ha : DA X N W δ μ (e :: es) ss μ1) (hR : R (ss ++ dd.map S.p) μ1 r μ2) (hk : k ≤ n := by decide) (hg : Gl X x := by rfl) (hdb : (x == ("__debug__" : Str)) = false := by decide)
    (he : starEach (e :: es) X.env = (false, eval e X.env) :: starEach es X.env := by rfl) (hpl : (backTo pos (starEach es X.env)).any (·.1) = false := by rfl) : DE X N W δ μ (.Call (.Name x p) (e :: es) [] pos) r μ2 := by
  obtain ⟨f, fd, ps, ds, dvs, Fo, hm, hkp, hb, hd, rd⟩ := cf.ex
  refine ⟨fun pins s σ H Q I ⟨F, A, R0, q⟩ => ?_⟩
  refine wpAny_Call_Name_kw (ld_glob I hg hm ?_ hdb)
  refine PySem.W.callWith_K (h₀ := X.base) I.ok.mod.kin hkp (thn (ha.run pos pins s σ H (fun vs H' => ∃ F' A', Same F F' ∧ A <+: A' ∧ Rl N F' A' H' σ δ μ1 ∧ RepSs N.K F' A' vs ss) I ⟨F, A, R0, fun vs F' A' H' h1 h2 h3 h4 => ⟨F', A', h1, h2, h3, h4⟩⟩) fun us s1 ⟨vs, H1, I1, r1, F1, A1, e1, p1, R1, rv⟩ => ⟨I1.kIn, ?_⟩) he hpl
  exact call_fnD g hk Fo hb hd rd I1 R1 rv r1 hR (q.to e1 p1)
theorem de_call0 (g : Go X N W n) (cf : Cf X.prog X.w X.K X.mg X.base k x dd R) (hR : R (dd.map S.p) μ r μ2) (hk : k ≤ n := by decide) (hg : Gl X x := by rfl) (hdb : (x == ("__debug__" : Str)) = false := by decide) : DE X N W δ μ (.Call (.Name x p) [] [] pos) r μ2 := by
  obtain ⟨f, fd, ps, ds, dvs, Fo, hm, hkp, hb, hd, rd⟩ := cf.ex
  refine ⟨fun pins s σ H Q I ⟨F, A, R0, q⟩ => ?_⟩
  refine wpAny_Call_Name_kw (ld_glob I hg hm ?_ hdb)
  exact PySem.W.callWith_K0 I.kIn hkp (call_fnD (us := []) (ss := []) g hk Fo hb hd rd I R0 .nil .nil hR q)
/-! ### instances -/
theorem lookup_none {f : Str} : ∀ {fs : List (Str × V)}, f ∉ fs.map (·.1) → fs.lookup f = none
  | [], _ => rfl
  | (k, v) :: r, h => by
    have h1 : (f == k) = false := beq_eq_false_iff_ne.mpr fun z => h (by rw [z]; exact List.mem_cons_self)
    rw [List.lookup_cons, h1]
    exact lookup_none fun z => h (List.mem_cons_of_mem _ z)
theorem lookup_rep {K : PySem.W.Frag} {F : Hp} {f : Str} : ∀ {fs : List (Str × V)} {ns : List Str} {ds : List D} {d : D}, fs.map (·.1) = ns → Reps K F (fs.map (·.2)) ds → (ns.zip ds).lookup f = some d → ∃ v, fs.lookup f = some v ∧ Rep K F v d
  | [], _, _, _, h, r, e => by
    subst h
    cases r
    cases e
  | (k, v) :: t, ns, ds, d, h, r, e => by
    subst h
    cases r with
    | cons r1 r2 =>
      rw [List.lookup_cons]
      rw [show (List.map (fun x : Str × V => x.1) ((k, v) :: t)).zip (_ :: _) = (k, _) :: (List.map (fun x : Str × V => x.1) t).zip _ from rfl, List.lookup_cons] at e
      cases hb : f == k with
      | true =>
        rw [hb] at e
        cases e
        exact ⟨v, rfl, r1⟩
      | false =>
        rw [hb] at e
        exact lookup_rep rfl r2 e
theorem rep_ins {K : PySem.W.Frag} {F : Hp} {v : V} {C : Addr} {ns : List Str} {ds : List D} (h : Rep K F v (.ins C ns ds)) : ∃ a dx fs, v = .ref a ∧ F a = some (.ins C dx fs) ∧ fs.map (·.1) = ns ∧ Reps K F (fs.map (·.2)) ds := by
  generalize hd : D.ins C ns ds = d at h
  cases h with
  | ins h1 h2 =>
    cases hd
    exact ⟨_, _, _, rfl, h1, rfl, h2⟩
  | _ => cases hd
/-- o.f, a field -/
theorem de_fld {ns : List Str} {ds : List D} (ho : DE X N W δ μ e (.v (.p (.ins C ns ds))) μ1) (g : Go X N W n) (c : Cls X.K C) (nf : NoAttr X.K C f) (hl : (ns.zip ds).lookup f = some d := by rfl) (hb : attributeBase e f X.env (eval e X.env) = eval e X.env := by rfl) : DE X N W δ μ (.Attribute e f pos) (.v (.p d)) μ1 :=
  PE.imp (pe_fld ho hb) fun σ H Q ⟨F, A, R, q⟩ => ⟨F, A, R, fun v F1 A1 H1 e1 p1 R1 rv => by
    obtain ⟨a, dx, fs, rfl, h1, h2, h3⟩ := rep_ins rv
    obtain ⟨w, h4, h5⟩ := lookup_rep h2 h3 hl
    exact ⟨a, C, dx, fs, w, rfl, R1.rc.sub _ _ h1, c, nf, h4, q w F1 A1 H1 e1 p1 R1 h5⟩⟩
/-- .. of an object that is being made or changed -/
theorem de_fldM {j : Nat} {ns : List Str} {ds : List D} (ho : DE X N W δ μ e (.v (.l j)) μ1) (g : Go X N W n) (c : Cls X.K C) (nf : NoAttr X.K C f) (hm : μ1[j]? = some (.obj C ns ds)) (hl : (ns.zip ds).lookup f = some d := by rfl) (hb : attributeBase e f X.env (eval e X.env) = eval e X.env := by rfl) : DE X N W δ μ (.Attribute e f pos) (.v (.p d)) μ1 :=
  PE.imp (pe_fld ho hb) fun σ H Q ⟨F, A, R, q⟩ => ⟨F, A, R, fun v F1 A1 H1 e1 p1 R1 rv => by
    obtain ⟨a, rfl, ha⟩ := rv
    obtain ⟨dx, fs, h1, h2, h3⟩ := R1.rc.mus j a _ ha hm
    obtain ⟨w, h4, h5⟩ := lookup_rep h2 h3 hl
    exact ⟨a, C, dx, fs, w, rfl, h1, c, nf, h4, q w F1 A1 H1 e1 p1 R1 h5⟩⟩
/-- o.m(e, ..) -/
theorem de_meth {ns : List Str} {ds' : List D} {pl : Sem Bool} (g : Go X N W n) (cm : Cm X.prog X.w X.K X.mg X.base k C m dd R) (ho : DE X N W δ μ o (.v (.p (.ins C ns ds'))) μ1) (ha : DA X N W δ μ1 (e :: es) ss μ2) (hR : R (.p (.ins C ns ds') :: (ss ++ dd.map S.p)) μ2 r μ3)
    (hk : k ≤ n := by decide) (hm : m ∉ ns := by decide) (hst : starEach (e :: es) X.env = (false, eval e X.env) :: starEach es X.env := by rfl) (hpl : (backTo pos (starEach es X.env)).any (·.1) = false := by rfl)
    (ht : eval (.Call (.Attribute o m apos) (e :: es) [] pos) X.env = (do
      let ov ← eval o X.env
      standAt apos.atName
      let (f, first) ← holding [ov] (getMethod ov m pl)
      callWith pos f first (backTo pos (starEach (e :: es) X.env)) (backToKw pos (keywordEach [] X.env))) := by rfl) : DE X N W δ μ (.Call (.Attribute o m apos) (e :: es) [] pos) r μ3 := by
  obtain ⟨f, fd, ps, ds, dvs, Fo, hme, hb, hd, rd⟩ := cm.ex
  refine ⟨fun pins s σ H Q I ⟨F, A, R0, q⟩ => ?_⟩
  refine PySem.W.methodCall_KW (pl := pl) (thn (ho.run pins s σ H (fun v H' => ∃ F' A', Same F F' ∧ A <+: A' ∧ Rl N F' A' H' σ δ μ1 ∧ RepS N.K F' A' v (.p (.ins C ns ds'))) I ⟨F, A, R0, fun v F' A' H' h1 h2 h3 h4 => ⟨F', A', h1, h2, h3, h4⟩⟩) fun u s1 ⟨v, H1, I1, r1, F1, A1, e1, p1, R1, rv⟩ => ?_) ht
  obtain ⟨a, dx, fs, rfl, h1, h2, h3⟩ := rep_ins rv
  obtain rfl : u = Value.ref a := r1
  refine getmeth_ok I1 (R1.rc.sub _ _ h1) cm.cls hme (lookup_none (by rw [h2]; exact hm)) ?_
  refine PySem.W.callWith_K (first := [.ref a]) (h₀ := X.base) I.ok.mod.kin hme.kp (thn (ha.run pos pins s1 σ H1 (fun vs H' => ∃ F' A', Same F1 F' ∧ A1 <+: A' ∧ Rl N F' A' H' σ δ μ2 ∧ RepSs N.K F' A' vs ss) I1 ⟨F1, A1, R1, fun vs F' A' H' h1 h2 h3 h4 => ⟨F', A', h1, h2, h3, h4⟩⟩) fun us s2 ⟨vs, H2, I2, r2, F2, A2, e2, p2, R2, rvs⟩ => ⟨I2.kIn, ?_⟩) hst hpl
  exact call_fnD (us := .ref a :: us) (vs := .ref a :: vs) (ss := .p (.ins C ns ds') :: ss) g hk Fo hb hd rd I2 R2 (.cons (RepS.mono (s := .p (.ins C ns ds')) e2 p2 rv) rvs) (.cons rfl r2) hR (q.to (e1.trans e2) (p1.trans p2))
theorem de_meth0 {ns : List Str} {ds' : List D} {pl : Sem Bool} (g : Go X N W n) (cm : Cm X.prog X.w X.K X.mg X.base k C m dd R) (ho : DE X N W δ μ o (.v (.p (.ins C ns ds'))) μ1) (hR : R (.p (.ins C ns ds') :: dd.map S.p) μ1 r μ3)
    (hk : k ≤ n := by decide) (hm : m ∉ ns := by decide)
    (ht : eval (.Call (.Attribute o m apos) [] [] pos) X.env = (do
      let ov ← eval o X.env
      standAt apos.atName
      let (f, first) ← holding [ov] (getMethod ov m pl)
      callWith pos f first (backTo pos (starEach [] X.env)) (backToKw pos (keywordEach [] X.env))) := by rfl) : DE X N W δ μ (.Call (.Attribute o m apos) [] [] pos) r μ3 := by
  obtain ⟨f, fd, ps, ds, dvs, Fo, hme, hb, hd, rd⟩ := cm.ex
  refine ⟨fun pins s σ H Q I ⟨F, A, R0, q⟩ => ?_⟩
  refine PySem.W.methodCall_KW (pl := pl) (thn (ho.run pins s σ H (fun v H' => ∃ F' A', Same F F' ∧ A <+: A' ∧ Rl N F' A' H' σ δ μ1 ∧ RepS N.K F' A' v (.p (.ins C ns ds'))) I ⟨F, A, R0, fun v F' A' H' h1 h2 h3 h4 => ⟨F', A', h1, h2, h3, h4⟩⟩) fun u s1 ⟨v, H1, I1, r1, F1, A1, e1, p1, R1, rv⟩ => ?_) ht
  obtain ⟨a, dx, fs, rfl, h1, h2, h3⟩ := rep_ins rv
  obtain rfl : u = Value.ref a := r1
  refine getmeth_ok I1 (R1.rc.sub _ _ h1) cm.cls hme (lookup_none (by rw [h2]; exact hm)) ?_
  exact PySem.W.callWith_K0 (first := [.ref a]) I1.kIn hme.kp (call_fnD (us := [.ref a]) (vs := [.ref a]) (ss := [.p (.ins C ns ds')]) g hk Fo hb hd rd I1 R1 (.cons rv .nil) (.cons rfl .nil) hR (q.to e1 p1))
/-- o.f, a property -/
theorem de_prop {ns : List Str} {ds' : List D} (g : Go X N W n) (cp : Cp X.prog X.w X.K X.mg X.base k C f R) (ho : DE X N W δ μ e (.v (.p (.ins C ns ds'))) μ1) (hR : R [.p (.ins C ns ds')] μ1 (.v s) μ2) (hk : k + 1 ≤ n := by decide)
    (hab : attributeBase e f X.env (eval e X.env) = eval e X.env := by rfl) : DE X N W δ μ (.Attribute e f pos) (.v s) μ2 := by
  obtain ⟨fa, p, fd, ps, Fo, hp, hb⟩ := cp.ex
  have hx : Passes (L2.CX X.prog X.w) X.nox (fun _ _ _ => False) := fun _ _ _ _ _ _ _ c => by
    obtain ⟨_, _, _, _, _, _, _, _, _, _, _, _, z⟩ := c
    exact z
  refine PE.imp (pe_prop ho cp.cls hp Fo (g.room.mono hk) hb .nil hx hab) fun σ H Q ⟨F, A, R0, q⟩ => ⟨F, A, R0, fun v F1 A1 H1 e1 p1 R1 rv => ?_⟩
  have rv' : Rep N.K F1 v (.ins C ns ds') := rv
  obtain ⟨a, dx, fs, rfl, h1, h2, h3⟩ := rep_ins rv'
  refine ⟨a, dx, fs, rfl, R1.rc.sub _ _ h1, ?_⟩
  have hK := g.hK
  rw [← hK]
  exact spD_in (r := .v s) (δ := δ) (σ := σ) (vs := [.ref a]) hR R1 (.cons rv' .nil) (fun v F' A' H' e' p' R' rv' => q v F' A' H' (e1.trans e') (p1.trans p') R' rv')
theorem take_pre {α : Type} {A A' : List α} (p : A <+: A') : A'.take A.length = A := by
  obtain ⟨B, rfl⟩ := p
  rw [List.take_left]
/-- what __init__ wants at a new instance -/
def MkEnd (N : En) (H1 F : Hp) (A : List Addr) (μ0 : List M) (Q : VK) (E : XK) : Rx → Prop
  | .v s => ∀ v F' A' H', Rc ⟨N.K, H1, F, A⟩ F' A' H' μ0 → RepS N.K F' A' v s → Q v H'
  | .x C2 d => ∀ dx' v F' A' H', Rc ⟨N.K, H1, F, A⟩ F' A' H' μ0 → F' dx' = some (.xd [("value", v)]) → Rep N.K F' v d → E (.ref C2) (some dx') H'
theorem make_in {E : XK} {σ : L2.St} {F : Hp} {A : List Addr} {H : Hp} {vs : List V} {Q : VK} {μ0 : List M} (R0 : Rl N F A H σ δ μ) (rv : RepSs N.K F A vs ss) (hR : R (.l μ.length :: ss) (μ ++ [.obj C [] []]) r μ0)
    {x dx : Addr} (nx : H x = none) (ndx : H dx = none) (ne : dx ≠ x) (k : MkEnd N (upd (upd H dx (.own x)) x (.ins C dx [])) F (A ++ [x]) μ0 Q E r) :
    spD N.K R (.ref x :: vs) (upd (upd H dx (.own x)) x (.ins C dx [])) Q E := by
  have r1 := R0.rc.junk ndx (.own x)
  have nx1 : (upd H dx (.own x)) x = none := by rw [upd_ne (Ne.symm ne)]; exact nx
  have r2 := r1.newM (m := .obj C [] []) nx1 (o := .ins C dx []) ⟨dx, [], upd_same, rfl, .nil⟩
  have pp : A <+: A ++ [x] := List.prefix_append _ _
  refine ⟨F, A ++ [x], .l μ.length :: ss, μ ++ [.obj C [] []], r, μ0, hR, r2.entry, .cons ⟨x, rfl, ?_⟩ (rv.mono (Same.refl _) pp), ?_⟩
  · rw [← R0.rc.len]; simp
  · cases r with
    | v s => exact k
    | x C2 d => exact k
/-- behind it: the new instance is let go -/
theorem made_back {σ : L2.St} {F F' : Hp} {A A' : List Addr} {H H' : Hp} {μ0 : List M} (R0 : Rl N F A H σ δ μ) {x dx : Addr} (nx : H x = none) (ndx : H dx = none) (ne : dx ≠ x) (q : Rc ⟨N.K, upd (upd H dx (.own x)) x (.ins C dx []), F, A ++ [x]⟩ F' A' H' μ0) :
    Rc N F' (A'.take μ.length) H' (μ0.take μ.length) ∧ A <+: A'.take μ.length ∧ A'[μ.length]? = some x ∧ Rc N F' A' H' μ0 := by
  have r1 := R0.rc.junk ndx (.own x)
  have nx1 : (upd H dx (.own x)) x = none := by rw [upd_ne (Ne.symm ne)]; exact nx
  have r2 := r1.newM (m := .obj C [] []) nx1 (o := .ins C dx []) ⟨dx, [], upd_same, rfl, .nil⟩
  have hb := r2.back q
  have pp := q.prefix_
  have hl : μ.length = A.length := R0.rc.len.symm
  have hA : N.A0.length ≤ μ.length := by
    rw [hl]
    obtain ⟨B, e, _⟩ := R0.rc.pre
    rw [e]; simp
  refine ⟨hb.trim hA, ?_, ?_, hb⟩
  · rw [hl]
    obtain ⟨B, rfl⟩ := pp
    rw [show A ++ [x] ++ B = A ++ ([x] ++ B) from List.append_assoc .., List.take_left]
    exact List.prefix_refl _
  · rw [hl]
    exact getElem?_pre pp (by simp)
/-- C(e, ..) -/
theorem de_make {ns : List Str} {ds' : List D} {μ0 : List M} (g : Go X N W n) (ci : Ci X.prog X.w X.K X.mg X.base k C x dd R) (ha : DA X N W δ μ (e :: es) ss μ1) (hR : R (.l μ1.length :: (ss ++ dd.map S.p)) (μ1 ++ [.obj C [] []]) (.v (.p .non)) μ0) (h0 : μ0[μ1.length]? = some (.obj C ns ds')) (ht : μ2 = μ0.take μ1.length)
    (hk : k + 1 ≤ n := by decide) (hg : Gl X x := by rfl) (hdb : (x == ("__debug__" : Str)) = false := by decide)
    (he : starEach (e :: es) X.env = (false, eval e X.env) :: starEach es X.env := by rfl) (hpl : (backTo pos (starEach es X.env)).any (·.1) = false := by rfl) : DE X N W δ μ (.Call (.Name x p) (e :: es) [] pos) (.v (.p (.ins C ns ds'))) μ2 := by
  subst ht
  obtain ⟨f, fd, ps, ds, dvs, Fo, Mk, hb, hd, rd⟩ := ci.ex
  have hx : Passes (L2.CX X.prog X.w) X (fun _ _ _ => False) := fun _ _ _ _ _ _ _ c => by
    obtain ⟨_, _, _, _, _, _, _, _, _, _, _, _, z⟩ := c
    exact z.elim
  refine PE.imp (pe_make Mk Fo (g.room.mono hk) hg ci.at_ hb hd hx ha hdb he hpl) fun σ H Q ⟨F, A, R0, q⟩ => ⟨F, A, R0, fun vs F1 A1 H1 e1 p1 R1 rv x dx nx ndx ne => ?_⟩
  have hK := g.hK
  rw [← hK] at rd ⊢
  refine make_in (r := .v (.p .non)) R1 (rv.append (of_reps (rd F1))) hR nx ndx ne fun v F' A' H' hq rn => ?_
  have rn' : Rep N.K F' v .non := rn
  refine ⟨by cases rn'; rfl, ?_⟩
  obtain ⟨b1, b2, b3, b4⟩ := made_back R1 nx ndx ne hq
  obtain ⟨dx', fs, h1, h2, h3⟩ := b4.mus _ _ _ b3 h0
  have hA : N.A0.length ≤ μ1.length := by
    rw [← R1.rc.len]
    obtain ⟨B, e, _⟩ := R1.rc.pre
    rw [e]; simp
  obtain ⟨b5, b6⟩ := b4.freeze b3 h0 trivial hA h1
  have b7 := b5.trim hA
  rw [show (μ0.set μ1.length M.gone).take μ1.length = μ0.take μ1.length from by rw [List.take_set_of_le (Nat.le_refl _)]] at b7
  have sm : Same F1 (upd F' x (.ins C dx' fs)) := hq.base.trans b6
  refine q (.ref x) _ _ H' (e1.trans sm) (p1.trans b2) (R1.to sm b2 b7) ?_
  have := Rep.ins (K := N.K) (C := C) (fs := fs) (ds := ds') (F := upd F' x (.ins C dx' fs)) upd_same (h3.mono b6)
  rw [h2] at this
  exact this
/-- C(e, ..) raises -/
theorem de_makeX {C' : Addr} {μ0 : List M} (g : Go X N W n) (ci : Ci X.prog X.w X.K X.mg X.base k C x dd R) (ha : DA X N W δ μ (e :: es) ss μ1) (hR : R (.l μ1.length :: (ss ++ dd.map S.p)) (μ1 ++ [.obj C [] []]) (.x C' d) μ0) (ht : μ2 = μ0.take μ1.length)
    (hk : k + 1 ≤ n := by decide) (hg : Gl X x := by rfl) (hdb : (x == ("__debug__" : Str)) = false := by decide)
    (he : starEach (e :: es) X.env = (false, eval e X.env) :: starEach es X.env := by rfl) (hpl : (backTo pos (starEach es X.env)).any (·.1) = false := by rfl) : DE X N W δ μ (.Call (.Name x p) (e :: es) [] pos) (.x C' d) μ2 := by
  subst ht
  obtain ⟨f, fd, ps, ds, dvs, Fo, Mk, hb, hd, rd⟩ := ci.ex
  refine ⟨fun pins s σ H Q I ⟨F, A, R0, q⟩ => ?_⟩
  refine wpAny_Call_Name_kw (ld_glob I hg ci.at_ ?_ hdb)
  refine PySem.W.callWith_K (h₀ := X.base) I.ok.mod.kin Mk.kp (thn (ha.run pos pins s σ H (fun vs H' => ∃ F' A', Same F F' ∧ A <+: A' ∧ Rl N F' A' H' σ δ μ1 ∧ RepSs N.K F' A' vs ss) I ⟨F, A, R0, fun vs F' A' H' h1 h2 h3 h4 => ⟨F', A', h1, h2, h3, h4⟩⟩) fun us s1 ⟨vs, H1, I1, r1, F1, A1, e1, p1, R1, rv⟩ => ⟨I1.kIn, ?_⟩) he hpl
  have nx : H1 (s1.heap.objs.size + 1) = none := I1.hok.fresh (Nat.le_succ _)
  have ndx : H1 s1.heap.objs.size = none := I1.hok.fresh (Nat.le_refl _)
  have ne : s1.heap.objs.size ≠ s1.heap.objs.size + 1 := Nat.ne_of_lt (Nat.lt_succ_self _)
  have hK := g.hK
  have hq : spD X.K R (V.ref (s1.heap.objs.size + 1) :: (vs ++ dvs)) (upd (upd H1 s1.heap.objs.size (.own (s1.heap.objs.size + 1))) (s1.heap.objs.size + 1) (.ins C s1.heap.objs.size [])) (fun _ _ => False) (WE W σ) := by
    rw [← hK] at rd ⊢
    refine make_in (r := .x C' d) R1 (rv.append (of_reps (rd F1))) hR nx ndx ne fun dx' v F' A' H' hq h1 h2 => ?_
    obtain ⟨b1, b2, b3, b4⟩ := made_back R1 nx ndx ne hq
    exact q dx' v F' _ H' (e1.trans hq.base) (p1.trans b2) (R1.to hq.base b2 b1) h1 h2
  have I2 := Inv.made (C := C) I1
  have r2 : Vals (V.ref (s1.heap.objs.size + 1) :: (vs ++ dvs)) (Value.ref (s1.heap.objs.size + 1) :: (us ++ ds)) := .cons rfl (r1.append hd)
  have hl : (Value.ref (s1.heap.objs.size + 1) :: us ++ ds).length = ps.length := by
    have e := r2.length
    rw [Fo.len _ _ _ _ hq] at e
    exact e.symm
  refine wpAny_call (make_map (f := f) I1.kIn Mk.makes Mk.init (beq_iff_eq.mp Mk.fn) (codeAny_mono (Fo.run _ X.stack _ _ ⟨Value.ref (s1.heap.objs.size + 1) :: us, []⟩ (Value.ref (s1.heap.objs.size + 1) :: (us ++ ds)) _ _ (WE W σ) ((g.room.mono hk).make C us [])
    (I2.env0.make C us []) (hb _ (Value.ref (s1.heap.objs.size + 1) :: us) I2.kIn hl) r2 hq) fun r s' hq' => ?_))
  cases r with
  | error e => exact passAt g.tk σ pins _ _ e s' I2 hq'
  | ok fl =>
    cases fl with
    | ret u =>
      obtain ⟨_, _, _, _, _, _, _, z⟩ := hq'
      exact z.elim
    | next => exact False.elim hq'
    | brk => exact False.elim hq'
    | cont => exact False.elim hq'
/-- o.f = e, a new attribute of what is being made -/
theorem putF_new {f : Str} {v : V} : ∀ {fs : List (Str × V)}, f ∉ fs.map (·.1) → putF f v fs = fs ++ [(f, v)]
  | [], _ => rfl
  | (k, w) :: r, h => by
    have h1 : k ≠ f := fun z => h (by rw [← z]; exact List.mem_cons_self)
    rw [show putF f v ((k, w) :: r) = (if k = f then (k, v) :: r else (k, w) :: putF f v r) from rfl, if_neg h1, putF_new fun z => h (List.mem_cons_of_mem _ z)]
    rfl
theorem Reps.snoc {K : PySem.W.Frag} {F : Hp} {vs : List V} {ds : List D} {v : V} {d : D} (h : Reps K F vs ds) (r : Rep K F v d) : Reps K F (vs ++ [v]) (ds ++ [d]) := h.append (.cons r .nil)
theorem ds_fldNew {pos' : Pos} {j : Nat} {ns : List Str} {ds : List D} (hv : DE X N W δ μ e (.v (.p d)) μ1) (ho : DE X N W δ μ1 o (.v (.l j)) μ2) (c : Cls X.K C) (nf : NoAttr X.K C f) (hm : μ2[j]? = some (.obj C ns ds)) (hn : f ∉ ns := by decide) (hl : ns.length < 900 := by decide)
    (hs : swapsWith e (some (.Attribute o f pos')) pos.line X.env = pure false := by rfl) : DS X N W δ μ (.Assign [.Attribute o f pos'] e pos) (.nx δ (μ2.set j (.obj C (ns ++ [f]) (ds ++ [d])))) :=
  PS.imp (ps_fld ho hv hs) fun K σ H ⟨F, A, R0, q⟩ => ⟨F, A, R0, fun v F1 A1 H1 e1 p1 R1 rv => ⟨F1, A1, R1, fun x F2 A2 H2 e2 p2 R2 rx => by
    obtain ⟨a, rfl, ha⟩ := rx
    have rv2 : Rep N.K F2 v d := Rep.mono e2 rv
    obtain ⟨dx, fs, h1, h2, h3⟩ := R2.rc.mus j a _ ha hm
    subst h2
    refine ⟨a, C, dx, fs, rfl, h1, c, nf, by rw [List.length_map] at hl; omega, ?_⟩
    rw [putF_new hn]
    refine q σ F2 A2 _ (e1.trans e2) (p1.trans p2) (R2.to (Same.refl _) (List.prefix_refl _) (R2.rc.write ha hm trivial ⟨dx, fs ++ [(f, v)], upd_same, by simp, ?_⟩))
    rw [List.map_append]
    exact h3.snoc rv2⟩⟩
end
/-! ## a def by its body -/
def starts (Nn : List Str) (ss : List S) : List (Option S) := ss.map some ++ List.replicate (Nn.length - ss.length) none
inductive Fit (n0 : Nat) : Os → Rx → List M → Prop
  | rt {s μ} : Fit n0 (.rt s μ) (.v s) μ
  | rtT {d μ n} : n0 ≤ n → Fit n0 (.rt (.p d) μ) (.v (.p d)) (μ.take n)
  | nx {δ μ} : Fit n0 (.nx δ μ) (.v (.p .non)) μ
  | nxT {δ μ n} : n0 ≤ n → Fit n0 (.nx δ μ) (.v (.p .non)) (μ.take n)
  | xx {C d δ μ} : Fit n0 (.xx C d δ μ) (.x C d) μ
  | xxT {C d δ μ n} : n0 ≤ n → Fit n0 (.xx C d δ μ) (.x C d) (μ.take n)
theorem start_slots {N : En} {F : Hp} {A : List Addr} {vs : List V} {ss : List S} (Nn : List Str) (r : RepSs N.K F A vs ss) : (starts Nn ss).length = (L2.start Nn vs).length ∧ ∀ (i : Nat) (s : S), (starts Nn ss)[i]? = some (some s) → ∃ v, (L2.start Nn vs)[i]? = some (some v) ∧ RepS N.K F A v s := by
  have hl := r.length
  refine ⟨by simp [starts, L2.start, hl], fun i s h => ?_⟩
  unfold starts at h
  by_cases hi : i < ss.length
  · rw [List.getElem?_append_left (by simpa using hi), List.getElem?_map] at h
    have key : ∀ {vs : List V} {ss : List S}, RepSs N.K F A vs ss → ∀ (i : Nat) (s : S), (ss[i]?).map some = some (some s) → ∃ v, vs[i]? = some v ∧ RepS N.K F A v s := by
      intro vs ss r
      induction r with
      | nil => intro i s e; simp at e
      | cons a b ih =>
        intro i s e
        cases i with
        | zero => simp at e; subst e; exact ⟨_, rfl, a⟩
        | succ i =>
          obtain ⟨v, h1, h2⟩ := ih i s (by simpa using e)
          exact ⟨v, by simpa using h1, h2⟩
    obtain ⟨v, h1, h2⟩ := key r i s h
    refine ⟨v, ?_, h2⟩
    unfold L2.start
    have hv : i < (vs.map some).length := by simpa [hl] using hi
    rw [List.getElem?_append_left hv, List.getElem?_map, h1]
    rfl
  · rw [List.getElem?_append_right (by simpa using hi), List.getElem?_replicate] at h
    split at h <;> cases h
theorem fn_D {P : Program} {w : World} {K : PySem.W.Frag} {mg : Str → Option Value} {base : Heap} {x qual : Str} {st : Stmt} {f : Addr} {fd : FuncData} {Nn ps : List Str} {k : Nat} {R : Rel} (F : Fun K x qual st f fd) (Sc : FnScope Nn ps (defScope st)) (hlen : ∀ ss μ r μ', R ss μ r μ' → ss.length = ps.length)
    (body : ∀ (cdv : Value) (A : Around) (outer : List Env) (s : Shared) (H : Hp) (E : XK) (N : En) (W : WX) (ss : List S) (μ : List M) (r : Rx) (μ' : List M), Go (cxOf (L2.CX P w) P w K mg base Nn qual (defScope st) f cdv A outer s H E) N W k → N.A0.length = μ.length → R ss μ r μ' →
      ∃ o, DSs (cxOf (L2.CX P w) P w K mg base Nn qual (defScope st) f cdv A outer s H E) N W (starts Nn ss) μ (defBody st) o ∧ Fit μ.length o r μ') :
    FnOk P w K mg base (L2.CX P w) (k + 1) f fd ps (spD K R) := by
  refine F.okX Sc (fun vs H Q E h => ?_) (fun cdv A outer s H vs Q E hr h => ?_)
  · obtain ⟨F0, A0, ss, μ, r, μ', hR, _, rv, _⟩ := h
    rw [rv.length]
    exact hlen _ _ _ _ hR
  · obtain ⟨F0, A0, ss, μ, r, μ', hR, rc, rv, hq⟩ := h
    have g : Go (cxOf (L2.CX P w) P w K mg base Nn qual (defScope st) f cdv A outer s H E) ⟨K, H, F0, A0⟩ (fun cls d _ H => E cls d H) k :=
      ⟨takes_of rfl rfl rfl rfl, rfl, rfl, hr, passes_of rfl, Sc.nd⟩
    have h0 : A0.length = μ.length := rc.len
    obtain ⟨o, hd, fit⟩ := body cdv A outer s H E ⟨K, H, F0, A0⟩ _ ss μ r μ' g h0 hR
    refine ⟨_, hd, F0, A0, ⟨rc, (start_slots (N := ⟨K, H, F0, A0⟩) Nn rv).1, (start_slots (N := ⟨K, H, F0, A0⟩) Nn rv).2⟩, ?_⟩
    · cases fit with
      | rt => exact fun v F' A' H' e p rc' rv' => hq v F' A' H' rc' rv'
      | rtT hn => exact fun v F' A' H' e p rc' rv' => hq v F' _ H' (rc'.trim (by show A0.length ≤ _; omega)) rv'
      | nx => exact fun σ' F' A' H' e p R' => hq .non F' A' H' R'.rc .non
      | nxT hn => exact fun σ' F' A' H' e p R' => hq .non F' _ H' (R'.rc.trim (by show A0.length ≤ _; omega)) .non
      | xx => exact fun σ' dx v F' A' H' e p R' h1 h2 => hq dx v F' A' H' R'.rc h1 h2
      | xxT hn => exact fun σ' dx v F' A' H' e p R' h1 h2 => hq dx v F' _ H' (R'.rc.trim (by show A0.length ≤ _; omega)) h1 h2
end Dl

set_option Elab.async false
set_option linter.all false
set_option maxRecDepth 100000
set_option maxHeartbeats 4000000
set_option autoImplicit false
namespace Dl
open PySem PySem.Spec PyProof.Rows L2
/-! ## what is walked -/
/-- an item comes: as it stands, or in a new tuple -/
def ItemAt (K : PySem.W.Frag) (F H : Hp) (x : V) (H' : Hp) (d : D) : Prop :=
  (H' = H ∧ Rep K F x d) ∨ ∃ T vs es, x = .ref T ∧ H T = none ∧ H' = upd H T (.tup vs) ∧ d = .tup es ∧ Reps K F vs es
abbrev Yl (K : PySem.W.Frag) (J : It) (F : Hp) (ds : List D) : Prop := Walk J ds.length (fun H => Same F H) (fun i H x H' => ∃ d, ds[i]? = some d ∧ ItemAt K F H x H' d)
theorem Yl.mono {K : PySem.W.Frag} {J : It} {F F' : Hp} {ds : List D} (y : Yl K J F ds) (e : Same F F') : Yl K J F' ds :=
  Walk.mono y (fun H h => e.trans h) fun i H x H' _ _ ⟨d, h1, h2⟩ => ⟨d, h1, by
    rcases h2 with ⟨a, b⟩ | ⟨T, vs, es, a, b, c, d, r⟩
    · exact .inl ⟨a, b.mono e⟩
    · exact .inr ⟨T, vs, es, a, b, c, d, r.mono e⟩⟩
/-- behind an item -/
theorem Rl.item {N : En} {F : Hp} {A : List Addr} {H H' : Hp} {σ : L2.St} {δ : List (Option S)} {μ : List M} {x : V} {d : D} (R : Rl N F A H σ δ μ) (h : ItemAt N.K F H x H' d) : ∃ F', Same F F' ∧ Rl N F' A H' σ δ μ ∧ Rep N.K F' x d := by
  rcases h with ⟨rfl, r⟩ | ⟨T, vs, es, rfl, nT, rfl, rfl, r⟩
  · exact ⟨F, Same.refl _, R, r⟩
  · have sm := same_updN (o := .tup vs) (R.rc.fresh nT).2.1
    exact ⟨_, sm, R.to sm (List.prefix_refl _) (R.rc.frozen nT _), .tup (SqT.of upd_same) (r.mono sm)⟩
def tI (N : En) (W : WX) (δ : List (Option S)) (μ : List M) (ds : List D) (μ' : List M) : TI := fun σ H Rk => ∃ F A, Rl N F A H σ δ μ ∧ ∀ J F' A' H', Same F F' → A <+: A' → Rl N F' A' H' σ δ μ' → Yl N.K J F' ds → Rk J H'
def DI (X : Cx) (N : En) (W : WX) (δ : List (Option S)) (μ : List M) (tg iter : Expr) (ds : List D) (μ' : List M) : Prop := PI X tg iter (tI N W δ μ ds μ')
theorem PI.imp {X : Cx} {tg iter : Expr} {t t' : TI} (h : PI X tg iter t) (w : ∀ σ H Q, t' σ H Q → t σ H Q) : PI X tg iter t' := ⟨fun p s σ H Q I q => h.run p s σ H Q I (w σ H Q q)⟩
theorem rep_lst {K : PySem.W.Frag} {F : Hp} {v : V} {ds : List D} (h : Rep K F v (.lst ds)) : ∃ a vs, v = .ref a ∧ F a = some (.lst vs) ∧ Reps K F vs ds := by
  generalize hd : D.lst ds = d at h
  cases h with
  | lst h1 h2 => cases hd; exact ⟨_, _, rfl, h1, h2⟩
  | _ => cases hd
theorem rep_tup {K : PySem.W.Frag} {F : Hp} {v : V} {ds : List D} (h : Rep K F v (.tup ds)) : ∃ a vs, v = .ref a ∧ SqT K F a vs ∧ Reps K F vs ds := by
  generalize hd : D.tup ds = d at h
  cases h with
  | tup h1 h2 => cases hd; exact ⟨_, _, rfl, h1, h2⟩
  | _ => cases hd
theorem rep_exc {K : PySem.W.Frag} {F : Hp} {v : V} {C : Addr} {d : D} (h : Rep K F v (.exc C d)) : ∃ a dx w, v = .ref a ∧ F a = some (ExO C dx a) ∧ F dx = some (.xd [("value", w)]) ∧ Rep K F w d := by
  generalize hd : D.exc C d = d' at h
  cases h with
  | exc h1 h2 h3 => cases hd; exact ⟨_, _, _, rfl, h1, h2, h3⟩
  | _ => cases hd
/-- what a datum does to the slots -/
abbrev As := D → List (Option S) → Option (List (Option S))
inductive Loop (X : Cx) (N : En) (W : WX) (f : As) (body : List Stmt) : List D → List (Option S) → List M → Os → Prop
  | nil {δ μ} : Loop X N W f body [] δ μ (.nx δ μ)
  | next {d ds δ μ δt δ1 μ1 o} : f d δ = some δt → DSs X N W δt μ body (.nx δ1 μ1) → Loop X N W f body ds δ1 μ1 o → Loop X N W f body (d :: ds) δ μ o
  | cont {d ds δ μ δt δ1 μ1 o} : f d δ = some δt → DSs X N W δt μ body (.ct δ1 μ1) → Loop X N W f body ds δ1 μ1 o → Loop X N W f body (d :: ds) δ μ o
  | brk {d ds δ μ δt δ1 μ1} : f d δ = some δt → DSs X N W δt μ body (.bk δ1 μ1) → Loop X N W f body (d :: ds) δ μ (.nx δ1 μ1)
  | ret {d ds δ μ δt s μ1} : f d δ = some δt → DSs X N W δt μ body (.rt s μ1) → Loop X N W f body (d :: ds) δ μ (.rt s μ1)
  | exc {d ds δ μ δt C y δ1 μ1} : f d δ = some δt → DSs X N W δt μ body (.xx C y δ1 μ1) → Loop X N W f body (d :: ds) δ μ (.xx C y δ1 μ1)
section
variable {X : Cx} {N : En} {W : WX} {n : Nat} {δ δ' δ1 δ2 : List (Option S)} {μ μ' μ1 μ2 μ3 : List M} {e a b c o tg iter : Expr} {es : List Expr} {ss : List S} {pos p apos : Pos} {d : D} {s s1 s2 : S} {r : Rx} {ds : List D}
theorem yl_list {K : PySem.W.Frag} {F : Hp} {a : Addr} {vs : List V} (h : F a = some (.lst vs)) (r : Reps K F vs ds) : Yl K (Itl K a) F ds := by
  unfold Yl
  rw [← r.length]
  exact Walk.mono (walk_list (xs := vs)) (fun H e => SqL.of (e _ _ h)) fun i H x H' _ _ ⟨e, hx⟩ => by
    obtain ⟨d, h1, h2⟩ := r.get' hx
    exact ⟨d, h1, .inl ⟨e, h2⟩⟩
theorem yl_tup {K : PySem.W.Frag} {F : Hp} {a : Addr} {vs : List V} (h : SqT K F a vs) (r : Reps K F vs ds) : Yl K (Itt K a) F ds := by
  unfold Yl
  rw [← r.length]
  exact Walk.mono (walk_tup (xs := vs)) (fun H e => same_sqT e h) fun i H x H' _ _ ⟨e, hx⟩ => by
    obtain ⟨d, h1, h2⟩ := r.get' hx
    exact ⟨d, h1, .inl ⟨e, h2⟩⟩
theorem di_lst (g : Go X N W n) (h : DE X N W δ μ iter (.v (.p (.lst ds))) μ1) : DI X N W δ μ tg iter ds μ1 :=
  PI.imp (pi_list h) fun σ H Rk ⟨F, A, R, k⟩ => ⟨F, A, R, fun v F1 A1 H1 e1 p1 R1 rv => by
    have hK := g.hK
    rw [← hK]
    obtain ⟨a, vs, rfl, h1, h2⟩ := rep_lst rv
    exact ⟨a, rfl, ⟨vs, SqL.of (R1.rc.sub _ _ h1)⟩, k _ F1 A1 H1 e1 p1 R1 (yl_list h1 h2)⟩⟩
theorem di_tup (g : Go X N W n) (h : DE X N W δ μ iter (.v (.p (.tup ds))) μ1) : DI X N W δ μ tg iter ds μ1 :=
  PI.imp (pi_tup h) fun σ H Rk ⟨F, A, R, k⟩ => ⟨F, A, R, fun v F1 A1 H1 e1 p1 R1 rv => by
    have hK := g.hK
    rw [← hK]
    obtain ⟨a, vs, rfl, h1, h2⟩ := rep_tup rv
    exact ⟨a, rfl, ⟨vs, same_sqT R1.rc.sub h1⟩, k _ F1 A1 H1 e1 p1 R1 (yl_tup h1 h2)⟩⟩
def rangeD (lo : Int) (n : Nat) : List D := (List.range n).map fun i => D.int (lo + (i : Nat))
theorem yl_range {K : PySem.W.Frag} {F : Hp} {lo : Int} {n : Nat} : Yl K (Itr lo n) F (rangeD lo n) := by
  unfold Yl
  rw [show (rangeD lo n).length = n from by simp [rangeD]]
  exact Walk.mono (walk_range (lo := lo) (n := n)) (fun _ _ => trivial) fun i H x H' hi _ ⟨e, hx⟩ => by
    refine ⟨.int (lo + i), ?_, .inl ⟨e, by rw [hx]; exact .int _⟩⟩
    rw [rangeD, List.getElem?_map, List.getElem?_range hi]
    rfl
theorem di_range1 {j : Int} (h : DA X N W δ μ [a] [.p (.int j)] μ1) (hm : X.mg "range" = none) (h1 : -(2 ^ 62) ≤ j ∧ j < 2 ^ 62) (hg : Gl X "range" := by rfl) (hs : starEach [a] X.env = [(false, eval a X.env)] := by rfl) : DI X N W δ μ tg (.Call (.Name "range" p) [a] [] pos) (rangeD 0 j.toNat) μ1 :=
  PI.imp (pi_range1 hg hm h hs) fun σ H Rk ⟨F, A, R, k⟩ => ⟨F, A, R, fun vs F1 A1 H1 e1 p1 R1 rv => by
    cases rv with
    | cons r1 r2 =>
      cases r2
      have r1' : Rep N.K F1 _ (.int j) := r1
      cases r1'
      exact ⟨j, rfl, h1.1, h1.2, k _ F1 A1 H1 e1 p1 R1 yl_range⟩⟩
theorem di_range2 {i j : Int} (h : DA X N W δ μ [a, b] [.p (.int i), .p (.int j)] μ1) (hm : X.mg "range" = none) (h1 : -(2 ^ 62) ≤ i ∧ i < 2 ^ 62 ∧ -(2 ^ 62) ≤ j ∧ j < 2 ^ 62) (hg : Gl X "range" := by rfl) (hs : starEach [a, b] X.env = [(false, eval a X.env), (false, eval b X.env)] := by rfl) (hs2 : starEach [b] X.env = [(false, eval b X.env)] := by rfl) : DI X N W δ μ tg (.Call (.Name "range" p) [a, b] [] pos) (rangeD i (j - i).toNat) μ1 :=
  PI.imp (pi_range2 hg hm h hs hs2) fun σ H Rk ⟨F, A, R, k⟩ => ⟨F, A, R, fun vs F1 A1 H1 e1 p1 R1 rv => by
    cases rv with
    | cons r1 r2 =>
      cases r2 with
      | cons r2 r3 =>
        cases r3
        have r1' : Rep N.K F1 _ (.int i) := r1
        have r2' : Rep N.K F1 _ (.int j) := r2
        cases r1'
        cases r2'
        exact ⟨i, j, rfl, h1, k _ F1 A1 H1 e1 p1 R1 yl_range⟩⟩
def chars (z : Str) : List D := z.cps.toList.map fun c => D.str ⟨#[c]⟩
theorem yl_str {K : PySem.W.Frag} {F : Hp} {z : Str} : Yl K (Its z) F (chars z) := by
  unfold Yl
  rw [show (chars z).length = z.cps.size from by simp [chars]]
  exact Walk.mono (walk_str (z := z)) (fun _ _ => trivial) fun i H x H' hi _ ⟨e, c, h1, hx⟩ => by
    refine ⟨.str ⟨#[c]⟩, ?_, .inl ⟨e, by rw [hx]; exact .str _⟩⟩
    rw [chars, List.getElem?_map, Array.getElem?_toList, h1]
    rfl
theorem di_str {z : Str} (h : DE X N W δ μ iter (.v (.p (.str z))) μ1) : DI X N W δ μ tg iter (chars z) μ1 :=
  PI.imp (pi_str h) fun σ H Rk ⟨F, A, R, k⟩ => ⟨F, A, R, fun v F1 A1 H1 e1 p1 R1 rv => by
    have rv' : Rep N.K F1 _ (.str z) := rv
    cases rv'
    exact ⟨z, rfl, k _ F1 A1 H1 e1 p1 R1 yl_str⟩⟩
/-! ## targets -/
def tGd (N : En) (f : As) (ix : List Nat) : TG := fun v σ H Q => ∃ F A δ μ d δ', Rl N F A H σ δ μ ∧ Rep N.K F v d ∧ f d δ = some δ' ∧ ∀ σ', wipe σ' ix = wipe σ ix → Rl N F A H σ' δ' μ → Q σ' H
def DG (X : Cx) (N : En) (tg : Expr) (f : As) (ix : List Nat) : Prop := PG X tg (tGd N f ix)
theorem wipe_get : ∀ {vs : List Nat} {σ : L2.St} {i : Nat}, (wipe σ vs)[i]? = if i ∈ vs then (σ[i]?).map (fun _ => none) else σ[i]?
  | [], σ, i => by simp [wipe]
  | v :: vs, σ, i => by
    unfold wipe
    by_cases h : v = i
    · subst h
      rw [if_pos List.mem_cons_self]
      by_cases hl : v < σ.length
      · rw [List.getElem?_set_self (by rw [wipe_length]; exact hl), List.getElem?_eq_getElem hl]
        rfl
      · rw [List.getElem?_eq_none (by simp [wipe_length]; omega), List.getElem?_eq_none (by omega)]
        rfl
    · rw [List.getElem?_set_ne h, wipe_get]
      by_cases hi : i ∈ vs
      · rw [if_pos hi, if_pos (List.mem_cons_of_mem _ hi)]
      · rw [if_neg hi, if_neg (by
          intro z
          rcases List.mem_cons.mp z with z | z
          · exact h z.symm
          · exact hi z)]
theorem wipe_sub {σ σ' : L2.St} {ix vs : List Nat} (h : ∀ i ∈ ix, i ∈ vs) (e : wipe σ' ix = wipe σ ix) : wipe σ' vs = wipe σ vs := by
  have hl : σ'.length = σ.length := by
    have := congrArg List.length e
    rwa [wipe_length, wipe_length] at this
  apply List.ext_getElem?
  intro i
  rw [wipe_get, wipe_get]
  by_cases hi : i ∈ vs
  · rw [if_pos hi, if_pos hi]
    by_cases hlt : i < σ.length
    · rw [List.getElem?_eq_getElem hlt, List.getElem?_eq_getElem (by omega)]
      rfl
    · rw [List.getElem?_eq_none (by omega), List.getElem?_eq_none (by omega)]
  · rw [if_neg hi, if_neg hi]
    have q := congrArg (fun l : L2.St => l[i]?) e
    simp only [wipe_get] at q
    have hx : i ∉ ix := fun z => hi (h i z)
    rw [if_neg hx, if_neg hx] at q
    exact q
theorem wipe_trans {σ σ1 σ2 : L2.St} {ix jx : List Nat} (a : wipe σ1 ix = wipe σ ix) (b : wipe σ2 jx = wipe σ1 jx) : wipe σ2 (ix ++ jx) = wipe σ (ix ++ jx) :=
  (wipe_sub (fun i h => List.mem_append_right _ h) b).trans (wipe_sub (fun i h => List.mem_append_left _ h) a)
def asName (i : Nat) : As := fun d δ => some (δ.set i (some (.p d)))
def asAll : List As → List D → List (Option S) → Option (List (Option S))
  | [], [], δ => some δ
  | f :: fs, d :: ds, δ => (f d δ).bind fun δ' => asAll fs ds δ'
  | _, _, _ => none
def asTup (fs : List As) : As := fun d δ => match d with
  | .tup ds => asAll fs ds δ
  | _ => none
theorem PG.imp {X : Cx} {tg : Expr} {t t' : TG} (h : PG X tg t) (w : ∀ v σ H Q, t' v σ H Q → t v σ H Q) : PG X tg t' := ⟨fun p s σ H v u Q I r q => h.run p s σ H v u Q I r (w v σ H Q q)⟩
theorem PGs.imp {X : Cx} {ts : List Expr} {t t' : TGs} (h : PGs X ts t) (w : ∀ v σ H Q, t' v σ H Q → t v σ H Q) : PGs X ts t' := ⟨fun p s σ H v u Q I r q => h.run p s σ H v u Q I r (w v σ H Q q)⟩
theorem dg_name (i : Nat) {x : Str} (hN : X.N.Nodup) (hi : X.N[i]? = some x := by rfl) (hx : Loc X.env.scope x := by first | exact Or.inl rfl | exact Or.inr rfl) (hf : X.fn x = true ∨ X.env.scope.names.lookup x = some .local := by first | exact .inl rfl | exact .inr rfl) : DG X N (.Name x pos) (asName i) [i] :=
  PG.imp (pg_name (i := i) hN hi hx hf) fun v σ H Q ⟨F, A, δ, μ, d, δ', R, rv, hf, k⟩ => by
    cases hf
    exact k _ (by show (σ.set i (some v)).set i none = σ.set i none; rw [List.set_set]) (R.set (s := .p d) rv)
def tGds (N : En) (fs : List As) (ix : List Nat) : TGs := fun vs σ H Q => ∃ F A δ μ ds δ', Rl N F A H σ δ μ ∧ Reps N.K F vs ds ∧ asAll fs ds δ = some δ' ∧ ∀ σ', wipe σ' ix = wipe σ ix → Rl N F A H σ' δ' μ → Q σ' H
def DGs (X : Cx) (N : En) (ts : List Expr) (fs : List As) (ix : List Nat) : Prop := PGs X ts (tGds N fs ix)
theorem dgs_nil : DGs X N [] [] [] := PGs.imp pgs_nil fun vs σ H Q ⟨F, A, δ, μ, ds, δ', R, rv, hf, k⟩ => by
  cases rv with
  | nil => cases hf; exact ⟨rfl, k σ rfl R⟩
  | cons _ _ => cases hf
theorem dgs_cons {ts : List Expr} {f : As} {fs : List As} {ix jx : List Nat} (h : DG X N e f ix) (h' : DGs X N ts fs jx) (hs : (assignEach (e :: ts) X.env).map (·.2) = assign e X.env :: (assignEach ts X.env).map (·.2) := by rfl) : DGs X N (e :: ts) (f :: fs) (ix ++ jx) :=
  PGs.imp (pgs_cons h h' hs) fun vs σ H Q ⟨F, A, δ, μ, ds, δ', R, rv, hf, k⟩ => by
    cases rv with
    | nil => cases hf
    | @cons v d vs ds r1 r2 =>
      have hf' : (f d δ).bind (fun δ' => asAll fs ds δ') = some δ' := hf
      cases hfd : f d δ with
      | none => rw [hfd] at hf'; cases hf'
      | some δ1 =>
        rw [hfd] at hf'
        exact ⟨v, vs, rfl, F, A, δ, μ, d, δ1, R, r1, hfd, fun σ1 w1 R1 => ⟨F, A, δ1, μ, ds, δ', R1, r2, hf', fun σ2 w2 R2 => k σ2 (wipe_trans w1 w2) R2⟩⟩
theorem asAll_len : ∀ {fs : List As} {ds : List D} {δ δ' : List (Option S)}, asAll fs ds δ = some δ' → ds.length = fs.length
  | [], [], _, _, _ => rfl
  | [], _ :: _, _, _, h => by cases h
  | _ :: _, [], _, _, h => by cases h
  | f :: fs, d :: ds, δ, δ', h => by
    have hf' : (f d δ).bind (fun δ' => asAll fs ds δ') = some δ' := h
    cases hfd : f d δ with
    | none => rw [hfd] at hf'; cases hf'
    | some δ1 =>
      rw [hfd] at hf'
      rw [List.length_cons, List.length_cons, asAll_len hf']
theorem dg_tup {ts : List Expr} {kk : Nat} {fs : List As} {ix : List Nat} (h : DGs X N ts fs ix) (hK : N.K = X.K) (hc : X.calm = true) (hn : (assignEach ts X.env).length = fs.length := by rfl) (hst : (assignEach ts X.env).findIdx? (·.1) = none := by rfl) : DG X N (.Tuple ts kk pos) (asTup fs) ix :=
  PG.imp (pg_tup hc h hn hst) fun v σ H Q ⟨F, A, δ, μ, d, δ', R, rv, hf, k⟩ => by
    cases d with
    | tup ds =>
      obtain ⟨a, vs, rfl, h1, h2⟩ := rep_tup rv
      refine ⟨a, vs, rfl, ?_, ?_, F, A, δ, μ, ds, δ', R, h2, hf, k⟩
      · rw [← hK]; exact same_sqT R.rc.sub h1
      · rw [h2.length]; exact asAll_len hf
    | _ => cases hf
/-- target = e, by a target's rule -/
theorem ds_asg {f : As} {ix : List Nat} (h : DE X N W δ μ e (.v (.p d)) μ1) (hg : DG X N tg f ix) (hf : f d δ = some δ1) (hs : swapsWithSole [tg] e pos.line X.env = pure false := by rfl) (hw : swappedStores [tg] e X.env = pure none := by rfl)
    (h1 : (assignEach [tg] X.env).map (·.2) = [assign tg X.env] := by rfl) : DS X N W δ μ (.Assign [tg] e pos) (.nx δ1 μ1) :=
  PS.imp (ps_asg h hg hs hw h1) fun K σ H ⟨F, A, R, k⟩ => ⟨F, A, R, fun v F1 A1 H1 e1 p1 R1 rv => ⟨F1, A1, δ, μ1, d, δ1, R1, rv, hf, fun σ' _ R' => k σ' F1 A1 H1 e1 p1 R'⟩⟩
/-! ## for -/
theorem ds_for {body : List Stmt} {f : As} {ix : List Nat} {o : Os} (g : Go X N W n) (hi : DI X N W δ μ tg iter ds μ1) (hg : DG X N tg f ix) (hl : Loop X N W f body ds δ μ1 o) (hs : ∀ x, foldedSetIterable iter X.env x = pure x := by intro _; rfl) : DS X N W δ μ (.For tg iter body [] pos) o := by
  have hb : PSs X body (fun K σ H => ∃ δt μt o1, DSs X N W δt μt body o1 ∧ tDS N W δt μt o1 K σ H) := ⟨fun p s σ H K I ⟨δt, μt, o1, hd, q⟩ => hd.run p s σ H K I q⟩
  refine PS.imp (ps_for g.po g.calm hi hg hb hs) fun K σ H ⟨F, A, R, k⟩ => ⟨F, A, R, fun J F1 A1 H1 e1 p1 R1 y => ?_⟩
  have k1 := k.to e1 p1
  refine ⟨fun i m σ' H' => i ≤ ds.length ∧ m = ds.length - i ∧ ∃ F' A' δ' μ', Same F1 F' ∧ A1 <+: A' ∧ Rl N F' A' H' σ' δ' μ' ∧ Loop X N W f body (ds.drop i) δ' μ' o, ⟨ds.length, Nat.zero_le _, by simp, F1, A1, δ, μ1, Same.refl _, List.prefix_refl _, R1, by simpa using hl⟩, ?_⟩
  rintro i m σ' H' ⟨hi, rfl, F', A', δ', μ', e', p', R', hL⟩
  have k2 := k1.to e' p'
  by_cases hlt : i < ds.length
  · refine .inr ⟨y.goes i H' hlt (e'.trans R'.rc.sub), fun σ2 H2 => ∃ F2 A2 δ2 μ2, Same F1 F2 ∧ A1 <+: A2 ∧ Rl N F2 A2 H2 σ2 δ2 μ2 ∧ Loop X N W f body (ds.drop (i + 1)) δ2 μ2 o, fun σ2 H2 ⟨F2, A2, δ2, μ2, a, b, c, d⟩ => ⟨ds.length - (i + 1), by omega, hlt, rfl, F2, A2, δ2, μ2, a, b, c, d⟩, fun x H2 hy => ?_⟩
    obtain ⟨d, hd, it⟩ := (y.mono e').yields i H' x H2 hlt R'.rc.sub hy
    obtain ⟨F2, e2, R2, rx⟩ := R'.item it
    rw [List.drop_eq_getElem_cons hlt] at hL
    have hd' : ds[i] = d := by
      rw [List.getElem?_eq_getElem hlt] at hd
      exact Option.some.inj hd
    rw [hd'] at hL
    have k3 := k2.to e2 (List.prefix_refl _)
    cases hL with
    | next hf hb hL => exact ⟨F2, A', δ', μ', d, _, R2, rx, hf, fun σ3 _ R3 => ⟨_, _, _, hb, F2, A', R3, fun σ4 F4 A4 H4 e4 p4 R4 => ⟨F4, A4, _, _, (e'.trans e2).trans e4, p'.trans p4, R4, hL⟩⟩⟩
    | cont hf hb hL => exact ⟨F2, A', δ', μ', d, _, R2, rx, hf, fun σ3 _ R3 => ⟨_, _, _, hb, F2, A', R3, fun σ4 F4 A4 H4 e4 p4 R4 => ⟨F4, A4, _, _, (e'.trans e2).trans e4, p'.trans p4, R4, hL⟩⟩⟩
    | brk hf hb => exact ⟨F2, A', δ', μ', d, _, R2, rx, hf, fun σ3 _ R3 => ⟨_, _, _, hb, F2, A', R3, fun σ4 F4 A4 H4 e4 p4 R4 => k3 σ4 F4 A4 H4 e4 p4 R4⟩⟩
    | ret hf hb => exact ⟨F2, A', δ', μ', d, _, R2, rx, hf, fun σ3 _ R3 => ⟨_, _, _, hb, F2, A', R3, k3⟩⟩
    | exc hf hb => exact ⟨F2, A', δ', μ', d, _, R2, rx, hf, fun σ3 _ R3 => ⟨_, _, _, hb, F2, A', R3, k3⟩⟩
  · have e : i = ds.length := by omega
    subst e
    refine .inl ⟨y.stops H' (e'.trans R'.rc.sub), ?_⟩
    rw [List.drop_length] at hL
    cases hL
    exact k2 σ' F' A' H' (Same.refl _) (List.prefix_refl _) R'
end
end Dl

set_option Elab.async false
set_option linter.all false
set_option maxRecDepth 100000
set_option maxHeartbeats 4000000
set_option autoImplicit false
namespace Dl
open PySem PySem.Spec PyProof.Rows L2
/-- an object that is neither frozen nor told is changed -/
theorem Rc.poke {N : En} {F : Hp} {A : List Addr} {H : Hp} {μ : List M} (r : Rc N F A H μ) {p : Addr} (hF : F p = none) (hA : p ∉ A) (h0 : N.H0 p = none) (o : HO) : Rc N F A (upd H p o) μ where
  sub := fun b x e => by
    have hb : b ≠ p := fun z => by rw [z, hF] at e; cases e
    rw [upd_ne hb]; exact r.sub b x e
  base := r.base
  new := r.new
  keep := fun a x e hA => by
    have hb : a ≠ p := fun z => by rw [z, h0] at e; cases e
    rw [upd_ne hb]; exact r.keep a x e hA
  pre := r.pre
  nd := r.nd
  len := r.len
  mus := fun j a m h1 h2 => (r.mus j a m h1 h2).mono (Same.refl _) (List.prefix_refl _) (upd_ne (ne_mem hA h1))
  fr := r.fr
/-- .. is frozen -/
theorem Rc.adopt {N : En} {F : Hp} {A : List Addr} {H : Hp} {μ : List M} (r : Rc N F A H μ) {p : Addr} (hF : F p = none) (hA : p ∉ A) (h0 : N.H0 p = none) {o : HO} (ho : H p = some o) : Rc N (upd F p o) A H μ where
  sub := fun b x e => by
    by_cases hb : b = p
    · subst hb; rw [upd_same] at e; cases e; exact ho
    · rw [upd_ne hb] at e; exact r.sub b x e
  base := r.base.trans (same_updN hF)
  new := fun a x e => by
    by_cases hb : a = p
    · subst hb; exact .inr h0
    · rw [upd_ne hb] at e; exact r.new a x e
  keep := r.keep
  pre := r.pre
  nd := r.nd
  len := r.len
  mus := fun j a m h1 h2 => (r.mus j a m h1 h2).mono (same_updN hF) (List.prefix_refl _) rfl
  fr := fun j a m h1 h2 h3 => by
    rw [upd_ne (ne_mem hA h1)]
    exact r.fr j a m h1 h2 h3
/-- .. is told as changing -/
theorem Rc.adoptM {N : En} {F : Hp} {A : List Addr} {H : Hp} {μ : List M} (r : Rc N F A H μ) {p : Addr} (hF : F p = none) (hA : p ∉ A) (h0 : N.H0 p = none) {m : M} (ok : MOk N.K F (A ++ [p]) H p m) : Rc N F (A ++ [p]) H (μ ++ [m]) where
  sub := r.sub
  base := r.base
  new := r.new
  keep := r.keep
  pre := by
    obtain ⟨B, rfl, hB⟩ := r.pre
    refine ⟨B ++ [p], List.append_assoc .., fun b hb => ?_⟩
    rcases List.mem_append.mp hb with hb | hb
    · exact hB b hb
    · rw [List.mem_singleton] at hb; subst hb; exact h0
  nd := List.nodup_append.mpr ⟨r.nd, by simp, fun a ha b hb => by
    rw [List.mem_singleton] at hb; subst hb
    intro z; subst z; exact hA ha⟩
  len := by simp [r.len]
  mus := fun j a m' h1 h2 => by
    by_cases hj : j < A.length
    · rw [List.getElem?_append_left hj] at h1
      rw [List.getElem?_append_left (by rw [← r.len]; exact hj)] at h2
      exact (r.mus j a m' h1 h2).mono (Same.refl _) (List.prefix_append _ _) rfl
    · rw [List.getElem?_append_right (by omega)] at h1
      rw [List.getElem?_append_right (by rw [← r.len]; omega), ← r.len] at h2
      have e : j - A.length = 0 := by
        have := (List.getElem?_eq_some_iff.mp h1).1
        simp at this; omega
      rw [e] at h1 h2
      simp at h1 h2
      subst h1 h2
      exact ok
  fr := fun j a m' h1 h2 h3 => by
    by_cases hj : j < A.length
    · rw [List.getElem?_append_left hj] at h1
      rw [List.getElem?_append_left (by rw [← r.len]; exact hj)] at h2
      exact r.fr j a m' h1 h2 h3
    · rw [List.getElem?_append_right (by omega)] at h1
      have e : j - A.length = 0 := by
        have := (List.getElem?_eq_some_iff.mp h1).1
        simp at this; omega
      rw [e] at h1
      simp at h1
      subst h1
      exact hF
def wipeD (δ : List (Option S)) : List Nat → List (Option S)
  | [] => δ
  | v :: vs => (wipeD δ vs).set v none
theorem wipeD_len (δ : List (Option S)) : ∀ vs : List Nat, (wipeD δ vs).length = δ.length
  | [] => rfl
  | v :: vs => by unfold wipeD; rw [List.length_set, wipeD_len δ vs]
theorem wipeD_some {δ : List (Option S)} {i : Nat} {x : S} : ∀ {vs : List Nat}, (wipeD δ vs)[i]? = some (some x) → δ[i]? = some (some x) ∧ i ∉ vs
  | [], h => ⟨h, by simp⟩
  | v :: vs, h => by
    unfold wipeD at h
    by_cases hi : v = i
    · subst hi
      by_cases hv : v < (wipeD δ vs).length
      · rw [List.getElem?_set_self hv] at h; cases h
      · rw [List.getElem?_eq_none (by simpa using hv)] at h; cases h
    · rw [List.getElem?_set_ne hi] at h
      obtain ⟨h1, h2⟩ := wipeD_some h
      exact ⟨h1, by simp only [List.mem_cons, not_or]; exact ⟨fun e => hi e.symm, h2⟩⟩
theorem Rl.wiped {N : En} {F : Hp} {A : List Addr} {H : Hp} {σ : L2.St} {δ : List (Option S)} {μ : List M} (R : Rl N F A H σ δ μ) (vs : List Nat) : Rl N F A H (wipe σ vs) (wipeD δ vs) μ :=
  ⟨R.rc, by rw [wipeD_len, wipe_length]; exact R.len, fun i s h => by
    obtain ⟨h1, h2⟩ := wipeD_some h
    obtain ⟨v, h3, h4⟩ := R.sl i s h1
    refine ⟨v, ?_, h4⟩
    rw [wipe_get, if_neg h2]
    exact h3⟩
abbrev W0 : WX := fun _ _ _ _ => False
abbrev blkX (X : Cx) (scope : Scope) (s : Shared) (H : Hp) (C : Addr) (cl : List (Str × Addr)) (fp : List Addr) : Cx := X.blk s H scope (compEnvC scope cl C X.env) fp
theorem takes00 {X : Cx} : Takes X W0 := fun _ _ x => by
  obtain ⟨_, _, _, _, _, _, _, _, _, _, _, _, _, _, _, _, z⟩ := x
  exact z.elim
theorem passesOwn_never {M : Model} {A : Around} {env : Env} : PassesOwn M A env (fun _ _ => False) := PassesOwn.never
theorem Go.blk {X : Cx} {N N' : En} {W : WX} {n : Nat} {scope : Scope} {s : Shared} {H : Hp} {C : Addr} {cl : List (Str × Addr)} {fp : List Addr} (g : Go X N W n) (h : N'.K = N.K) : Go (blkX X scope s H C cl fp) N' W0 n :=
  ⟨takes00, g.calm, h.trans g.hK, g.room, PassesOwn.never, g.nd⟩
/-- an element (or none), at the slots δ -/
inductive Elt (X : Cx) (N : En) (ifs : List Expr) (elt : Expr) (δ : List (Option S)) (μ : List M) : Option D → List M → Prop
  | all {y μ1} : ifs = [] → DE X N W0 δ μ elt (.v (.p y)) μ1 → Elt X N ifs elt δ μ (some y) μ1
  | yes {c y μ1 μ2} : ifs = [c] → DT X N W0 δ μ c true μ1 → DE X N W0 δ μ1 elt (.v (.p y)) μ2 → Elt X N ifs elt δ μ (some y) μ2
  | no {c μ1} : ifs = [c] → DT X N W0 δ μ c false μ1 → Elt X N ifs elt δ μ none μ1
inductive CmpL (P : List (Option S) → List M → Option D → List M → Prop) (f : As) (δ : List (Option S)) : List D → List M → List D → List M → Prop
  | nil {μ} : CmpL P f δ [] μ [] μ
  | keep {d ds δt μ y μ1 ys μ2} : f d δ = some δt → P δt μ (some y) μ1 → CmpL P f δ ds μ1 ys μ2 → CmpL P f δ (d :: ds) μ (y :: ys) μ2
  | drop {d ds δt μ μ1 ys μ2} : f d δ = some δt → P δt μ none μ1 → CmpL P f δ ds μ1 ys μ2 → CmpL P f δ (d :: ds) μ ys μ2
theorem CmpL.len {P : List (Option S) → List M → Option D → List M → Prop} {f : As} {δ : List (Option S)} {ds ys : List D} {μ μ' : List M} (h : CmpL P f δ ds μ ys μ') : ys.length ≤ ds.length := by
  induction h with
  | nil => exact Nat.le_refl _
  | keep _ _ _ ih => exact Nat.succ_le_succ ih
  | drop _ _ _ ih => exact Nat.le_succ_of_le ih
/-- in every block of this comprehension -/
def EltB (X : Cx) (K : PySem.W.Frag) (n : Nat) (scope : Scope) (ifs : List Expr) (elt : Expr) (δ : List (Option S)) (μ : List M) (r : Option D) (μ1 : List M) : Prop :=
  ∀ s H C cl fp N', N'.K = K → Go (blkX X scope s H C cl fp) N' W0 n → Elt (blkX X scope s H C cl fp) N' ifs elt δ μ r μ1
section
variable {X : Cx} {N : En} {W : WX} {n : Nat} {δ δ' δ1 δ2 : List (Option S)} {μ μ' μ1 μ2 μ3 : List M} {elt tg iter : Expr} {ifs : List Expr} {pos : Pos} {ds ys : List D} {scope : Scope} {own : List (Str × Nat)} {f : As} {ix : List Nat}
/-- the reading of a comprehension's parts, for all blocks -/
def tElt (N0 : En) (n : Nat) (X : Cx) (scope : Scope) (ifs : List Expr) (elt : Expr) : TT := fun σ H Q => ∃ (N : En) (F : Hp) (A : List Addr) (δ : List (Option S)) (μ : List M) (r : Option D) (μ1 : List M), N.K = N0.K ∧ Rl N F A H σ δ μ ∧ EltB X N0.K n scope ifs elt δ μ r μ1 ∧
  ∃ μ', (∀ F' A' H', Same F F' → A <+: A' → Rl N F' A' H' σ δ μ' → Q r.isSome H') ∧ ∀ s H C cl fp, Go (blkX X scope s H C cl fp) N W0 n → True
theorem lc_go {J : It} {F1 : Hp} {A1 : List Addr} {H1 : Hp} {σ : L2.St} {tt : TT} {te : TE} {D0 : Addr} {Qd : Hp → Prop} (hds : ds.length < sizeLine) (R1 : Rl N F1 A1 H1 σ δ μ1) (y : Yl N.K J F1 ds) (hD : H1 D0 = none) (hix : ∀ i ∈ ix, i ∈ own.map (·.2))
    (P : List (Option S) → List M → Option D → List M → Prop) (hl : CmpL P f (wipeD δ (own.map (·.2))) ds μ1 ys μ2)
    (hP : ∀ (N' : En) F A σ2 H2 δt μt r μu (Q : Option V → Hp → Prop), N'.K = N.K → Rl N' F A H2 σ2 δt μt → P δt μt r μu →
      (∀ v F' A' H', Same F F' → A <+: A' → Rl N' F' A' H' σ2 δt μu → (match r, v with | some y, some v => Rep N.K F' v y | none, none => True | _, _ => False) → Q v H') →
      tt σ2 H2 fun b H3 => if b = true then te σ2 H3 fun v H4 => Q (some v) H4 else Q none H3)
    (hq : ∀ F' A' H' vs, Same F1 F' → A1 <+: A' → Rc N F' A' H' μ2 → H' D0 = some (.lst vs) → F' D0 = none → D0 ∉ A' → Reps N.K F' vs ys → Qd H') :
    ∃ Wt : Nat → Nat → Hp → Prop, (∃ m, Wt 0 m (upd H1 D0 (.lst []))) ∧ ∀ i m H, Wt i m H →
      (J.stop i H ∧ Qd H) ∨ (J.go i H ∧ ∃ Nx : Hp → Prop, (∀ H', Nx H' → ∃ m', m' < m ∧ Wt (i + 1) m' H') ∧ ∀ x H', J.yld i H x H' → tGd N f ix x (wipe σ (own.map (·.2))) H' fun σ2 H2 => wipe σ2 (own.map (·.2)) = wipe σ (own.map (·.2)) ∧ tt σ2 H2 fun b H3 =>
        if b = true then te σ2 H3 fun y H4 => ∃ acc, H4 D0 = some (.lst acc) ∧ acc.length < sizeLine ∧ Nx (upd H4 D0 (.lst (acc ++ [y]))) else Nx H3) := by
  have h0 := R1.rc.fresh hD
  refine ⟨fun i m H => i ≤ ds.length ∧ m = ds.length - i ∧ ∃ F A μ vs acc rest, Same F1 F ∧ A1 <+: A ∧ Rc N F A H μ ∧ H D0 = some (.lst vs) ∧ F D0 = none ∧ D0 ∉ A ∧ Reps N.K F vs acc ∧ vs.length ≤ i ∧ CmpL P f (wipeD δ (own.map (·.2))) (ds.drop i) μ rest μ2 ∧ acc ++ rest = ys,
    ⟨ds.length, Nat.zero_le _, by simp, F1, A1, μ1, [], [], ys, Same.refl _, List.prefix_refl _, R1.rc.junk hD _, upd_same, h0.2.1, h0.2.2, .nil, Nat.le_refl _, by simpa using hl, rfl⟩, ?_⟩
  rintro i m H ⟨hi, rfl, F, A, μ, vs, acc, rest, e, p, R, hv, hF, hA, hr, hvl, hL, hy⟩
  by_cases hlt : i < ds.length
  · refine .inr ⟨y.goes i H hlt (e.trans R.sub), fun H' => ∃ F A μ vs acc rest, Same F1 F ∧ A1 <+: A ∧ Rc N F A H' μ ∧ H' D0 = some (.lst vs) ∧ F D0 = none ∧ D0 ∉ A ∧ Reps N.K F vs acc ∧ vs.length ≤ i + 1 ∧ CmpL P f (wipeD δ (own.map (·.2))) (ds.drop (i + 1)) μ rest μ2 ∧ acc ++ rest = ys,
      fun H' ⟨F, A, μ, vs, acc, rest, a⟩ => ⟨ds.length - (i + 1), by omega, hlt, rfl, F, A, μ, vs, acc, rest, a⟩, fun x H' hyd => ?_⟩
    obtain ⟨d, hd, it⟩ := (y.mono e).yields i H x H' hlt R.sub hyd
    have Rf : Rl N F A H σ δ μ := R1.to e p R
    have hH' : H' D0 = some (.lst vs) := by
      rcases it with ⟨rfl, _⟩ | ⟨T, ws, es, _, nT, rfl, _, _⟩
      · exact hv
      · rw [upd_ne (ne_of_none hv nT)]; exact hv
    have hF2 : ∀ F2, Rl N F2 A H' σ δ μ → True := fun _ _ => trivial
    obtain ⟨F2, e2, R2, rx, hF20⟩ : ∃ F', Same F F' ∧ Rl N F' A H' σ δ μ ∧ Rep N.K F' x d ∧ F' D0 = none := by
      rcases it with ⟨rfl, r⟩ | ⟨T, ws, es, rfl, nT, rfl, rfl, r⟩
      · exact ⟨F, Same.refl _, Rf, r, hF⟩
      · have sm := same_updN (o := .tup ws) (R.fresh nT).2.1
        exact ⟨_, sm, Rf.to sm (List.prefix_refl _) (R.frozen nT _), .tup (SqT.of upd_same) (r.mono sm), by rw [upd_ne (ne_of_none hv nT)]; exact hF⟩
    rw [List.drop_eq_getElem_cons hlt] at hL
    have hd' : ds[i] = d := by
      rw [List.getElem?_eq_getElem hlt] at hd
      exact Option.some.inj hd
    rw [hd'] at hL
    -- one element
    have key : ∀ (σ2 : L2.St) (δt : List (Option S)) (r : Option D) (μu : List M) (rest' : List D), Rl N F2 A H' σ2 δt μ → P δt μ r μu → CmpL P f (wipeD δ (own.map (·.2))) (ds.drop (i + 1)) μu rest' μ2 →
        (match r with | some y => acc ++ y :: rest' = ys | none => acc ++ rest' = ys) →
        tt σ2 H' fun b H3 => if b = true then te σ2 H3 fun y H4 => ∃ acc, H4 D0 = some (.lst acc) ∧ acc.length < sizeLine ∧ (∃ F A μ vs acc' rest, Same F1 F ∧ A1 <+: A ∧ Rc N F A (upd H4 D0 (.lst (acc ++ [y]))) μ ∧ (upd H4 D0 (.lst (acc ++ [y]))) D0 = some (.lst vs) ∧ F D0 = none ∧ D0 ∉ A ∧ Reps N.K F vs acc' ∧ vs.length ≤ i + 1 ∧ CmpL P f (wipeD δ (own.map (·.2))) (ds.drop (i + 1)) μ rest μ2 ∧ acc' ++ rest = ys)
          else ∃ F A μ vs acc rest, Same F1 F ∧ A1 <+: A ∧ Rc N F A H3 μ ∧ H3 D0 = some (.lst vs) ∧ F D0 = none ∧ D0 ∉ A ∧ Reps N.K F vs acc ∧ vs.length ≤ i + 1 ∧ CmpL P f (wipeD δ (own.map (·.2))) (ds.drop (i + 1)) μ rest μ2 ∧ acc ++ rest = ys := by
      intro σ2 δt r μu rest' R3 hPr hL' hys
      have R3' : Rl ⟨N.K, H', F2, A⟩ F2 A H' σ2 δt μ := ⟨R3.rc.entry, R3.len, R3.sl⟩
      refine hP ⟨N.K, H', F2, A⟩ F2 A σ2 H' δt μ r μu (fun v H4 => match v with
          | some v => ∃ acc, H4 D0 = some (.lst acc) ∧ acc.length < sizeLine ∧ (∃ F A μ vs acc' rest, Same F1 F ∧ A1 <+: A ∧ Rc N F A (upd H4 D0 (.lst (acc ++ [v]))) μ ∧ (upd H4 D0 (.lst (acc ++ [v]))) D0 = some (.lst vs) ∧ F D0 = none ∧ D0 ∉ A ∧ Reps N.K F vs acc' ∧ vs.length ≤ i + 1 ∧ CmpL P f (wipeD δ (own.map (·.2))) (ds.drop (i + 1)) μ rest μ2 ∧ acc' ++ rest = ys)
          | none => ∃ F A μ vs acc rest, Same F1 F ∧ A1 <+: A ∧ Rc N F A H4 μ ∧ H4 D0 = some (.lst vs) ∧ F D0 = none ∧ D0 ∉ A ∧ Reps N.K F vs acc ∧ vs.length ≤ i + 1 ∧ CmpL P f (wipeD δ (own.map (·.2))) (ds.drop (i + 1)) μ rest μ2 ∧ acc ++ rest = ys) rfl R3' hPr fun v F4 A4 H4 e4 p4 R4 rv => ?_
      have b4 : Rc N F4 A4 H4 μu := R3.rc.back R4.rc
      have k4 : H4 D0 = some (.lst vs) := R4.rc.keep D0 _ hH' hA
      have f4 : F4 D0 = none := by
        cases q : F4 D0 with
        | none => rfl
        | some o =>
          rcases R4.rc.new D0 o q with ⟨o', z⟩ | z
          · have z' : F2 D0 = some o' := z
            rw [hF20] at z'; cases z'
          · have z' : H' D0 = none := z
            rw [hH'] at z'; cases z'
      have a4 : D0 ∉ A4 := fun hm => by
        obtain ⟨B, eB, hB⟩ := R4.rc.pre
        rw [eB] at hm
        rcases List.mem_append.mp hm with z | z
        · exact hA z
        · have z' : H' D0 = none := hB _ z
          rw [hH'] at z'; cases z'
      have s4 : Same F1 F4 := (e.trans e2).trans e4
      have p4' : A1 <+: A4 := p.trans p4
      cases r with
      | some yv =>
        cases v with
        | some v =>
          refine ⟨vs, k4, by omega, F4, A4, μu, vs ++ [v], acc ++ [yv], rest', s4, p4', b4.poke f4 a4 h0.1 _, upd_same, f4, a4, ((hr.mono (e2.trans e4))).snoc rv, by simp; omega, hL', ?_⟩
          rw [List.append_assoc]
          exact hys
        | none => exact rv.elim
      | none =>
        cases v with
        | some v => exact rv.elim
        | none => exact ⟨F4, A4, μu, vs, acc, rest', s4, p4', b4, k4, f4, a4, hr.mono (e2.trans e4), by omega, hL', hys⟩
    have Rw := R2.wiped (own.map (·.2))
    cases hL with
    | keep hf hb hL' => exact ⟨F2, A, _, μ, d, _, Rw, rx, hf, fun σ2 w2 R3 => ⟨(wipe_sub hix w2).trans (by
        apply List.ext_getElem?
        intro j
        rw [wipe_get, wipe_get]
        by_cases hj : j ∈ own.map (·.2)
        · rw [if_pos hj, if_pos hj]; cases σ[j]? <;> rfl
        · rw [if_neg hj, if_neg hj]), key σ2 _ (some _) _ _ R3 hb hL' hy⟩⟩
    | drop hf hb hL' => exact ⟨F2, A, _, μ, d, _, Rw, rx, hf, fun σ2 w2 R3 => ⟨(wipe_sub hix w2).trans (by
        apply List.ext_getElem?
        intro j
        rw [wipe_get, wipe_get]
        by_cases hj : j ∈ own.map (·.2)
        · rw [if_pos hj, if_pos hj]; cases σ[j]? <;> rfl
        · rw [if_neg hj, if_neg hj]), key σ2 _ none _ _ R3 hb hL' hy⟩⟩
  · have hi' : i = ds.length := by omega
    subst hi'
    refine .inl ⟨y.stops H (e.trans R.sub), ?_⟩
    rw [List.drop_length] at hL
    cases hL
    rw [List.append_nil] at hy
    subst hy
    exact hq F A H vs e p R hv hF hA hr
end
end Dl

set_option Elab.async false
set_option linter.all false
set_option maxRecDepth 100000
set_option maxHeartbeats 4000000
set_option autoImplicit false
namespace Dl
open PySem PySem.Spec PyProof.Rows L2
section
variable {X : Cx} {N : En} {W : WX} {n : Nat} {δ δ' δ1 δ2 : List (Option S)} {μ μ' μ1 μ2 μ3 : List M} {elt tg iter c : Expr} {ifs : List Expr} {pos : Pos} {ds ys : List D} {scope : Scope} {own : List (Str × Nat)} {f : As} {ix : List Nat}
/-- in every block -/
abbrev DEB (X : Cx) (K : PySem.W.Frag) (n : Nat) (scope : Scope) (elt : Expr) (δ : List (Option S)) (μ : List M) (y : D) (μ1 : List M) : Prop :=
  ∀ s H C cl fp N', N'.K = K → Go (blkX X scope s H C cl fp) N' W0 n → DE (blkX X scope s H C cl fp) N' W0 δ μ elt (.v (.p y)) μ1
abbrev DTB (X : Cx) (K : PySem.W.Frag) (n : Nat) (scope : Scope) (c : Expr) (δ : List (Option S)) (μ : List M) (b : Bool) (μ1 : List M) : Prop :=
  ∀ s H C cl fp N', N'.K = K → Go (blkX X scope s H C cl fp) N' W0 n → DT (blkX X scope s H C cl fp) N' W0 δ μ c b μ1
def teB (X : Cx) (K : PySem.W.Frag) (n : Nat) (scope : Scope) (elt : Expr) : TE := fun σ H Q => ∃ (N' : En) (F : Hp) (A : List Addr) (δt : List (Option S)) (μt : List M) (y : D) (μu : List M), N'.K = K ∧ Rl N' F A H σ δt μt ∧ DEB X K n scope elt δt μt y μu ∧
  ∀ v F' A' H', Same F F' → A <+: A' → Rl N' F' A' H' σ δt μu → Rep K F' v y → Q v H'
def ttB (X : Cx) (K : PySem.W.Frag) (n : Nat) (scope : Scope) (c : Expr) : TT := fun σ H Q => ∃ (N' : En) (F : Hp) (A : List Addr) (δt : List (Option S)) (μt : List M) (b : Bool) (μu : List M), N'.K = K ∧ Rl N' F A H σ δt μt ∧ DTB X K n scope c δt μt b μu ∧
  ∀ F' A' H', Same F F' → A <+: A' → Rl N' F' A' H' σ δt μu → Q b H'
theorem pe_teB (g : Go X N W n) {s : Shared} {H : Hp} {C : Addr} {cl : List (Str × Addr)} {fp : List Addr} : PE (blkX X scope s H C cl fp) elt (teB X N.K n scope elt) :=
  ⟨fun pins s σ H Q I ⟨N', F, A, δt, μt, y, μu, hK, R, hd, k⟩ => (hd _ _ _ _ _ N' hK (g.blk hK)).run pins s σ H Q I ⟨F, A, R, fun v F' A' H' a b c d => k v F' A' H' a b c (by rw [← hK]; exact d)⟩⟩
theorem pt_ttB (g : Go X N W n) {s : Shared} {H : Hp} {C : Addr} {cl : List (Str × Addr)} {fp : List Addr} : PT (blkX X scope s H C cl fp) c (ttB X N.K n scope c) :=
  ⟨fun pins s σ H Q I ⟨N', F, A, δt, μt, y, μu, hK, R, hd, k⟩ => (hd _ _ _ _ _ N' hK (g.blk hK)).run pins s σ H Q I ⟨F, A, R, k⟩⟩
/-- an element without a test -/
def El0 (X : Cx) (K : PySem.W.Frag) (n : Nat) (scope : Scope) (elt : Expr) : List (Option S) → List M → Option D → List M → Prop := fun δt μt r μu => ∃ y, r = some y ∧ DEB X K n scope elt δt μt y μu
/-- an element with one -/
def El1 (X : Cx) (K : PySem.W.Frag) (n : Nat) (scope : Scope) (c elt : Expr) : List (Option S) → List M → Option D → List M → Prop := fun δt μt r μu => ∃ μ', DTB X K n scope c δt μt r.isSome μ' ∧
  match r with
  | some y => DEB X K n scope elt δt μ' y μu
  | none => μu = μ'
theorem lc_read (g : Go X N W n) (P : List (Option S) → List M → Option D → List M → Prop) {tt : TT} {te : TE} (hds : ds.length < sizeLine) (hix : ∀ i ∈ ix, i ∈ own.map (·.2)) (hl : CmpL P f (wipeD δ (own.map (·.2))) ds μ1 ys μ2)
    (hP : ∀ (N' : En) F A σ2 H2 δt μt r μu (Q : Option V → Hp → Prop), N'.K = N.K → Rl N' F A H2 σ2 δt μt → P δt μt r μu →
      (∀ v F' A' H', Same F F' → A <+: A' → Rl N' F' A' H' σ2 δt μu → (match r, v with | some y, some v => Rep N.K F' v y | none, none => True | _, _ => False) → Q v H') →
      tt σ2 H2 fun b H3 => if b = true then te σ2 H3 fun v H4 => Q (some v) H4 else Q none H3)
    {σ : L2.St} {H : Hp} {Q : VK} {F : Hp} {A : List Addr} (R : Rl N F A H σ δ μ)
    (hq : ∀ D0 F' A' H' vs, Same F F' → A <+: A' → Rc N F' A' H' μ2 → H' D0 = some (.lst vs) → F' D0 = none → D0 ∉ A' → N.H0 D0 = none → Reps N.K F' vs ys → Q (.ref D0) H') :
    tLc (tI N W δ μ ds μ1) (tGd N f ix) tt te (own.map (·.2)) σ H Q :=
  ⟨F, A, R, fun J F1 A1 H1 e1 p1 R1 y D0 hD => lc_go hds R1 y hD hix P hl hP fun F' A' H' vs e p r a b c d => hq D0 F' A' H' vs (e1.trans e) (p1.trans p) r a b c (R1.rc.fresh hD).1 d⟩
theorem hP0 (g : Go X N W n) : ∀ (N' : En) F A σ2 H2 δt μt r μu (Q : Option V → Hp → Prop), N'.K = N.K → Rl N' F A H2 σ2 δt μt → El0 X N.K n scope elt δt μt r μu →
      (∀ v F' A' H', Same F F' → A <+: A' → Rl N' F' A' H' σ2 δt μu → (match r, v with | some y, some v => Rep N.K F' v y | none, none => True | _, _ => False) → Q v H') →
      tYes σ2 H2 fun b H3 => if b = true then teB X N.K n scope elt σ2 H3 fun v H4 => Q (some v) H4 else Q none H3 := by
  intro N' F A σ2 H2 δt μt r μu Q hK R ⟨y, e, hd⟩ k
  subst e
  show if true = true then teB X N.K n scope elt σ2 H2 (fun v H4 => Q (some v) H4) else Q none H2
  exact iteT ⟨N', F, A, δt, μt, y, μu, hK, R, hd, fun v F' A' H' a b c d => k (some v) F' A' H' a b c d⟩
theorem hP1 (g : Go X N W n) : ∀ (N' : En) F A σ2 H2 δt μt r μu (Q : Option V → Hp → Prop), N'.K = N.K → Rl N' F A H2 σ2 δt μt → El1 X N.K n scope c elt δt μt r μu →
      (∀ v F' A' H', Same F F' → A <+: A' → Rl N' F' A' H' σ2 δt μu → (match r, v with | some y, some v => Rep N.K F' v y | none, none => True | _, _ => False) → Q v H') →
      ttB X N.K n scope c σ2 H2 fun b H3 => if b = true then teB X N.K n scope elt σ2 H3 fun v H4 => Q (some v) H4 else Q none H3 := by
  intro N' F A σ2 H2 δt μt r μu Q hK R ⟨μ', ht, hd⟩ k
  refine ⟨N', F, A, δt, μt, r.isSome, μ', hK, R, ht, fun F1 A1 H1 e1 p1 R1 => ?_⟩
  cases r with
  | some y => exact iteT ⟨N', F1, A1, δt, μ', y, μu, hK, R1, hd, fun v F' A' H' a b c d => k (some v) F' A' H' (e1.trans a) (p1.trans b) c d⟩
  | none =>
    have e : μu = μ' := hd
    subst e
    exact iteF (k none F1 A1 H1 e1 p1 R1 trivial)
/-- the new list is frozen -/
theorem lc_frz {σ : L2.St} {F : Hp} {A : List Addr} {H : Hp} {Q : VK} (R : Rl N F A H σ δ μ) (k : EndE N W σ δ F A μ2 Q (.v (.p (.lst ys)))) :
    ∀ D0 F' A' H' vs, Same F F' → A <+: A' → Rc N F' A' H' μ2 → H' D0 = some (.lst vs) → F' D0 = none → D0 ∉ A' → N.H0 D0 = none → Reps N.K F' vs ys → Q (.ref D0) H' := by
  intro D0 F' A' H' vs e p r a b c h0 d
  have sm := same_updN (o := .lst vs) b
  exact k (.ref D0) _ A' H' (e.trans sm) p (R.to (e.trans sm) p (r.adopt b c h0 a)) (.lst upd_same (d.mono sm))
/-- .. or goes on changing -/
theorem lc_mut {σ : L2.St} {F : Hp} {A : List Addr} {H : Hp} {Q : VK} (R : Rl N F A H σ δ μ) (k : EndE N W σ δ F A (μ2 ++ [.lst ys]) Q (.v (.l μ2.length))) :
    ∀ D0 F' A' H' vs, Same F F' → A <+: A' → Rc N F' A' H' μ2 → H' D0 = some (.lst vs) → F' D0 = none → D0 ∉ A' → N.H0 D0 = none → Reps N.K F' vs ys → Q (.ref D0) H' := by
  intro D0 F' A' H' vs e p r a b c h0 d
  have pp : A' <+: A' ++ [D0] := List.prefix_append _ _
  refine k (.ref D0) F' (A' ++ [D0]) H' e (p.trans pp) (R.to e (p.trans pp) (r.adoptM b c h0 ⟨vs, a, d⟩)) ⟨D0, rfl, ?_⟩
  rw [← r.len]; simp
theorem de_lc (g : Go X N W n) (own : List (Str × Nat)) (hi : DI X N W δ μ tg iter ds μ1) (hg : ∀ s H C cl fp, DG (blkX X scope s H C cl fp) N tg f ix) (hl : CmpL (El0 X N.K n scope elt) f (wipeD δ (own.map (·.2))) ds μ1 ys μ2)
    (ok : BlkOk X.N X.env.scope scope own := by exact blkOk_by (by decide +kernel)) (hds : ds.length < sizeLine := by first | (show _ < sizeLine; decide) | (simp; decide)) (hix : ∀ i ∈ ix, i ∈ own.map (·.2) := by decide) (hs : ∀ x, foldedSetIterable iter X.env x = pure x := by intro _; rfl) :
    DE X N W δ μ (.ListComp elt [⟨tg, iter, [], 0⟩] scope pos) (.v (.p (.lst ys))) μ2 :=
  PE.imp (pe_lc (own := own) g.calm g.nd hi ok hg (fun _ _ _ _ _ => pts_nil) (fun s H C cl fp => pe_teB g) hs) fun σ H Q ⟨F, A, R, k⟩ => lc_read g _ hds hix hl (hP0 g) R (lc_frz (W := W) R k)
theorem de_lcM (g : Go X N W n) (own : List (Str × Nat)) (hi : DI X N W δ μ tg iter ds μ1) (hg : ∀ s H C cl fp, DG (blkX X scope s H C cl fp) N tg f ix) (hl : CmpL (El0 X N.K n scope elt) f (wipeD δ (own.map (·.2))) ds μ1 ys μ2)
    (ok : BlkOk X.N X.env.scope scope own := by exact blkOk_by (by decide +kernel)) (hds : ds.length < sizeLine := by first | (show _ < sizeLine; decide) | (simp; decide)) (hix : ∀ i ∈ ix, i ∈ own.map (·.2) := by decide) (hs : ∀ x, foldedSetIterable iter X.env x = pure x := by intro _; rfl) :
    DE X N W δ μ (.ListComp elt [⟨tg, iter, [], 0⟩] scope pos) (.v (.l μ2.length)) (μ2 ++ [.lst ys]) :=
  PE.imp (pe_lc (own := own) g.calm g.nd hi ok hg (fun _ _ _ _ _ => pts_nil) (fun s H C cl fp => pe_teB g) hs) fun σ H Q ⟨F, A, R, k⟩ => lc_read g _ hds hix hl (hP0 g) R (lc_mut (W := W) R k)
theorem de_lcIf (g : Go X N W n) (own : List (Str × Nat)) (hi : DI X N W δ μ tg iter ds μ1) (hg : ∀ s H C cl fp, DG (blkX X scope s H C cl fp) N tg f ix) (hl : CmpL (El1 X N.K n scope c elt) f (wipeD δ (own.map (·.2))) ds μ1 ys μ2)
    (ok : BlkOk X.N X.env.scope scope own := by exact blkOk_by (by decide +kernel)) (hds : ds.length < sizeLine := by first | (show _ < sizeLine; decide) | (simp; decide)) (hix : ∀ i ∈ ix, i ∈ own.map (·.2) := by decide) (hs : ∀ x, foldedSetIterable iter X.env x = pure x := by intro _; rfl) :
    DE X N W δ μ (.ListComp elt [⟨tg, iter, [c], 0⟩] scope pos) (.v (.p (.lst ys))) μ2 :=
  PE.imp (pe_lc (own := own) g.calm g.nd hi ok hg (fun _ _ _ _ _ => pts_one (pt_ttB g)) (fun s H C cl fp => pe_teB g) hs) fun σ H Q ⟨F, A, R, k⟩ => lc_read g _ hds hix hl (hP1 g) R (lc_frz (W := W) R k)
/-- name = [..] -/
theorem ds_setLc (i : Nat) {x : Str} {py spos : Pos} (g : Go X N W n) (own : List (Str × Nat)) (hi : DI X N W δ μ tg iter ds μ1) (hg : ∀ s H C cl fp, DG (blkX X scope s H C cl fp) N tg f ix) (hl : CmpL (El0 X N.K n scope elt) f (wipeD δ (own.map (·.2))) ds μ1 ys μ2)
    (hsw : swapsWith (.ListComp elt [⟨tg, iter, [], 0⟩] scope pos) (some (.Name x py)) spos.line X.env = pure true := by exact sw_true rfl rfl rfl (by decide +kernel)) (hy : X.N[i]? = some x := by rfl) (hyl : X.env.scope.names.lookup x = some .local := by rfl)
    (ok : BlkOk X.N X.env.scope scope own := by exact blkOk_by (by decide +kernel)) (hds : ds.length < sizeLine := by first | (show _ < sizeLine; decide) | (simp; decide)) (hix : ∀ i ∈ ix, i ∈ own.map (·.2) := by decide) (hs : ∀ x, foldedSetIterable iter X.env x = pure x := by intro _; rfl) :
    DS X N W δ μ (.Assign [.Name x py] (.ListComp elt [⟨tg, iter, [], 0⟩] scope pos) spos) (.nx (δ.set i (some (.p (.lst ys)))) μ2) :=
  PS.imp (ps_setLc (own := own) g.calm g.nd hy hyl hsw hi ok hg (fun _ _ _ _ _ => pts_nil) (fun s H C cl fp => pe_teB g) hs) fun K σ H ⟨F, A, R, k⟩ =>
    lc_read g _ hds hix hl (hP0 g) R (lc_frz (W := W) R (show EndE N W σ δ F A μ2 _ (.v (.p (.lst ys))) from fun v F' A' H' e p R' rv => k _ F' A' H' e p (R'.set rv)))
theorem ds_setLcIf (i : Nat) {x : Str} {py spos : Pos} (g : Go X N W n) (own : List (Str × Nat)) (hi : DI X N W δ μ tg iter ds μ1) (hg : ∀ s H C cl fp, DG (blkX X scope s H C cl fp) N tg f ix) (hl : CmpL (El1 X N.K n scope c elt) f (wipeD δ (own.map (·.2))) ds μ1 ys μ2)
    (hsw : swapsWith (.ListComp elt [⟨tg, iter, [c], 0⟩] scope pos) (some (.Name x py)) spos.line X.env = pure true := by exact sw_true rfl rfl rfl (by decide +kernel)) (hy : X.N[i]? = some x := by rfl) (hyl : X.env.scope.names.lookup x = some .local := by rfl)
    (ok : BlkOk X.N X.env.scope scope own := by exact blkOk_by (by decide +kernel)) (hds : ds.length < sizeLine := by first | (show _ < sizeLine; decide) | (simp; decide)) (hix : ∀ i ∈ ix, i ∈ own.map (·.2) := by decide) (hs : ∀ x, foldedSetIterable iter X.env x = pure x := by intro _; rfl) :
    DS X N W δ μ (.Assign [.Name x py] (.ListComp elt [⟨tg, iter, [c], 0⟩] scope pos) spos) (.nx (δ.set i (some (.p (.lst ys)))) μ2) :=
  PS.imp (ps_setLc (own := own) g.calm g.nd hy hyl hsw hi ok hg (fun _ _ _ _ _ => pts_one (pt_ttB g)) (fun s H C cl fp => pe_teB g) hs) fun K σ H ⟨F, A, R, k⟩ =>
    lc_read g _ hds hix hl (hP1 g) R (lc_frz (W := W) R (show EndE N W σ δ F A μ2 _ (.v (.p (.lst ys))) from fun v F' A' H' e p R' rv => k _ F' A' H' e p (R'.set rv)))
theorem CmpL.of_map {fy : D → D} (h : ∀ d ∈ ds, ∃ δt, f d δ = some δt ∧ DEB X N.K n scope elt δt μ (fy d) μ) : CmpL (El0 X N.K n scope elt) f δ ds μ (ds.map fy) μ := by
  induction ds with
  | nil => exact .nil
  | cons d ds ih =>
    obtain ⟨δt, h1, h2⟩ := h d List.mem_cons_self
    exact .keep h1 ⟨_, rfl, h2⟩ (ih fun d hd => h d (List.mem_cons_of_mem _ hd))
end
end Dl

set_option Elab.async false
set_option linter.all false
set_option maxRecDepth 100000
set_option maxHeartbeats 4000000
set_option autoImplicit false
namespace Dl
open PySem PySem.Spec PyProof.Rows L2
/-! ### what type a datum has -/
/-- the type of a value -/
inductive TyD (K : PySem.W.Frag) : D → Value → Prop
  | non : TyD K .non (.type "NoneType")
  | bl (b) : TyD K (.bl b) (.type "bool")
  | int (i) : TyD K (.int i) (.type "int")
  | str (z) : TyD K (.str z) (.type "str")
  | tup (ds) : TyD K (.tup ds) (.type "tuple")
  | lst (ds) : TyD K (.lst ds) (.type "list")
  | dic (ks ds) : TyD K (.dic ks ds) (.type "dict")
  | ins (C ns ds) : TyD K (.ins C ns ds) (.ref C)
section
variable {X : Cx} {N : En} {W : WX} {n : Nat} {δ δ' δ1 δ2 : List (Option S)} {μ μ' μ1 μ2 μ3 : List M} {e a b c o : Expr} {es : List Expr} {ss : List S} {pos p apos : Pos} {d : D} {s s1 s2 : S} {r : Rx} {R : Rel} {k : Nat} {x m f : Str} {dd : List D} {C : Addr}
/-- two expressions, then what is done with both -/
theorem two_then {σ : L2.St} {H : Hp} {pins : List (Addr × Obj)} {sh : Shared} {F : Hp} {A : List Addr} {α : Type} {Q : α → Shared → Prop} {fn : Value → Value → Sem α} (ha : DE X N W δ μ a (.v s1) μ1) (hb : DE X N W δ μ1 b (.v s2) μ2) (I : Inv X pins σ H sh) (R0 : Rl N F A H σ δ μ)
    (h : ∀ v u s3 x y H2 F2 A2, Inv X pins σ H2 s3 → RelV x v → RelV y u → Same F F2 → A <+: A2 → Rl N F2 A2 H2 σ δ μ2 → RepS N.K F2 A2 x s1 → RepS N.K F2 A2 y s2 → wpAny (model X.prog X.w) X.A (fn v u) Q X.xe s3) :
    wpAny (model X.prog X.w) X.A (eval a X.env) (fun v s₁ => wpAny (model X.prog X.w) X.A (eval b X.env) (fun u s₂ => wpAny (model X.prog X.w) X.A (fn v u) Q X.xe s₂) X.xe s₁) X.xe sh :=
  bin ha hb (R := fun x y H2 => ∃ F2 A2, Same F F2 ∧ A <+: A2 ∧ Rl N F2 A2 H2 σ δ μ2 ∧ RepS N.K F2 A2 x s1 ∧ RepS N.K F2 A2 y s2) I
    ⟨F, A, R0, fun x F1 A1 H1 e1 p1 R1 rx => ⟨F1, A1, R1, fun y F2 A2 H2 e2 p2 R2 ry => ⟨F2, A2, e1.trans e2, p1.trans p2, R2, rx.mono e2 p2, ry⟩⟩⟩
    fun v u s3 x y H2 I2 rx ry ⟨F2, A2, e2, p2, R2, h1, h2⟩ => h v u s3 x y H2 F2 A2 I2 rx ry e2 p2 R2 h1 h2
theorem inst_at {pins : List (Addr × Obj)} {σ : L2.St} {H : Hp} {sh : Shared} {a C dx : Addr} {fs : List (Str × V)} (I : Inv X pins σ H sh) (e : H a = some (.ins C dx fs)) : ∃ od, PySem.W.InstAt sh.heap a (PySem.W.instObj C dx) C (some od) := by
  obtain ⟨mA, O, _⟩ := ins_get I.hok e
  obtain ⟨od, h, _⟩ := O.look
  exact ⟨od, h⟩
theorem back_of {pins : List (Addr × Obj)} {σ : L2.St} {Q : VK} {u : Value} {sh : Shared} (h : EP X pins σ Q u sh) : PySem.W.CmpBack (EP X pins σ Q) u sh := by
  obtain ⟨v, H', I, r, q⟩ := h
  cases v with
  | non => cases r; exact ⟨.non, H', I, rfl, q⟩
  | bl b => cases r; exact ⟨.bl b, H', I, rfl, q⟩
  | int i => obtain ⟨t, rfl⟩ := r; exact ⟨.int i, H', I, ⟨t, rfl⟩, q⟩
  | str i => obtain ⟨t, rfl⟩ := r; exact ⟨.str i, H', I, ⟨t, rfl⟩, q⟩
  | byt i => obtain ⟨t, rfl⟩ := r; exact ⟨.byt i, H', I, ⟨t, rfl⟩, q⟩
  | flt i => obtain ⟨t, rfl⟩ := r; exact ⟨.flt i, H', I, ⟨t, rfl⟩, q⟩
  | ref i => cases r; exact ⟨.ref i, H', I, rfl, q⟩
  | ty i => cases r; exact ⟨.ty i, H', I, rfl, q⟩
/-- a op b, both of the class at C, by its own method -/
theorem de_binOwn {op : Operator} {ns ms : List Str} {d1 d2 : List D} (g : Go X N W n) (cm : Cm X.prog X.w X.K X.mg X.base k C (PySem.dunder op.info.2) [] R) (sf : PySem.W.selfFirst X.K C = true)
    (ha : DE X N W δ μ a (.v (.p (.ins C ns d1))) μ1) (hb : DE X N W δ μ1 b (.v (.p (.ins C ms d2))) μ2) (hR : R [.p (.ins C ns d1), .p (.ins C ms d2)] μ2 r μ3) (hk : k ≤ n := by decide) : DE X N W δ μ (.BinOp a op b pos) r μ3 := by
  obtain ⟨f, fd, ps, ds, dvs, Fo, hme, hbi, hd, rd⟩ := cm.ex
  refine ⟨fun pins s σ H Q I ⟨F, A, R0, q⟩ => wpAny_BinOp (two_then ha hb I R0 fun v u s3 x y H2 F2 A2 I2 rx ry e2 p2 R2 h1 h2 => ?_)⟩
  obtain ⟨a1, dx1, fs1, rfl, g1, g2, g3⟩ := rep_ins h1
  obtain ⟨a2, dx2, fs2, rfl, g4, g5, g6⟩ := rep_ins h2
  cases rx
  cases ry
  obtain ⟨od1, J1⟩ := inst_at I2 (R2.rc.sub _ _ g1)
  obtain ⟨od2, J2⟩ := inst_at I2 (R2.rc.sub _ _ g4)
  obtain ⟨m', Fr'⟩ := I2.fr
  refine PySem.W.binop_K Fr' I2.mod.kin J1 J2.type sf hme.at_ hme.fn ?_
  exact wpAny_mono (call_fnD (us := [.ref a1, .ref a2]) (vs := [.ref a1, .ref a2]) (ss := [.p (.ins C ns d1), .p (.ins C ms d2)]) g hk Fo hbi hd rd I2 R2 (.cons h1 (.cons h2 .nil)) (.cons rfl (.cons rfl .nil)) hR (q.to e2 p2)) (fun _ _ h => back_of h) fun _ _ h => h
/-- -a, by its own method -/
theorem de_negOwn {ns : List Str} {d1 : List D} (g : Go X N W n) (cm : Cm X.prog X.w X.K X.mg X.base k C "__neg__" [] R) (ha : DE X N W δ μ a (.v (.p (.ins C ns d1))) μ1) (hR : R [.p (.ins C ns d1)] μ1 r μ2) (hk : k ≤ n := by decide) : DE X N W δ μ (.UnaryOp .USub a pos) r μ2 := by
  obtain ⟨f, fd, ps, ds, dvs, Fo, hme, hbi, hd, rd⟩ := cm.ex
  refine ⟨fun pins s σ H Q I ⟨F, A, R0, q⟩ => UnaryOp_ (thn (ha.run pins s σ H (fun v H' => ∃ F' A', Same F F' ∧ A <+: A' ∧ Rl N F' A' H' σ δ μ1 ∧ RepS N.K F' A' v (.p (.ins C ns d1))) I ⟨F, A, R0, fun v F' A' H' h1 h2 h3 h4 => ⟨F', A', h1, h2, h3, h4⟩⟩) fun u s2 ⟨x, H2, I2, rx, F2, A2, e2, p2, R2, h1⟩ => ?_)⟩
  obtain ⟨a1, dx1, fs1, rfl, g1, g2, g3⟩ := rep_ins h1
  cases rx
  obtain ⟨od1, J1⟩ := inst_at I2 (R2.rc.sub _ _ g1)
  obtain ⟨m', Fr'⟩ := I2.fr
  refine PySem.W.ksp_neg Fr' I2.mod.kin J1 hme.at_ hme.fn ?_
  exact call_fnD (us := [.ref a1]) (vs := [.ref a1]) (ss := [.p (.ins C ns d1)]) g hk Fo hbi hd rd I2 R2 (.cons h1 .nil) (.cons rfl .nil) hR (q.to e2 p2)
theorem sqT_cls {pins : List (Addr × Obj)} {σ : L2.St} {H : Hp} {sh : Shared} {a : Addr} {vs : List V} (I : Inv X pins σ H sh) (h : SqT X.K H a vs) : ∃ ob, sh.heap.get? a = some ob ∧ ob.cls = .type "tuple" := by
  obtain ⟨its, _, ⟨o, h1, h2, _⟩, _⟩ := I.tuple h
  exact ⟨o, h1, h2⟩
theorem type_of {pins : List (Addr × Obj)} {σ : L2.St} {H F : Hp} {sh : Shared} {v : V} {u t : Value} (I : Inv X pins σ H sh) (sm : Same F H) (ty : TyD X.K d t) (rp : Rep X.K F v d) (ru : RelV v u) {M : Model} : PySem.W.Looks M sh.heap (typeOf u) t := by
  cases ty with
  | non => cases rp; cases ru; exact .of_pure rfl
  | bl b => cases rp; cases ru; exact .of_pure rfl
  | int i => cases rp; obtain ⟨t, rfl⟩ := ru; exact .of_pure rfl
  | str i => cases rp; obtain ⟨t, rfl⟩ := ru; exact .of_pure rfl
  | tup ds =>
    obtain ⟨a, vs, rfl, h1, _⟩ := rep_tup rp
    cases ru
    obtain ⟨ob, h2, h3⟩ := sqT_cls I (same_sqT sm h1)
    exact fun A Q E s k q => wpAny_typeOf_ref (k _ _ h2) (by rw [h3]; exact q)
  | lst ds =>
    obtain ⟨a, vs, rfl, h1, _⟩ := rep_lst rp
    cases ru
    obtain ⟨z, its, n, _, e⟩ := (show ObjOk X.prog X.w H sh.heap a (.lst vs) from I.hok a _ (sm _ _ h1))
    exact fun A Q E s k q => wpAny_typeOf_ref (k _ _ e) q
  | dic ks ds =>
    generalize hd : D.dic ks ds = d' at rp
    cases rp with
    | @dic a kvs ds' h1 h2 =>
      cases ru
      obtain ⟨_, _, vs, _, o, es, ep, e, q, _⟩ := (show ObjOk X.prog X.w H sh.heap a (.dK kvs) from I.hok a _ (sm _ _ h1))
      exact fun A Q E s k hq => wpAny_typeOf_ref (k _ _ e) (by rw [q.1]; exact hq)
    | _ => cases hd
  | ins C ns ds =>
    obtain ⟨a, dx, fs, rfl, h1, _⟩ := rep_ins rp
    cases ru
    obtain ⟨od, J⟩ := inst_at I (sm _ _ h1)
    exact J.type
/-! ### == and != by an own __eq__ -/
theorem de_eqOwn {ns : List Str} {d1 : List D} {d2 : D} {t : Value} {q : Bool} (g : Go X N W n) (cm : Cm X.prog X.w X.K X.mg X.base k C "__eq__" [] R) (ty : TyD X.K d2 t) (nf : PySem.W.notFirst X.K C t = true)
    (ha : DE X N W δ μ a (.v (.p (.ins C ns d1))) μ1) (hb : DE X N W δ μ1 b (.v (.p d2)) μ2) (hR : R [.p (.ins C ns d1), .p d2] μ2 (.v (.p (.bl q))) μ3) (hk : k ≤ n := by decide) : DE X N W δ μ (.Compare a [.Eq] [b] pos) (.v (.p (.bl q))) μ3 := by
  obtain ⟨f, fd, ps, ds, dvs, Fo, hme, hbi, hd, rd⟩ := cm.ex
  refine ⟨fun pins s σ H Q I ⟨F, A, R0, q⟩ => wpAny_Compare1 (two_then ha hb I R0 fun v u s3 x y H2 F2 A2 I2 rx ry e2 p2 R2 h1 h2 => ?_) (nomark _)⟩
  obtain ⟨a1, dx1, fs1, rfl, g1, g2, g3⟩ := rep_ins h1
  cases rx
  obtain ⟨od1, J1⟩ := inst_at I2 (R2.rc.sub _ _ g1)
  obtain ⟨m', Fr'⟩ := I2.fr
  refine PySem.W.cmp_ofEq (PySem.W.cmp_K (g.room.units0) Fr' I2.mod.kin J1 (type_of I2 R2.rc.sub ty (by rw [← g.hK]; exact h2) ry) nf hme.at_ hme.fn ?_)
  exact wpAny_mono (call_fnD (us := [.ref a1, u]) (vs := [.ref a1, y]) (ss := [.p (.ins C ns d1), .p d2]) g hk Fo hbi hd rd I2 R2 (.cons h1 (.cons h2 .nil)) (.cons rfl (.cons ry .nil)) hR (q.to e2 p2)) (fun _ _ h => back_of h) fun _ _ h => h
open Builtin in
theorem obj_ne {A : Around} {E : Value → Shared → Prop} {sh : Shared} {K : PySem.W.Frag} {prog : Program} {w : World} {x C f : Addr} {ox : Obj} {od : Option Obj} {u : Value} {Q : Value → Shared → Prop} (hu : A.in1.units < cLine) (X : K.In sh.heap) (I : PySem.W.InstAt sh.heap x ox C od) (hm : PySem.W.mroIn K C (.type "object") = some true) (he : PySem.W.findIn K (.ref C) "__eq__" = some (some (.ref f))) (hf : PySem.W.isFn K (.ref f) = true)
    (h : wpAny (model prog w) A.in1 (call (.ref f) [.ref x, u]) (fun v s' => ∃ b, v = .bool b ∧ Q (.bool (!b)) s') E sh) : wpAny (model prog w) A (call (.builtin "object.__ne__") [.ref x, u]) Q E sh := by
  refine wpAny_call (codeAny_call_builtin PySem.F.cmp_object.ne.plain F.cmpEntry_ne (PySem.W.check_slot (i := "object.__ne__") (owner := "object") (n := "__ne__") (by decide +kernel) (by decide +kernel) (I.type.andThen (PySem.W.looks_mroIn X hm)) (F.cmpArgs_ne _ _) ?_))
  unfold Builtin.«object.__ne__»
  refine wpAny_bind (m := slotArgs "__ne__" 1 _) (wpAny_pure ?_)
  refine wpAny_bind (m := cRoomFor _ _) (wpAny_cRoomFor hu ?_)
  refine wpAny_bind (m := callSpecialIfBound? (.ref x) (Str.ofString "__eq__") _) (PySem.W.ifBound_K X I he hf (wpAny_mono h (fun r s' hq => ?_) fun _ _ y => y))
  obtain ⟨b, rfl, hq⟩ := hq
  exact wpAny_bind (m := truthy (.bool b)) (wpAny_truthy_bool (wpAny_pure hq))
theorem ifBound_b {A : Around} {E : Value → Shared → Prop} {sh : Shared} {K : PySem.W.Frag} {M : Model} {x C : Addr} {ox : Obj} {od : Option Obj} {id : String} {name : Str} {args : List Value} {Q : Option Value → Shared → Prop} (X : K.In sh.heap) (I : PySem.W.InstAt sh.heap x ox C od) (hs : PySem.W.findIn K (.ref C) name = some (some (.builtin id)))
    (hb : ∀ self, bindSpecial (.builtin id) self = pure (.builtin id, [self])) (h : wpAny M A (call (.builtin id) (.ref x :: args)) (fun v => Q (some v)) E sh) : wpAny M A (callSpecialIfBound? (.ref x) name args) Q E sh := by
  simp only [callSpecialIfBound?, bindSpecialIfBound?]
  refine wpAny_holding (wpAny_bind (wpAny_bind (wpAny_bind (I.type.here ((PySem.W.looks_findIn X hs).here ?_)))))
  refine wpAny_bind (wpAny_askSetting (wpAny_ite ?_))
  have fin : wpAny M A (call (.builtin id) ([.ref x] ++ args) >>= fun v => pure (some v)) Q E sh := wpAny_bind (wpAny_mono h (fun v s' h' => wpAny_pure h') fun _ _ h' => h')
  split
  · exact wpAny_bind ((PySem.W.Looks.of_pure (hb _)).here (wpAny_pure (by exact fin)))
  · exact wpAny_tryCatch (wpAny_bind ((PySem.W.Looks.of_pure (hb _)).here (wpAny_pure (by exact fin))))
theorem rich_ne {A : Around} {E : Value → Shared → Prop} {sh : Shared} {K : PySem.W.Frag} {prog : Program} {w : World} {x C f : Addr} {ox : Obj} {od : Option Obj} {u tb : Value} {Q : Value → Shared → Prop} (hu0 : A.units < cLine) (hu : A.in1.in1.units < cLine) (X : K.In sh.heap) (I : PySem.W.InstAt sh.heap x ox C od) (hb : PySem.W.Looks (model prog w) sh.heap (typeOf u) tb) (hn : PySem.W.notFirst K C tb = true)
    (hne : PySem.W.findIn K (.ref C) "__ne__" = some (some (.builtin "object.__ne__"))) (hm : PySem.W.mroIn K C (.type "object") = some true) (he : PySem.W.findIn K (.ref C) "__eq__" = some (some (.ref f))) (hf : PySem.W.isFn K (.ref f) = true)
    (h : wpAny (model prog w) A.in1 (call (.ref f) [.ref x, u]) (fun v s' => ∃ b, v = .bool b ∧ Q (.bool (!b)) s') E sh) : wpAny (model prog w) A (compareOp .NotEq (.ref x) u) Q E sh := by
  refine PySem.W.cmp_ofNotEq ?_
  have one : wpAny (model prog w) A (tryCompare (.ref x) "__ne__" u) (fun r s' => ∃ v, r = some v ∧ Q v s') E sh := by
    unfold tryCompare
    refine wpAny_bind (ifBound_b X I hne PySem.F.cmp_object.ne.bind (obj_ne (by exact Nat.lt_of_succ_lt hu) X I hm he hf (wpAny_mono h (fun v s' hv => ?_) fun _ _ e => e)))
    obtain ⟨b, rfl, hq⟩ := hv
    exact ⟨b, rfl, wpAny_pure ⟨_, rfl, hq⟩⟩
  unfold richCompare
  simp only [oneThing_ref]
  refine wpAny_holding (wpAny_bind (wpAny_cRoomFor hu0 ?_))
  refine wpAny_bind (I.type.here (wpAny_bind (hb.here ?_)))
  split
  · rename_i q
    have e : PySem.W.subIn K tb (.ref C) = some false := by
      rcases Bool.or_eq_true_iff.mp hn with e | e
      · rw [beq_iff_eq.mp e] at q; simp at q
      · exact beq_iff_eq.mp e
    refine wpAny_bind ((PySem.W.looks_subIn X e).here ?_)
    simp only [Bool.false_eq_true, if_false]
    refine wpAny_bind (wpAny_mono one (fun r s' z => ?_) fun _ _ e => e)
    obtain ⟨v, rfl, hq⟩ := z
    exact wpAny_pure hq
  · refine wpAny_bind (wpAny_pure ?_)
    simp only [Bool.false_eq_true, if_false]
    refine wpAny_bind (wpAny_mono one (fun r s' z => ?_) fun _ _ e => e)
    obtain ⟨v, rfl, hq⟩ := z
    exact wpAny_pure hq
/-- a def called where one level of the machine's own stands between -/
theorem call_in1 {pins : List (Addr × Obj)} {σ : L2.St} {H : Hp} {sh : Shared} {F : Hp} {A : List Addr} {Q : VK} {us : List Value} {vs dvs : List V} {ds : List Value} {f : Addr} {fd : FuncData} {ps : List Str} (g : Go X N W n) (hk : k + 1 ≤ n)
    (Fo : FnOk X.prog X.w X.K X.mg X.base (L2.CX X.prog X.w) k f fd ps (spD X.K R)) (hb : Binds X.K fd ps ds) (hd : Vals dvs ds) (rd : ∀ F, Reps X.K F dvs dd) (I : Inv X pins σ H sh) (R0 : Rl N F A H σ δ μ) (rv : RepSs N.K F A vs ss) (ru : Vals vs us)
    (hR : R (ss ++ dd.map S.p) μ r μ') (q : EndE N W σ δ F A μ' Q r) : wpAny (model X.prog X.w) X.A.in1 (call (.ref f) us) (EP X pins σ Q) X.xe sh := by
  have hK := g.hK
  have h : spD X.K R (vs ++ dvs) H Q (WE W σ) := by
    rw [← hK] at rd ⊢
    exact spD_in hR R0 (rv.append (of_reps (rd F))) q.wish
  have r2 : Vals (vs ++ dvs) (us ++ ds) := ru.append hd
  have hl : (us ++ ds).length = ps.length := by rw [← r2.length]; exact Fo.len _ _ _ _ h
  refine wpAny_call (codeAny_mono (Fo.run X.A.in1 X.stack sh H ⟨us, []⟩ (us ++ ds) (vs ++ dvs) Q (WE W σ) (g.room.mono hk).in1 I.env0.in1 (hb sh us I.kIn hl) r2 h) fun r s' hq => ?_)
  cases r with
  | error e => exact passAt g.tk σ pins H sh e s' I hq
  | ok fl =>
    cases fl with
    | ret u => exact I.after hq
    | next => exact False.elim hq
    | brk => exact False.elim hq
    | cont => exact False.elim hq
structure NeOk (K : PySem.W.Frag) (C : Addr) : Prop where
  ne : PySem.W.findIn K (.ref C) "__ne__" = some (some (.builtin "object.__ne__"))
  mro : PySem.W.mroIn K C (.type "object") = some true
theorem de_neOwn {ns : List Str} {d1 : List D} {d2 : D} {t : Value} {q : Bool} (g : Go X N W n) (cm : Cm X.prog X.w X.K X.mg X.base k C "__eq__" [] R) (nk : NeOk X.K C) (ty : TyD X.K d2 t) (nf : PySem.W.notFirst X.K C t = true)
    (ha : DE X N W δ μ a (.v (.p (.ins C ns d1))) μ1) (hb : DE X N W δ μ1 b (.v (.p d2)) μ2) (hR : R [.p (.ins C ns d1), .p d2] μ2 (.v (.p (.bl q))) μ3) (hk : k + 1 ≤ n := by decide) : DE X N W δ μ (.Compare a [.NotEq] [b] pos) (.v (.p (.bl (!q)))) μ3 := by
  obtain ⟨f, fd, ps, ds, dvs, Fo, hme, hbi, hd, rd⟩ := cm.ex
  refine ⟨fun pins s σ H Q I ⟨F, A, R0, qq⟩ => wpAny_Compare1 (two_then ha hb I R0 fun v u s3 x y H2 F2 A2 I2 rx ry e2 p2 R2 h1 h2 => ?_) (nomark _)⟩
  obtain ⟨a1, dx1, fs1, rfl, g1, g2, g3⟩ := rep_ins h1
  cases rx
  obtain ⟨od1, J1⟩ := inst_at I2 (R2.rc.sub _ _ g1)
  have hun := g.room.units
  refine rich_ne g.room.units0 (by show X.A.units + 1 + 1 < _; omega) I2.kIn J1 (type_of I2 R2.rc.sub ty (by rw [← g.hK]; exact h2) ry) nf nk.ne nk.mro hme.at_ hme.fn ?_
  refine wpAny_mono (call_in1 (us := [.ref a1, u]) (vs := [.ref a1, y]) (ss := [.p (.ins C ns d1), .p d2]) (Q := fun v H' => v = .bl q ∧ Q (.bl (!q)) H') g hk Fo hbi hd rd I2 R2 (.cons h1 (.cons h2 .nil)) (.cons rfl (.cons ry .nil)) hR (fun v F' A' H' e' p' R' rv => ?_)) (fun v s' h => ?_) fun _ _ h => h
  · have rv' : Rep N.K F' v (.bl q) := rv
    cases rv'
    exact ⟨rfl, qq (.bl (!q)) F' A' H' (e2.trans e') (p2.trans p') R' (.bl _)⟩
  · obtain ⟨w, H', I', rw', rfl, hq⟩ := h
    cases rw'
    exact ⟨q, rfl, .bl (!q), H', I', rfl, hq⟩

end
end Dl

set_option Elab.async false
set_option linter.all false
set_option maxRecDepth 100000
set_option maxHeartbeats 4000000
set_option autoImplicit false
namespace Dl
open PySem PySem.Spec PyProof.Rows L2
section
variable {K : PySem.W.Frag} {F : Hp} {A : List Addr} {v : V}
theorem rs_int {i : Int} (h : RepS K F A v (.p (.int i))) : v = .int i := by cases (show Rep K F v (.int i) from h); rfl
theorem rs_str {i : Str} (h : RepS K F A v (.p (.str i))) : v = .str i := by cases (show Rep K F v (.str i) from h); rfl
theorem rs_bl {i : Bool} (h : RepS K F A v (.p (.bl i))) : v = .bl i := by cases (show Rep K F v (.bl i) from h); rfl
theorem rs_non (h : RepS K F A v (.p .non)) : v = .non := by cases (show Rep K F v .non from h); rfl
theorem rs_ty {n : String} (h : RepS K F A v (.p (.ty n))) : v = .ty n := by cases (show Rep K F v (.ty n) from h); rfl
theorem rs_adr {n : Addr} (h : RepS K F A v (.p (.adr n))) : v = .ref n := by cases (show Rep K F v (.adr n) from h); rfl
theorem reps_ints : ∀ {vs : List V} {ns : List Int}, Reps K F vs (ns.map D.int) → vs = ns.map V.int
  | _, [], .nil => rfl
  | _, n :: ns, .cons a b => by cases a; rw [reps_ints b]; rfl
theorem reps_bls : ∀ {vs : List V} {ns : List Bool}, Reps K F vs (ns.map D.bl) → vs = ns.map V.bl
  | _, [], .nil => rfl
  | _, n :: ns, .cons a b => by cases a; rw [reps_bls b]; rfl
theorem reps_strs : ∀ {vs : List V} {ns : List Str}, Reps K F vs (ns.map D.str) → vs = ns.map V.str
  | _, [], .nil => rfl
  | _, n :: ns, .cons a b => by cases a; rw [reps_strs b]; rfl
theorem of_ints : ∀ {ns : List Int}, Reps K F (ns.map V.int) (ns.map D.int)
  | [] => .nil
  | n :: ns => .cons (.int n) of_ints
theorem of_strs : ∀ {ns : List Str}, Reps K F (ns.map V.str) (ns.map D.str)
  | [] => .nil
  | n :: ns => .cons (.str n) of_strs
end
section
variable {X : Cx} {N : En} {W : WX} {n : Nat} {δ δ' δ1 δ2 : List (Option S)} {μ μ' μ1 μ2 μ3 : List M} {e a b c o : Expr} {es : List Expr} {ss : List S} {pos p apos : Pos} {d : D} {s s1 s2 : S} {r : Rx}
/-! ### ints -/
theorem o_int {f : Value → Value → Sem Value} {g : Int → Int → Int} (h : OpR X f (rI0 fun i j => .int (g i j))) {i j : Int} : OpOk X N W f μ (.p (.int i)) (.p (.int j)) (.v (.p (.int (g i j)))) μ :=
  ⟨_, h, fun σ δ F A H x y Q R rx ry k => ⟨i, j, rs_int rx, rs_int ry, k.here R (.int _)⟩⟩
theorem o_intC {f : Value → Value → Sem Value} {C : Int → Int → Prop} {g : Int → Int → Int} (h : OpR X f (rI C fun i j => .int (g i j))) {i j : Int} (hc : C i j) : OpOk X N W f μ (.p (.int i)) (.p (.int j)) (.v (.p (.int (g i j)))) μ :=
  ⟨_, h, fun σ δ F A H x y Q R rx ry k => ⟨i, j, rs_int rx, rs_int ry, hc, k.here R (.int _)⟩⟩
theorem o_cmp {f : Value → Value → Sem Value} {g : Int → Int → Bool} (h : OpR X f (rI0 fun i j => .bl (g i j))) {i j : Int} : OpOk X N W f μ (.p (.int i)) (.p (.int j)) (.v (.p (.bl (g i j)))) μ :=
  ⟨_, h, fun σ δ F A H x y Q R rx ry k => ⟨i, j, rs_int rx, rs_int ry, k.here R (.bl _)⟩⟩
theorem o_add {i j : Int} : OpOk X N W (binaryOp .Add) μ (.p (.int i)) (.p (.int j)) (.v (.p (.int (i + j)))) μ := o_int op_add
theorem o_sub {i j : Int} : OpOk X N W (binaryOp .Sub) μ (.p (.int i)) (.p (.int j)) (.v (.p (.int (i - j)))) μ := o_int op_sub
theorem o_mul {i j : Int} (hc : CMul i j) : OpOk X N W (binaryOp .Mult) μ (.p (.int i)) (.p (.int j)) (.v (.p (.int (i * j)))) μ := o_intC op_mul hc
theorem o_mulW {i j : Int} (hc : CMulW i j) : OpOk X N W (binaryOp .Mult) μ (.p (.int i)) (.p (.int j)) (.v (.p (.int (i * j)))) μ := o_intC op_mulW hc
theorem o_div {i j : Int} (hc : CDiv i j) : OpOk X N W (binaryOp .FloorDiv) μ (.p (.int i)) (.p (.int j)) (.v (.p (.int (i / j)))) μ := o_intC op_fdiv hc
theorem o_divW {i j : Int} (hc : CDivW i j) : OpOk X N W (binaryOp .FloorDiv) μ (.p (.int i)) (.p (.int j)) (.v (.p (.int (i / j)))) μ := o_intC op_fdivW hc
theorem o_divN {i j : Int} (hc : CDivN i j) : OpOk X N W (binaryOp .FloorDiv) μ (.p (.int i)) (.p (.int j)) (.v (.p (.int (i.fdiv j)))) μ := o_intC op_fdivN hc
theorem o_mod {i j : Int} (hc : 0 < j) : OpOk X N W (binaryOp .Mod) μ (.p (.int i)) (.p (.int j)) (.v (.p (.int (i % j)))) μ := o_intC op_mod hc
theorem o_modN {i j : Int} (hc : j ≠ 0) : OpOk X N W (binaryOp .Mod) μ (.p (.int i)) (.p (.int j)) (.v (.p (.int (i.fmod j)))) μ := o_intC op_modN hc
theorem op_powW : OpR X (binaryOp .Pow) (rI (fun i j => 0 ≤ j ∧ (Builtin.Int.intBits i : Int) * j ≤ 2 ^ 27) fun i j => .int (i ^ j.toNat)) := opI fun _ _ _ _ _ _ _ hc q => pow_int hc.1 hc.2 q
theorem o_pow {i j : Int} (hc : 0 ≤ j ∧ (Builtin.Int.intBits i : Int) * j ≤ 2 ^ 27) : OpOk X N W (binaryOp .Pow) μ (.p (.int i)) (.p (.int j)) (.v (.p (.int (i ^ j.toNat)))) μ := o_intC op_powW hc
theorem o_lt {i j : Int} : OpOk X N W (compareOp .Lt) μ (.p (.int i)) (.p (.int j)) (.v (.p (.bl (decide (i < j))))) μ := o_cmp op_lt
theorem o_le {i j : Int} : OpOk X N W (compareOp .LtE) μ (.p (.int i)) (.p (.int j)) (.v (.p (.bl (decide (i ≤ j))))) μ := o_cmp op_le
theorem o_gt {i j : Int} : OpOk X N W (compareOp .Gt) μ (.p (.int i)) (.p (.int j)) (.v (.p (.bl (decide (j < i))))) μ := o_cmp op_gt
theorem o_ge {i j : Int} : OpOk X N W (compareOp .GtE) μ (.p (.int i)) (.p (.int j)) (.v (.p (.bl (decide (j ≤ i))))) μ := o_cmp op_ge
theorem o_eqI {i j : Int} : OpOk X N W (compareOp .Eq) μ (.p (.int i)) (.p (.int j)) (.v (.p (.bl (decide (i = j))))) μ :=
  ⟨_, op_eq, fun σ δ F A H x y Q R rx ry k => by
    cases rs_int rx; cases rs_int ry
    exact ⟨rfl, k.here R (by rw [show decide (V.int i = V.int j) = decide (i = j) from by rw [dec_int]; exact Bool.beq_eq_decide_eq ..]; exact .bl _)⟩⟩
theorem o_neI {i j : Int} : OpOk X N W (compareOp .NotEq) μ (.p (.int i)) (.p (.int j)) (.v (.p (.bl (!decide (i = j))))) μ :=
  ⟨_, op_ne, fun σ δ F A H x y Q R rx ry k => by
    cases rs_int rx; cases rs_int ry
    exact ⟨rfl, k.here R (by rw [show decide (V.int i = V.int j) = decide (i = j) from by rw [dec_int]; exact Bool.beq_eq_decide_eq ..]; exact .bl _)⟩⟩
theorem o_eqS {i j : Str} : OpOk X N W (compareOp .Eq) μ (.p (.str i)) (.p (.str j)) (.v (.p (.bl (decide (i = j))))) μ :=
  ⟨_, op_eq, fun σ δ F A H x y Q R rx ry k => by
    cases rs_str rx; cases rs_str ry
    exact ⟨rfl, k.here R (by rw [show decide (V.str i = V.str j) = decide (i = j) from by rw [dec_str]; exact Bool.beq_eq_decide_eq ..]; exact .bl _)⟩⟩
theorem o_neS {i j : Str} : OpOk X N W (compareOp .NotEq) μ (.p (.str i)) (.p (.str j)) (.v (.p (.bl (!decide (i = j))))) μ :=
  ⟨_, op_ne, fun σ δ F A H x y Q R rx ry k => by
    cases rs_str rx; cases rs_str ry
    exact ⟨rfl, k.here R (by rw [show decide (V.str i = V.str j) = decide (i = j) from by rw [dec_str]; exact Bool.beq_eq_decide_eq ..]; exact .bl _)⟩⟩
theorem o_eqB {i j : Bool} : OpOk X N W (compareOp .Eq) μ (.p (.bl i)) (.p (.bl j)) (.v (.p (.bl (decide (i = j))))) μ :=
  ⟨_, op_eq, fun σ δ F A H x y Q R rx ry k => by
    cases rs_bl rx; cases rs_bl ry
    exact ⟨rfl, k.here R (by rw [show decide (V.bl i = V.bl j) = decide (i = j) from by rw [dec_bl]; exact Bool.beq_eq_decide_eq ..]; exact .bl _)⟩⟩
theorem o_neB {i j : Bool} : OpOk X N W (compareOp .NotEq) μ (.p (.bl i)) (.p (.bl j)) (.v (.p (.bl (!decide (i = j))))) μ :=
  ⟨_, op_ne, fun σ δ F A H x y Q R rx ry k => by
    cases rs_bl rx; cases rs_bl ry
    exact ⟨rfl, k.here R (by rw [show decide (V.bl i = V.bl j) = decide (i = j) from by rw [dec_bl]; exact Bool.beq_eq_decide_eq ..]; exact .bl _)⟩⟩
theorem u_neg {i : Int} : UnOk X N W (unaryOp .USub) μ (.p (.int i)) (.v (.p (.int (-i)))) μ :=
  ⟨_, un_neg, fun σ δ F A H x Q R rx k => ⟨i, rs_int rx, k.here R (.int _)⟩⟩
/-! ### texts -/
theorem o_addS {i j : Str} (hl : i.length + j.length ≤ sizeLine) : OpOk X N W (binaryOp .Add) μ (.p (.str i)) (.p (.str j)) (.v (.p (.str (i ++ j)))) μ :=
  ⟨_, op_add_str, fun σ δ F A H x y Q R rx ry k => ⟨i, j, rs_str rx, rs_str ry, hl, k.here R (.str _)⟩⟩
theorem o_inS {c : Nat} {z : Str} : OpOk X N W (compareOp .In) μ (.p (.str ⟨#[c]⟩)) (.p (.str z)) (.v (.p (.bl (decide (c ∈ z.cps.toList))))) μ :=
  ⟨_, op_in_sign, fun σ δ F A H x y Q R rx ry k => ⟨c, z, rs_str rx, rs_str ry, k.here R (.bl _)⟩⟩
theorem op_mulS1 : OpR X (binaryOp .Mult) (fun x y H Q => ∃ (z : Str) (k : Bool), x = .str z ∧ y = .int (if k then 1 else 0) ∧ Q (.str (if k then z else Str.empty)) H) := by
  intro pins s σ H x y v u Q I rx ry h
  obtain ⟨z, k, rfl, rfl, q⟩ := h
  obtain ⟨t, rfl⟩ := rx
  obtain ⟨t', rfl⟩ := ry
  cases k with
  | false => exact PySem.P.mul_str_none (by decide) (by decide) ⟨.str _, H, I.tok _, ⟨_, rfl⟩, q⟩
  | true =>
    refine PySem.P.mul_str (by decide) (fun _ h => by simp at h) (fun _ h => by simp at h) ?_
    show (if (1 : Int) < 1 then _ else if ((1 : Int) == 1 || z.length == 0) = true then _ else _ : Made).post _ _
    rw [if_neg (by decide), if_pos (by simp)]
    exact ⟨.str z, H, I, ⟨t, rfl⟩, q⟩
theorem o_mulS {z : Str} {k : Bool} : OpOk X N W (binaryOp .Mult) μ (.p (.str z)) (.p (.int (if k then 1 else 0))) (.v (.p (.str (if k then z else Str.empty)))) μ :=
  ⟨_, op_mulS1, fun σ δ F A H x y Q R rx ry q => ⟨z, k, rs_str rx, rs_int ry, q.here R (.str _)⟩⟩
/-! ### builtins -/
theorem one_of {K : PySem.W.Frag} {F : Hp} {A : List Addr} {vs : List V} (h : RepSs K F A vs [s]) : ∃ v, vs = [v] ∧ RepS K F A v s := by
  cases h with
  | cons a b => cases b; exact ⟨_, rfl, a⟩
theorem two_of {K : PySem.W.Frag} {F : Hp} {A : List Addr} {vs : List V} (h : RepSs K F A vs [s1, s2]) : ∃ v w, vs = [v, w] ∧ RepS K F A v s1 ∧ RepS K F A w s2 := by
  cases h with
  | cons a b => cases b with
    | cons b c => cases c; exact ⟨_, _, rfl, a, b⟩
theorem c_int {i : Int} : CallOk X N W (.type "int") μ [.p (.int i)] (.v (.p (.int i))) μ :=
  ⟨_, call_int1, fun σ δ F A H vs Q R rv k => by
    obtain ⟨v, rfl, h⟩ := one_of rv
    exact .inl ⟨i, by rw [rs_int h], k.here R (.int _)⟩⟩
theorem c_intB {i : Bool} : CallOk X N W (.type "int") μ [.p (.bl i)] (.v (.p (.int (if i then 1 else 0)))) μ :=
  ⟨_, call_int1, fun σ δ F A H vs Q R rv k => by
    obtain ⟨v, rfl, h⟩ := one_of rv
    exact .inr ⟨i, by rw [rs_bl h], k.here R (.int _)⟩⟩
theorem c_abs {i : Int} : CallOk X N W (.builtin "abs") μ [.p (.int i)] (.v (.p (.int (if i < 0 then -i else i)))) μ :=
  ⟨_, call_abs, fun σ δ F A H vs Q R rv k => by
    obtain ⟨v, rfl, h⟩ := one_of rv
    exact ⟨i, by rw [rs_int h], k.here R (.int _)⟩⟩
theorem c_max2 (g : Go X N W n) {i j : Int} : CallOk X N W (.builtin "max") μ [.p (.int i), .p (.int j)] (.v (.p (.int (if j > i then j else i)))) μ :=
  ⟨_, call_max2 g.calm, fun σ δ F A H vs Q R rv k => by
    obtain ⟨v, w, rfl, h, h'⟩ := two_of rv
    exact ⟨i, j, by rw [rs_int h, rs_int h'], k.here R (.int _)⟩⟩
theorem c_min2 (g : Go X N W n) {i j : Int} : CallOk X N W (.builtin "min") μ [.p (.int i), .p (.int j)] (.v (.p (.int (if j < i then j else i)))) μ :=
  ⟨_, call_min2 g.calm, fun σ δ F A H vs Q R rv k => by
    obtain ⟨v, w, rfl, h, h'⟩ := two_of rv
    exact ⟨i, j, by rw [rs_int h, rs_int h'], k.here R (.int _)⟩⟩
theorem c_lenS {z : Str} (hl : z.length ≤ sizeLine) : CallOk X N W (.builtin "len") μ [.p (.str z)] (.v (.p (.int z.length))) μ :=
  ⟨_, call_len, fun σ δ F A H vs Q R rv k => by
    obtain ⟨v, rfl, h⟩ := one_of rv
    exact ⟨.str z, z.length, by rw [rs_str h], ⟨hl, rfl⟩, k.here R (.int _)⟩⟩
theorem c_lenT (g : Go X N W n) {ds : List D} : CallOk X N W (.builtin "len") μ [.p (.tup ds)] (.v (.p (.int ds.length))) μ :=
  ⟨_, call_len, fun σ δ F A H vs Q R rv k => by
    obtain ⟨v, rfl, h⟩ := one_of rv
    obtain ⟨a, ws, rfl, h1, h2⟩ := rep_tup h
    exact ⟨.ref a, ds.length, rfl, .inr ⟨ws, by rw [← g.hK]; exact same_sqT R.rc.sub h1, h2.length.symm⟩, k.here R (.int _)⟩⟩
theorem c_lenL (g : Go X N W n) {ds : List D} : CallOk X N W (.builtin "len") μ [.p (.lst ds)] (.v (.p (.int ds.length))) μ :=
  ⟨_, call_len, fun σ δ F A H vs Q R rv k => by
    obtain ⟨v, rfl, h⟩ := one_of rv
    obtain ⟨a, ws, rfl, h1, h2⟩ := rep_lst h
    exact ⟨.ref a, ds.length, rfl, .inl ⟨ws, SqL.of (R.rc.sub _ _ h1), h2.length.symm⟩, k.here R (.int _)⟩⟩
theorem c_lenM {j : Nat} {ds : List D} (hj : μ[j]? = some (.lst ds)) : CallOk X N W (.builtin "len") μ [.l j] (.v (.p (.int ds.length))) μ :=
  ⟨_, call_len, fun σ δ F A H vs Q R rv k => by
    obtain ⟨v, rfl, h⟩ := one_of rv
    obtain ⟨a, rfl, ha⟩ := h
    obtain ⟨ws, h1, h2⟩ := R.rc.mus j a _ ha hj
    exact ⟨.ref a, ds.length, rfl, .inl ⟨ws, SqL.of h1, h2.length.symm⟩, k.here R (.int _)⟩⟩
theorem c_sum (g : Go X N W n) {ns : List Int} : CallOk X N W (.builtin "sum") μ [.p (.lst (ns.map D.int))] (.v (.p (.int ns.sum))) μ :=
  ⟨_, cr_sum g.calm, fun σ δ F A H vs Q R rv k => by
    obtain ⟨v, rfl, h⟩ := one_of rv
    obtain ⟨a, ws, rfl, h1, h2⟩ := rep_lst h
    rw [reps_ints h2] at h1
    exact ⟨a, ns, rfl, SqL.of (R.rc.sub _ _ h1), k.here R (.int _)⟩⟩
theorem c_all (g : Go X N W n) {ns : List Bool} : CallOk X N W (.builtin "all") μ [.p (.lst (ns.map D.bl))] (.v (.p (.bl (ns.all id)))) μ :=
  ⟨_, cr_all g.calm, fun σ δ F A H vs Q R rv k => by
    obtain ⟨v, rfl, h⟩ := one_of rv
    obtain ⟨a, ws, rfl, h1, h2⟩ := rep_lst h
    rw [reps_bls h2] at h1
    exact ⟨a, ns, rfl, SqL.of (R.rc.sub _ _ h1), k.here R (.bl _)⟩⟩
theorem c_any (g : Go X N W n) {ns : List Bool} : CallOk X N W (.builtin "any") μ [.p (.lst (ns.map D.bl))] (.v (.p (.bl (ns.any id)))) μ :=
  ⟨_, cr_any g.calm, fun σ δ F A H vs Q R rv k => by
    obtain ⟨v, rfl, h⟩ := one_of rv
    obtain ⟨a, ws, rfl, h1, h2⟩ := rep_lst h
    rw [reps_bls h2] at h1
    exact ⟨a, ns, rfl, SqL.of (R.rc.sub _ _ h1), k.here R (.bl _)⟩⟩
/-! ### methods of texts -/
theorem m_removeprefix {z y : Str} (hl : z.length ≤ sizeLine) : MtOk X N W "str" "str.removeprefix" μ μ (.p (.str z)) [.p (.str y)] (.v (.p (.str (Txt.removeprefix z y)))) μ :=
  ⟨_, mt_removeprefix, fun σ δ F A H x R rx => by rw [rs_str rx]; rfl, fun σ δ F A H x vs Q R rx rv k => by
    obtain ⟨v, rfl, h⟩ := one_of rv
    exact ⟨z, y, rs_str rx, by rw [rs_str h], hl, k.here R (.str _)⟩⟩
theorem m_startswith {z y : Str} : MtOk X N W "str" "str.startswith" μ μ (.p (.str z)) [.p (.str y)] (.v (.p (.bl (Txt.startswith z y)))) μ :=
  ⟨_, mt_startswith, fun σ δ F A H x R rx => by rw [rs_str rx]; rfl, fun σ δ F A H x vs Q R rx rv k => by
    obtain ⟨v, rfl, h⟩ := one_of rv
    exact ⟨z, y, rs_str rx, by rw [rs_str h], k.here R (.bl _)⟩⟩
theorem m_join {z : Str} {ys : List Str} (hl : (ys.map (·.length)).sum + ys.length * z.length ≤ 16777216) : MtOk X N W "str" "str.join" μ μ1 (.p (.str z)) [.p (.lst (ys.map D.str))] (.v (.p (.str (Txt.join z ys)))) μ1 :=
  ⟨_, mt_join, fun σ δ F A H x R rx => by rw [rs_str rx]; rfl, fun σ δ F A H x vs Q R rx rv k => by
    obtain ⟨v, rfl, h⟩ := one_of rv
    obtain ⟨a, ws, rfl, h1, h2⟩ := rep_lst h
    rw [reps_strs h2] at h1
    exact ⟨z, a, ys, rs_str rx, rfl, .inl (SqL.of (R.rc.sub _ _ h1)), hl, k.here R (.str _)⟩⟩
/-! ### items -/
theorem atI_rep {K : PySem.W.Frag} {F : Hp} {vs : List V} {ds : List D} {i : Int} (r : Reps K F vs ds) (h : atI ds i = some d) : ∃ v, atI vs i = some v ∧ Rep K F v d := by
  unfold atI at h ⊢
  rw [r.length]
  obtain ⟨j, h1, h2⟩ := Option.bind_eq_some_iff.mp h
  obtain ⟨v, h3, h4⟩ := r.get h2
  exact ⟨v, by rw [h1]; exact h3, h4⟩
theorem i_lst (g : Go X N W n) {ds : List D} {i : Int} (h : atI ds i = some d) : IxOk X N W μ (.p (.lst ds)) (.p (.int i)) (.v (.p d)) μ :=
  ⟨_, ix_list, fun σ δ F A H x y Q R rx ry k => by
    obtain ⟨a, ws, rfl, h1, h2⟩ := rep_lst rx
    obtain ⟨v, h3, h4⟩ := atI_rep h2 h
    exact ⟨a, ws, i, v, rfl, rs_int ry, SqL.of (R.rc.sub _ _ h1), h3, k.here R h4⟩⟩
theorem i_tup (g : Go X N W n) {ds : List D} {i : Int} (h : atI ds i = some d) : IxOk X N W μ (.p (.tup ds)) (.p (.int i)) (.v (.p d)) μ :=
  ⟨_, ix_tup, fun σ δ F A H x y Q R rx ry k => by
    obtain ⟨a, ws, rfl, h1, h2⟩ := rep_tup rx
    obtain ⟨v, h3, h4⟩ := atI_rep h2 h
    exact ⟨a, ws, i, v, rfl, rs_int ry, by rw [← g.hK]; exact same_sqT R.rc.sub h1, h3, k.here R h4⟩⟩
theorem i_lstM {j : Nat} {ds : List D} {i : Int} (hj : μ[j]? = some (.lst ds)) (h : atI ds i = some d) : IxOk X N W μ (.l j) (.p (.int i)) (.v (.p d)) μ :=
  ⟨_, ix_list, fun σ δ F A H x y Q R rx ry k => by
    obtain ⟨a, rfl, ha⟩ := rx
    obtain ⟨ws, h1, h2⟩ := R.rc.mus j a _ ha hj
    obtain ⟨v, h3, h4⟩ := atI_rep h2 h
    exact ⟨a, ws, i, v, rfl, rs_int ry, SqL.of h1, h3, k.here R h4⟩⟩
theorem i_str {z : Str} {i : Int} {c : Nat} (hl : z.length ≤ sizeLine) (h : atI z.cps.toList i = some c) : IxOk X N W μ (.p (.str z)) (.p (.int i)) (.v (.p (.str ⟨#[c]⟩))) μ :=
  ⟨_, ix_str, fun σ δ F A H x y Q R rx ry k => ⟨z, i, c, rs_str rx, rs_int ry, hl, h, k.here R (.str _)⟩⟩
/-! ### lists that change -/
theorem ds_setM {j : Nat} {ds : List D} {i : Int} {k : Nat} (hv : DE X N W δ μ e (.v (.p d)) μ1) (ho : DE X N W δ μ1 o (.v (.l j)) μ1) (hb : DE X N W δ μ1 b (.v (.p (.int i))) μ1) (hj : μ1[j]? = some (.lst ds)) (hk : ixN ds.length i = some k)
    (hs : swapsWithSole [.Subscript o b p] e pos.line X.env = pure false := by rfl) (hw : swappedStores [.Subscript o b p] e X.env = pure none := by rfl)
    (h1 : (assignEach [.Subscript o b p] X.env).map (·.2) = [assign (.Subscript o b p) X.env] := by rfl)
    (ha : ∀ v, assign (.Subscript o b p) X.env v = (do
      let ov ← holding [v] (eval o X.env)
      let iv ← holding [v, ov] (eval b X.env)
      standAt p
      holding [v, ov, iv] (setItem ov iv v)
      release [v, ov, iv] []) := by intro _; rfl) : DS X N W δ μ (.Assign [.Subscript o b p] e pos) (.nx δ (μ1.set j (.lst (ds.set k d)))) :=
  PS.imp (ps_asg hv (pg_sub ho hb set_list ha) hs hw h1) fun K σ H ⟨F, A, R, q⟩ => ⟨F, A, R, fun v F1 A1 H1 e1 p1 R1 rv => ⟨F1, A1, R1, fun ov F2 A2 H2 e2 p2 R2 ro => ⟨F2, A2, R2, fun iv F3 A3 H3 e3 p3 R3 ri => by
    obtain ⟨a, rfl, ha⟩ := ro
    have rv3 : Rep N.K F3 v d := Rep.mono (e2.trans e3) rv
    have ha3 := getElem?_pre p3 ha
    obtain ⟨ws, h1, h2⟩ := R3.rc.mus j a _ ha3 hj
    refine ⟨a, ws, i, k, rfl, rs_int ri, h1, by rw [h2.length]; exact hk, ?_⟩
    exact q σ F3 A3 _ ((e1.trans e2).trans e3) ((p1.trans p2).trans p3) (R3.to (Same.refl _) (List.prefix_refl _) (R3.rc.write ha3 hj trivial ⟨_, upd_same, h2.set rv3 k⟩))⟩⟩⟩
end
end Dl

set_option Elab.async false
set_option linter.all false
set_option maxRecDepth 100000
set_option maxHeartbeats 4000000
set_option autoImplicit false
namespace Dl
open PySem PySem.Spec PyProof.Rows L2
section
variable {prog : Program} {w : World} {A : Around} {E : Value → Shared → Prop} {s : Shared}
theorem nextOf_ascii {it : Addr} {x : Str} {t : Tok} {i c : Nat} {Q : Value → Shared → Prop} (hit : s.heap.IsStrIter it "str_ascii_iterator" x t i) (hx : x.cps[i]? = some c)
    (hQ : ∀ h', h'.IsStrIter it "str_ascii_iterator" x t (i + 1) → Heap.SameBut it s.heap h' → Q (.str ⟨#[c]⟩ s.toks) { s with heap := h', toks := s.toks + 1 }) :
    wpAny (model prog w) A (Builtin.SmallTypes.nextOf (.ref it)) Q E s := by
  obtain ⟨o, ho, hc, hd⟩ := id hit
  unfold Builtin.SmallTypes.nextOf
  refine wpAny_bind (wpAny_callSpecial?_slot (name := Str.ofString "__next__") hit.typeIs F.slot_str_ascii_iterator_next
    (wpAny_call_entry F.slot_str_ascii_iterator_next hit.typeIs F.entry_str_ascii_iterator_next ?_ (F.args_str_ascii_iterator_next_1 _)))
  show wpAny _ _ (field (.ref it) 0 >>= _) _ _ s
  refine wpAny_bind (wpAny_field ho hd (x := .str x t) rfl ?_)
  show wpAny _ _ (field (.ref it) 1 >>= _) _ _ s
  refine wpAny_bind (wpAny_field ho hd (x := .int i 0) rfl ?_)
  simp only [Int.toNat_natCast, hx]
  refine wpAny_bind (wpAny_setField ho hd (by simp) (wpAny_bind (wpAny_mkStr (wpAny_pure ⟨_, rfl, wpAny_pure (hQ _ ?_ (Heap.SameBut.update ..))⟩) (by show 1 ≤ sizeLine; decide))))
  exact ⟨_, Heap.get?_update_self _ ho (Obj.isFreed_of_fields (Obj.data_mapFields hd _)), (Obj.cls_mapFields ..).trans hc, by
    rw [Obj.data_mapFields hd]; simp [rawInt]⟩
theorem nextOf_wide {it : Addr} {x : Str} {t : Tok} {i c : Nat} {Q : Value → Shared → Prop} (hit : s.heap.IsStrIter it "str_iterator" x t i) (hx : x.cps[i]? = some c)
    (hQ : ∀ h', h'.IsStrIter it "str_iterator" x t (i + 1) → Heap.SameBut it s.heap h' → Q (.str ⟨#[c]⟩ s.toks) { s with heap := h', toks := s.toks + 1 }) :
    wpAny (model prog w) A (Builtin.SmallTypes.nextOf (.ref it)) Q E s := by
  obtain ⟨o, ho, hc, hd⟩ := id hit
  unfold Builtin.SmallTypes.nextOf
  refine wpAny_bind (wpAny_callSpecial?_slot (name := Str.ofString "__next__") hit.typeIs F.slot_str_iterator_next
    (wpAny_call_entry F.slot_str_iterator_next hit.typeIs F.entry_str_iterator_next ?_ (F.args_str_iterator_next_1 _)))
  show wpAny _ _ (field (.ref it) 0 >>= _) _ _ s
  refine wpAny_bind (wpAny_field ho hd (x := .str x t) rfl ?_)
  show wpAny _ _ (field (.ref it) 1 >>= _) _ _ s
  refine wpAny_bind (wpAny_field ho hd (x := .int i 0) rfl ?_)
  simp only [Int.toNat_natCast, hx]
  refine wpAny_bind (wpAny_setField ho hd (by simp) (wpAny_bind (wpAny_mkStr (wpAny_pure ⟨_, rfl, wpAny_pure (hQ _ ?_ (Heap.SameBut.update ..))⟩) (by show 1 ≤ sizeLine; decide))))
  exact ⟨_, Heap.get?_update_self _ ho (Obj.isFreed_of_fields (Obj.data_mapFields hd _)), (Obj.cls_mapFields ..).trans hc, by
    rw [Obj.data_mapFields hd]; simp [rawInt]⟩
theorem nextOf_ascii_end {it : Addr} {x : Str} {t : Tok} {i : Nat} {Q : Value → Shared → Prop} (hh : A.handled = none) (hit : s.heap.IsStrIter it "str_ascii_iterator" x t i) (hx : x.cps[i]? = none)
    (hE : ∀ h' e, Heap.ExtBut it s.heap h' → (∃ o, h'.get? e = some o ∧ o.cls = .type "StopIteration") → E (.ref e) { s with heap := h' }) : wpAny (model prog w) A (Builtin.SmallTypes.nextOf (.ref it)) Q E s := by
  obtain ⟨o, ho, hc, hd⟩ := id hit
  unfold Builtin.SmallTypes.nextOf
  refine wpAny_bind (wpAny_callSpecial?_slot (name := Str.ofString "__next__") hit.typeIs F.slot_str_ascii_iterator_next
    (wpAny_call_entry F.slot_str_ascii_iterator_next hit.typeIs F.entry_str_ascii_iterator_next ?_ (F.args_str_ascii_iterator_next_1 _)))
  show wpAny _ _ (field (.ref it) 0 >>= _) _ _ s
  refine wpAny_bind (wpAny_field ho hd (x := .str x t) rfl ?_)
  show wpAny _ _ (field (.ref it) 1 >>= _) _ _ s
  refine wpAny_bind (wpAny_field ho hd (x := .int i 0) rfl ?_)
  simp only [Int.toNat_natCast, hx]
  refine wpAny_bind (wpAny_rule (wpAny_bind (wpAny_setField ho hd (by simp) (wpAny_bind (wpAny_letGo ?_)))))
  show wpAny _ _ (newExc (.type "StopIteration") [] >>= _) _ _ _
  refine wpAny_bind ?_
  simp only [newExc, newTuple]
  refine wpAny_bind (wpAny_newObj_type ?_ (by size_fits))
  refine wpAny_bind (m := firstArgMember _ _) (wpAny_of_eq (a := Value.none) (by first | rfl | (simp only [firstArgMember]; rfl)) ?_)
  refine wpAny_newObj_type ?_ (by size_fits)
  simp only [raiseNew]
  refine wpAny_bind (wpAny_handled ?_)
  rw [show A.in1.handled = none from hh]
  refine wpAny_bind (wpAny_pure (wpAny_throw ?_))
  exact hE _ _ (((Heap.SameBut.update ..).extBut.push _).push _) ⟨_, Heap.get?_push_size _ rfl, rfl⟩
theorem nextOf_wide_end {it : Addr} {x : Str} {t : Tok} {i : Nat} {Q : Value → Shared → Prop} (hh : A.handled = none) (hit : s.heap.IsStrIter it "str_iterator" x t i) (hx : x.cps[i]? = none)
    (hE : ∀ h' e, Heap.ExtBut it s.heap h' → (∃ o, h'.get? e = some o ∧ o.cls = .type "StopIteration") → E (.ref e) { s with heap := h' }) : wpAny (model prog w) A (Builtin.SmallTypes.nextOf (.ref it)) Q E s := by
  obtain ⟨o, ho, hc, hd⟩ := id hit
  unfold Builtin.SmallTypes.nextOf
  refine wpAny_bind (wpAny_callSpecial?_slot (name := Str.ofString "__next__") hit.typeIs F.slot_str_iterator_next
    (wpAny_call_entry F.slot_str_iterator_next hit.typeIs F.entry_str_iterator_next ?_ (F.args_str_iterator_next_1 _)))
  show wpAny _ _ (field (.ref it) 0 >>= _) _ _ s
  refine wpAny_bind (wpAny_field ho hd (x := .str x t) rfl ?_)
  show wpAny _ _ (field (.ref it) 1 >>= _) _ _ s
  refine wpAny_bind (wpAny_field ho hd (x := .int i 0) rfl ?_)
  simp only [Int.toNat_natCast, hx]
  refine wpAny_bind (wpAny_rule (wpAny_bind (wpAny_setField ho hd (by simp) (wpAny_bind (wpAny_letGo ?_)))))
  show wpAny _ _ (newExc (.type "StopIteration") [] >>= _) _ _ _
  refine wpAny_bind ?_
  simp only [newExc, newTuple]
  refine wpAny_bind (wpAny_newObj_type ?_ (by size_fits))
  refine wpAny_bind (m := firstArgMember _ _) (wpAny_of_eq (a := Value.none) (by first | rfl | (simp only [firstArgMember]; rfl)) ?_)
  refine wpAny_newObj_type ?_ (by size_fits)
  simp only [raiseNew]
  refine wpAny_bind (wpAny_handled ?_)
  rw [show A.in1.handled = none from hh]
  refine wpAny_bind (wpAny_pure (wpAny_throw ?_))
  exact hE _ _ (((Heap.SameBut.update ..).extBut.push _).push _) ⟨_, Heap.get?_push_size _ rfl, rfl⟩
end
/-- an iterator that a zip draws from: at it; what it leans on stands at dep; its i-th value -/
structure ItC (it : Addr) (dep : List Addr) (len : Nat) (val : Nat → Value → Prop) (tn : Nat → Heap → Prop) : Prop where
  obj : ∀ i h, tn i h → ∃ o, h.get? it = some o ∧ ∀ v, o.data ≠ .cell v
  keep : ∀ i h h', tn i h → (∀ b o, b = it ∨ b ∈ dep → h.get? b = some o → h'.get? b = some o) → tn i h'
  item : ∀ (prog : Program) (w : World) (A : Around) (E : Value → Shared → Prop) (s : Shared) (Q : Value → Shared → Prop) (i : Nat), i < len → tn i s.heap → (∀ x h' tk, val i x → tn (i + 1) h' → Heap.SameBut it s.heap h' → Q x { s with heap := h', toks := tk }) →
    wpAny (model prog w) A (Builtin.SmallTypes.nextOf (.ref it)) Q E s
  stop : ∀ (prog : Program) (w : World) (A : Around) (E : Value → Shared → Prop) (s : Shared) (Q : Value → Shared → Prop), A.handled = none → tn len s.heap → (∀ h' e, Heap.ExtBut it s.heap h' → (∃ o, h'.get? e = some o ∧ o.cls = .type "StopIteration") → E (.ref e) { s with heap := h' }) →
    wpAny (model prog w) A (Builtin.SmallTypes.nextOf (.ref it)) Q E s
theorem itc_list {it l : Addr} {its : List Value} : ItC it [l] its.length (fun i x => its[i]? = some x) (fun i h => h.IsListIter it l i ∧ h.IsList l its.toArray) where
  obj := fun i h ⟨⟨o, e, _, d⟩, _⟩ => ⟨o, e, fun v z => by rw [d] at z; cases z⟩
  keep := fun i h h' ⟨a, b⟩ k => ⟨a.at fun o e => k it o (.inl rfl) e, by
    obtain ⟨o, e, r⟩ := b
    exact ⟨o, k l o (.inr (by simp)) e, r⟩⟩
  item := fun prog w A E s Q i hi ⟨a, b⟩ hq => wpAny_nextOf_list_item a b (x := its[i]) (by simp [hi]) fun h' a' sb => hq _ h' s.toks (by simp [hi]) ⟨a', by
    obtain ⟨o, e, r⟩ := b
    have ne : l ≠ it := fun z => by
      obtain ⟨o', e', c', _⟩ := a
      rw [← z, e] at e'; cases e'
      obtain ⟨c, _⟩ := r
      rw [c] at c'
      exact absurd c' (by decide)
    exact ⟨o, (sb.2 l ne).trans e, r⟩⟩ sb
  stop := fun prog w A E s Q hh ⟨a, b⟩ he => wpAny_nextOf_list_end hh a b (by simp) he
theorem itc_tup {it l : Addr} {its : List Value} : ItC it [l] its.length (fun i x => its[i]? = some x) (fun i h => h.IsTupleIter it l i ∧ h.IsTuple l its.toArray) where
  obj := fun i h ⟨⟨o, e, _, d⟩, _⟩ => ⟨o, e, fun v z => by rw [d] at z; cases z⟩
  keep := fun i h h' ⟨a, b⟩ k => ⟨a.at fun o e => k it o (.inl rfl) e, by
    obtain ⟨o, e, r⟩ := b
    exact ⟨o, k l o (.inr (by simp)) e, r⟩⟩
  item := fun prog w A E s Q i hi ⟨a, b⟩ hq => RZ.nextOf_tuple_item a b (x := its[i]) (by simp [hi]) fun h' a' sb => hq _ h' s.toks (by simp [hi]) ⟨a', by
    obtain ⟨o, e, r⟩ := b
    have ne : l ≠ it := fun z => by
      obtain ⟨o', e', c', _⟩ := a
      rw [← z, e] at e'; cases e'
      obtain ⟨c, _⟩ := r
      rw [c] at c'
      exact absurd c' (by decide)
    exact ⟨o, (sb.2 l ne).trans e, r⟩⟩ sb
  stop := fun prog w A E s Q hh ⟨a, b⟩ he => RZ.nextOf_tuple_end hh a b (by simp) he
theorem itc_str {it : Addr} {z : Str} {t : Tok} {ty : String} (hty : ty = "str_ascii_iterator" ∨ ty = "str_iterator") : ItC it [] z.cps.size (fun i x => ∃ c u, z.cps[i]? = some c ∧ x = .str ⟨#[c]⟩ u) (fun i h => h.IsStrIter it ty z t i) where
  obj := fun i h ⟨o, e, _, d⟩ => ⟨o, e, fun v z => by rw [d] at z; cases z⟩
  keep := fun i h h' st k => let ⟨o, ho, r⟩ := st; ⟨o, k it o (.inl rfl) ho, r⟩
  item := fun prog w A E s Q i hi st hq => by
    rcases hty with e | e
    · subst e; exact nextOf_ascii st (c := z.cps[i]) (by simp [hi]) fun h' a' sb => hq _ h' _ ⟨_, _, by simp [hi], rfl⟩ a' sb
    · subst e; exact nextOf_wide st (c := z.cps[i]) (by simp [hi]) fun h' a' sb => hq _ h' _ ⟨_, _, by simp [hi], rfl⟩ a' sb
  stop := fun prog w A E s Q hh st he => by
    rcases hty with e | e
    · subst e; exact nextOf_ascii_end hh st (by simp) he
    · subst e; exact nextOf_wide_end hh st (by simp) he
/-- all of a zip's own objects and what it leans on stand apart -/
structure ZAp (z TI TO i1 i2 : Addr) (d1 d2 : List Addr) : Prop where
  TIz : TI ≠ z
  TOz : TO ≠ z
  i1z : i1 ≠ z
  i2z : i2 ≠ z
  TITO : TI ≠ TO
  TIi1 : TI ≠ i1
  TIi2 : TI ≠ i2
  TOi1 : TO ≠ i1
  TOi2 : TO ≠ i2
  i12 : i1 ≠ i2
  dz : ∀ b ∈ d1 ++ d2, b ≠ z ∧ b ≠ TO ∧ b ≠ i1 ∧ b ≠ i2
section
variable {prog : Program} {w : World} {A : Around} {E : Value → Shared → Prop} {s : Shared} {z TI TO i1 i2 : Addr} {d1 d2 : List Addr} {n1 n2 : Nat} {v1 v2 : Nat → Value → Prop} {t1 t2 : Nat → Heap → Prop} {a b : Value} {k : Nat}
theorem zip_itemG {Q : Value → Shared → Prop} (D : ZAp z TI TO i1 i2 d1 d2) (C1 : ItC i1 d1 n1 v1 t1) (C2 : ItC i2 d2 n2 v2 t2)
    (hz : IsZip s.heap z TI TO .none) (hTI : IsPair s.heap TI (.ref i1) (.ref i2)) (hTO : IsPair s.heap TO a b) (h1 : t1 k s.heap) (h2 : t2 k s.heap) (l1 : k < n1) (l2 : k < n2)
    (hQ : ∀ h' tk x y, v1 k x → v2 k y → IsZip h' z TI TO (rawInt s.heap.objs.size) → IsPair h' TO x y → t1 (k + 1) h' → t2 (k + 1) h' → IsPair h' s.heap.objs.size x y → h'.objs.size = s.heap.objs.size + 1 →
      (∀ c o, c ≠ z → c ≠ TO → c ≠ i1 → c ≠ i2 → s.heap.get? c = some o → h'.get? c = some o) → Q (.ref s.heap.objs.size) { s with heap := h', toks := tk }) :
    wpAny (model prog w) A (Builtin.«zip.__next__» ⟨[.ref z], []⟩) (fun fin s' => ∃ v, fin = .done (.ret v) ∧ Q v s') E s := by
  have dd1 : ∀ b ∈ d1, b ≠ z ∧ b ≠ TO ∧ b ≠ i1 ∧ b ≠ i2 := fun b h => D.dz b (List.mem_append_left _ h)
  have dd2 : ∀ b ∈ d2, b ≠ z ∧ b ≠ TO ∧ b ≠ i1 ∧ b ≠ i2 := fun b h => D.dz b (List.mem_append_right _ h)
  have K1 : ∀ {i h h' c}, t1 i h → Heap.ExtBut c h h' → c = z ∨ c = TO ∨ c = i2 → t1 i h' := fun {i h h' c} st hs hc => C1.keep i h h' st fun b o hb e => hs b o (by
    rcases hb with rfl | hb
    · rcases hc with rfl | rfl | rfl
      · exact D.i1z
      · exact D.TOi1.symm
      · exact D.i12
    · rcases hc with rfl | rfl | rfl
      · exact (dd1 b hb).1
      · exact (dd1 b hb).2.1
      · exact (dd1 b hb).2.2.2) e
  have K2 : ∀ {i h h' c}, t2 i h → Heap.ExtBut c h h' → c = z ∨ c = TO ∨ c = i1 → t2 i h' := fun {i h h' c} st hs hc => C2.keep i h h' st fun b o hb e => hs b o (by
    rcases hb with rfl | hb
    · rcases hc with rfl | rfl | rfl
      · exact D.i2z
      · exact D.TOi2.symm
      · exact D.i12.symm
    · rcases hc with rfl | rfl | rfl
      · exact (dd2 b hb).1
      · exact (dd2 b hb).2.1
      · exact (dd2 b hb).2.2.1) e
  show wpAny _ _ (field (.ref z) 2 >>= _) _ _ _
  refine wpAny_bind (wpAny_field hz rfl (x := .bool false) rfl ?_)
  show wpAny _ _ (field (.ref z) 3 >>= _) _ _ _
  refine wpAny_bind (wpAny_field hz rfl (x := .ref TI) rfl ?_)
  refine wpAny_bind (wpAny_seqItems hTI rfl ?_)
  show wpAny _ _ (Builtin.SmallTypes.ownedTupleIsFree (.ref z) >>= _) _ _ _
  refine wpAny_bind ?_
  unfold Builtin.SmallTypes.ownedTupleIsFree
  refine wpAny_bind (wpAny_field hz rfl (x := .none) rfl (wpAny_pure ?_))
  simp only [if_true]
  refine wpAny_bind (wpAny_rule ?_)
  refine wpAny_bind (wpAny_field hz rfl (x := .ref TO) rfl ?_)
  refine wpAny_bind (wpAny_setField_rec hz (by simp) fun h₁ hz₁ hs₁ => ?_)
  replace hz₁ : IsZip h₁ z TI TO .ellipsis := hz₁
  refine wpAny_bind ?_
  simp only [List.zipIdx_cons, List.zipIdx_nil, List.forIn_cons, List.forIn_nil]
  refine wpAny_bind (wpAny_bind (wpAny_onRaise ?_))
  show wpAny _ _ (Builtin.SmallTypes.nextOf (.ref i1) >>= _) _ _ _
  refine wpAny_bind (C1.item prog w _ _ { s with heap := h₁ } _ k l1 (K1 h1 hs₁.extBut (.inl rfl)) fun x h₂ tk₂ hx h1₂ hs₂ => wpAny_pure ?_)
  have hTO₂ : IsPair h₂ TO a b := hs₂.extBut _ _ D.TOi1 (hs₁.extBut _ _ D.TOz hTO)
  refine wpAny_bind (wpAny_seqItems hTO₂ rfl ?_)
  refine wpAny_bind (wpAny_updateSeq_pair hTO₂ fun h₃ hTO₃ hs₃ => ?_)
  replace hTO₃ : IsPair h₃ TO x b := hTO₃
  refine wpAny_bind (wpAny_letGo (wpAny_pure ?_))
  refine wpAny_bind (wpAny_bind (wpAny_onRaise ?_))
  show wpAny _ _ (Builtin.SmallTypes.nextOf (.ref i2) >>= _) _ _ _
  refine wpAny_bind (C2.item prog w _ _ { s with heap := h₃, toks := tk₂ } _ k l2 (K2 (K2 (K2 h2 hs₁.extBut (.inl rfl)) hs₂.extBut (.inr (.inr rfl))) hs₃.extBut (.inr (.inl rfl))) fun y h₄ tk₄ hy h2₄ hs₄ => wpAny_pure ?_)
  have hTO₄ : IsPair h₄ TO x b := hs₄.extBut _ _ D.TOi2 hTO₃
  refine wpAny_bind (wpAny_seqItems hTO₄ rfl ?_)
  refine wpAny_bind (wpAny_updateSeq_pair hTO₄ fun h₅ hTO₅ hs₅ => ?_)
  replace hTO₅ : IsPair h₅ TO x y := hTO₅
  refine wpAny_bind (wpAny_letGo (wpAny_pure (wpAny_pure ?_)))
  refine wpAny_bind (wpAny_seqItems hTO₅ rfl ?_)
  refine wpAny_bind (wpAny_newTuple ?_)
  have hsz : h₅.objs.size = s.heap.objs.size := by rw [hs₅.1, hs₄.1, hs₃.1, hs₂.1, hs₁.1]
  have hz₅ : IsZip h₅ z TI TO .ellipsis := hs₅.extBut _ _ D.TOz.symm (hs₄.extBut _ _ D.i2z.symm (hs₃.extBut _ _ D.TOz.symm (hs₂.extBut _ _ D.i1z.symm hz₁)))
  have hk₅ : ∀ c o, c ≠ z → c ≠ TO → c ≠ i1 → c ≠ i2 → s.heap.get? c = some o → h₅.get? c = some o := fun c o c1 c2 c3 c4 e =>
    hs₅.extBut _ _ c2 (hs₄.extBut _ _ c4 (hs₃.extBut _ _ c2 (hs₂.extBut _ _ c3 (hs₁.extBut _ _ c1 e))))
  have h1₅ : t1 (k + 1) h₅ := K1 (K1 (K1 h1₂ hs₃.extBut (.inr (.inl rfl))) hs₄.extBut (.inr (.inr rfl))) hs₅.extBut (.inr (.inl rfl))
  have h2₅ : t2 (k + 1) h₅ := K2 h2₄ hs₅.extBut (.inr (.inl rfl))
  have hzlt : z < h₅.objs.size := Heap.lt_size hz₅
  show wpAny _ _ (Builtin.SmallTypes.ownedTupleHandOut (.ref z) (.ref h₅.objs.size) >>= _) _ _ _
  refine wpAny_bind ?_
  unfold Builtin.SmallTypes.ownedTupleHandOut
  have hz₆ : IsZip (h₅.push { cls := .type "tuple", data := .seq #[x, y] }) z TI TO .ellipsis := Heap.get?_push_of_some _ hz₅
  refine wpAny_bind (wpAny_setField_rec hz₆ (by simp) fun h₇ hz₇ hs₇ => ?_)
  replace hz₇ : IsZip h₇ z TI TO (rawInt h₅.objs.size) := hz₇
  refine wpAny_setField_rec hz₇ (by simp) fun h₈ hz₈ hs₈ => ?_
  replace hz₈ : IsZip h₈ z TI TO (rawInt h₅.objs.size) := hz₈
  have up : ∀ c o, c ≠ z → h₅.get? c = some o → h₈.get? c = some o := fun c o c1 e => hs₈.extBut _ _ c1 (hs₇.extBut _ _ c1 (Heap.get?_push_of_some _ e))
  have hT₈ : IsPair h₈ h₅.objs.size x y := hs₈.extBut _ _ (Nat.ne_of_gt hzlt) (hs₇.extBut _ _ (Nat.ne_of_gt hzlt) (Heap.get?_push_size _ rfl))
  have hz8 : h₈.objs.size = h₅.objs.size + 1 := by rw [hs₈.1, hs₇.1, Heap.size_push]
  rw [hsz] at hz₈ hT₈ hz8
  refine wpAny_pure ⟨_, rfl, ?_⟩
  show Q (.ref h₅.objs.size) _
  rw [hsz]
  exact hQ h₈ tk₄ x y hx hy hz₈ (up _ _ D.TOz hTO₅) (K1 h1₅ (c := z) (fun c o c1 e => up c o c1 e) (.inl rfl)) (K2 h2₅ (c := z) (fun c o c1 e => up c o c1 e) (.inl rfl)) hT₈ hz8 fun c o c1 c2 c3 c4 e => up c o c1 (hk₅ c o c1 c2 c3 c4 e)
theorem zip_endG {Q : Fin → Shared → Prop} (hh : A.handled = none) (D : ZAp z TI TO i1 i2 d1 d2) (C1 : ItC i1 d1 n1 v1 t1) (C2 : ItC i2 d2 n2 v2 t2)
    (hz : IsZip s.heap z TI TO .none) (hTI : IsPair s.heap TI (.ref i1) (.ref i2)) (hTO : IsPair s.heap TO a b) (h1 : t1 k s.heap) (h2 : t2 k s.heap) (hend : k = n1 ∨ (k < n1 ∧ k = n2))
    (hE : ∀ h' tk e, (∀ c o, c ≠ z → c ≠ TO → c ≠ i1 → c ≠ i2 → s.heap.get? c = some o → h'.get? c = some o) → (∃ o, h'.get? e = some o ∧ o.cls = .type "StopIteration") → E (.ref e) { s with heap := h', toks := tk }) :
    wpAny (model prog w) A (Builtin.«zip.__next__» ⟨[.ref z], []⟩) Q E s := by
  have dd1 : ∀ b ∈ d1, b ≠ z ∧ b ≠ TO ∧ b ≠ i1 ∧ b ≠ i2 := fun b h => D.dz b (List.mem_append_left _ h)
  have dd2 : ∀ b ∈ d2, b ≠ z ∧ b ≠ TO ∧ b ≠ i1 ∧ b ≠ i2 := fun b h => D.dz b (List.mem_append_right _ h)
  have K1 : ∀ {i h h' c}, t1 i h → Heap.ExtBut c h h' → c = z ∨ c = TO ∨ c = i2 → t1 i h' := fun {i h h' c} st hs hc => C1.keep i h h' st fun b o hb e => hs b o (by
    rcases hb with rfl | hb
    · rcases hc with rfl | rfl | rfl
      · exact D.i1z
      · exact D.TOi1.symm
      · exact D.i12
    · rcases hc with rfl | rfl | rfl
      · exact (dd1 b hb).1
      · exact (dd1 b hb).2.1
      · exact (dd1 b hb).2.2.2) e
  have K2 : ∀ {i h h' c}, t2 i h → Heap.ExtBut c h h' → c = z ∨ c = TO ∨ c = i1 → t2 i h' := fun {i h h' c} st hs hc => C2.keep i h h' st fun b o hb e => hs b o (by
    rcases hb with rfl | hb
    · rcases hc with rfl | rfl | rfl
      · exact D.i2z
      · exact D.TOi2.symm
      · exact D.i12.symm
    · rcases hc with rfl | rfl | rfl
      · exact (dd2 b hb).1
      · exact (dd2 b hb).2.1
      · exact (dd2 b hb).2.2.1) e
  show wpAny _ _ (field (.ref z) 2 >>= _) _ _ _
  refine wpAny_bind (wpAny_field hz rfl (x := .bool false) rfl ?_)
  show wpAny _ _ (field (.ref z) 3 >>= _) _ _ _
  refine wpAny_bind (wpAny_field hz rfl (x := .ref TI) rfl ?_)
  refine wpAny_bind (wpAny_seqItems hTI rfl ?_)
  show wpAny _ _ (Builtin.SmallTypes.ownedTupleIsFree (.ref z) >>= _) _ _ _
  refine wpAny_bind ?_
  unfold Builtin.SmallTypes.ownedTupleIsFree
  refine wpAny_bind (wpAny_field hz rfl (x := .none) rfl (wpAny_pure ?_))
  simp only [if_true]
  refine wpAny_bind (wpAny_rule ?_)
  refine wpAny_bind (wpAny_field hz rfl (x := .ref TO) rfl ?_)
  refine wpAny_bind (wpAny_setField_rec hz (by simp) fun h₁ hz₁ hs₁ => ?_)
  replace hz₁ : IsZip h₁ z TI TO .ellipsis := hz₁
  refine wpAny_bind ?_
  simp only [List.zipIdx_cons, List.zipIdx_nil, List.forIn_cons, List.forIn_nil]
  refine wpAny_bind (wpAny_bind (wpAny_onRaise ?_))
  show wpAny _ _ (Builtin.SmallTypes.nextOf (.ref i1) >>= _) _ _ _
  rcases hend with hk | ⟨l1, hk⟩
  · subst hk
    refine wpAny_bind (C1.stop prog w _ _ { s with heap := h₁ } _ hh (K1 h1 hs₁.extBut (.inl rfl)) fun h₂ e hs₂ he => ?_)
    obtain ⟨oe, hoe, hce⟩ := he
    have hz₂ : IsZip h₂ z TI TO .ellipsis := hs₂ _ _ D.i1z.symm hz₁
    have hez : e ≠ z := fun x => by subst x; rw [hz₂] at hoe; cases hoe; simp at hce
    refine wpAny_setField_rec hz₂ (by simp) fun h₃ _ hs₃ => hE h₃ s.toks e (fun c o c1 _ c3 _ x => hs₃.extBut _ _ c1 (hs₂ _ _ c3 (hs₁.extBut _ _ c1 x))) ⟨oe, hs₃.extBut _ _ hez hoe, hce⟩
  · subst hk
    refine wpAny_bind (C1.item prog w _ _ { s with heap := h₁ } _ _ l1 (K1 h1 hs₁.extBut (.inl rfl)) fun x h₂ tk₂ hx h1₂ hs₂ => wpAny_pure ?_)
    have hTO₂ : IsPair h₂ TO a b := hs₂.extBut _ _ D.TOi1 (hs₁.extBut _ _ D.TOz hTO)
    refine wpAny_bind (wpAny_seqItems hTO₂ rfl ?_)
    refine wpAny_bind (wpAny_updateSeq_pair hTO₂ fun h₃ hTO₃ hs₃ => ?_)
    refine wpAny_bind (wpAny_letGo (wpAny_pure ?_))
    refine wpAny_bind (wpAny_bind (wpAny_onRaise ?_))
    show wpAny _ _ (Builtin.SmallTypes.nextOf (.ref i2) >>= _) _ _ _
    refine wpAny_bind (C2.stop prog w _ _ { s with heap := h₃, toks := tk₂ } _ hh (K2 (K2 (K2 h2 hs₁.extBut (.inl rfl)) hs₂.extBut (.inr (.inr rfl))) hs₃.extBut (.inr (.inl rfl))) fun h₄ e hs₄ he => ?_)
    obtain ⟨oe, hoe, hce⟩ := he
    have hz₄ : IsZip h₄ z TI TO .ellipsis := hs₄ _ _ D.i2z.symm (hs₃.extBut _ _ D.TOz.symm (hs₂.extBut _ _ D.i1z.symm hz₁))
    have hez : e ≠ z := fun x => by subst x; rw [hz₄] at hoe; cases hoe; simp at hce
    refine wpAny_setField_rec hz₄ (by simp) fun h₅ _ hs₅ => hE h₅ tk₂ e (fun c o c1 c2 c3 c4 x => hs₅.extBut _ _ c1 (hs₄ _ _ c4 (hs₃.extBut _ _ c2 (hs₂.extBut _ _ c3 (hs₁.extBut _ _ c1 x))))) ⟨oe, hs₅.extBut _ _ hez hoe, hce⟩
theorem pyNext_zipG {Q : Option Value → Shared → Prop} (D : ZAp z TI TO i1 i2 d1 d2) (C1 : ItC i1 d1 n1 v1 t1) (C2 : ItC i2 d2 n2 v2 t2)
    (hz : IsZip s.heap z TI TO .none) (hTI : IsPair s.heap TI (.ref i1) (.ref i2)) (hTO : IsPair s.heap TO a b) (h1 : t1 k s.heap) (h2 : t2 k s.heap) (l1 : k < n1) (l2 : k < n2)
    (hQ : ∀ h' tk x y, v1 k x → v2 k y → IsZip h' z TI TO (rawInt s.heap.objs.size) → IsPair h' TO x y → t1 (k + 1) h' → t2 (k + 1) h' → IsPair h' s.heap.objs.size x y → h'.objs.size = s.heap.objs.size + 1 →
      (∀ c o, c ≠ z → c ≠ TO → c ≠ i1 → c ≠ i2 → s.heap.get? c = some o → h'.get? c = some o) → Q (some (.ref s.heap.objs.size)) { s with heap := h', toks := tk }) :
    wpAny (model prog w) A (pyNext (.ref z)) Q E s := by
  have hT : s.TypeIs (.ref z) "zip" := ⟨_, hz, rfl⟩
  unfold pyNext
  exact wpAny_bind (wpAny_attempt (wpAny_callSpecial?_slot (name := Str.ofString "__next__") hT F.slot_zip_next
    (wpAny_call_entry F.slot_zip_next hT F.entry_zip_next
      (zip_itemG D C1 C2 hz hTI hTO h1 h2 l1 l2 fun h' tk x y hx hy a1 a2 a3 a4 a5 a6 a7 => wpAny_pure (hQ h' tk x y hx hy a1 a2 a3 a4 a5 a6 a7)) (F.args_zip_next_1 _))))
theorem pyNext_zipG_end {Q : Option Value → Shared → Prop} (hh : A.handled = none) (D : ZAp z TI TO i1 i2 d1 d2) (C1 : ItC i1 d1 n1 v1 t1) (C2 : ItC i2 d2 n2 v2 t2)
    (hz : IsZip s.heap z TI TO .none) (hTI : IsPair s.heap TI (.ref i1) (.ref i2)) (hTO : IsPair s.heap TO a b) (h1 : t1 k s.heap) (h2 : t2 k s.heap) (hend : k = n1 ∨ (k < n1 ∧ k = n2))
    (hQ : ∀ h' tk, (∀ c o, c ≠ z → c ≠ TO → c ≠ i1 → c ≠ i2 → s.heap.get? c = some o → h'.get? c = some o) → Q none { s with heap := h', toks := tk }) : wpAny (model prog w) A (pyNext (.ref z)) Q E s := by
  have hT : s.TypeIs (.ref z) "zip" := ⟨_, hz, rfl⟩
  unfold pyNext
  refine wpAny_bind (wpAny_attempt (wpAny_callSpecial?_slot (name := Str.ofString "__next__") hT F.slot_zip_next
    (wpAny_call_entry F.slot_zip_next hT F.entry_zip_next (zip_endG hh D C1 C2 hz hTI hTO h1 h2 hend fun h' tk e hk he => ?_) (F.args_zip_next_1 _))))
  obtain ⟨o, ho, hc⟩ := he
  refine wpAny_bind (wpAny_isInstance (T := "StopIteration") (b := true) ⟨o, ho, hc⟩ isSubtype_stop ?_)
  exact wpAny_pure (hQ _ _ hk)
/-! ### a zip is made -/
/-- pyIter of u: one new object -/
structure Mki (u : Value) (o : Obj) (c : Heap → Prop) : Prop where
  run : ∀ (prog : Program) (w : World) (A : Around) (E : Value → Shared → Prop) (s : Shared) (Q : Value → Shared → Prop), c s.heap → Q (.ref s.heap.objs.size) { s with heap := s.heap.push o } → wpAny (model prog w) A (pyIter u) Q E s
  push : ∀ h o', c h → c (h.push o')
  nf : o.isFreed = false
theorem mki_str {x : Str} {t : Tok} : ∃ ty, (ty = "str_ascii_iterator" ∨ ty = "str_iterator") ∧ Mki (.str x t) { cls := .type ty, data := .fields #[.str x t, .int 0 0] } (fun _ => True) := by
  cases ha : x.cps.all (· < 128)
  · exact ⟨"str_iterator", .inr rfl, ⟨fun prog w A E s Q _ h => wpAny_pyIter_wide ha h, fun _ _ _ => trivial, rfl⟩⟩
  · exact ⟨"str_ascii_iterator", .inl rfl, ⟨fun prog w A E s Q _ h => wpAny_pyIter_ascii ha h, fun _ _ _ => trivial, rfl⟩⟩
theorem mki_list {l : Addr} {items : Array Value} : Mki (.ref l) { cls := .type "list_iterator", data := .fields #[.ref l, .int 0 0] } (fun h => h.IsList l items) :=
  ⟨fun prog w A E s Q c h => wpAny_pyIter_list c h, fun h o c => c.push o, rfl⟩
theorem mki_tup {l : Addr} {items : Array Value} : Mki (.ref l) { cls := .type "tuple_iterator", data := .fields #[.ref l, .int 0 0] } (fun h => h.IsTuple l items) :=
  ⟨fun prog w A E s Q c h => wpAny_pyIter_tuple c h, fun h o c => by
    obtain ⟨ob, e, r⟩ := c
    exact ⟨ob, Heap.get?_push_of_some _ e, r⟩, rfl⟩
abbrev zH2 (h : Heap) (o1 o2 : Obj) : Heap := (h.push o1).push o2
abbrev zH3 (h : Heap) (o1 o2 : Obj) : Heap := (zH2 h o1 o2).push { cls := .type "tuple", data := .seq #[.ref h.objs.size, .ref (h.push o1).objs.size] }
abbrev zH4 (h : Heap) (o1 o2 : Obj) : Heap := (zH3 h o1 o2).push { cls := .type "tuple", data := .seq #[.none, .none] }
abbrev zH5 (h : Heap) (o1 o2 : Obj) : Heap := (zH4 h o1 o2).push { cls := .type "zip", data := .fields #[.none, .bool false, .bool false, .ref (zH2 h o1 o2).objs.size, .ref (zH3 h o1 o2).objs.size] }
theorem meets_zipG {u1 u2 : Value} {o1 o2 : Obj} {c1 c2 : Heap → Prop} (m1 : Mki u1 o1 c1) (m2 : Mki u2 o2 c2) :
    Meets (Builtin.«zip.__new__» ⟨[.type "zip", u1, u2], []⟩) (fun _ R s => c1 s.heap ∧ c2 s.heap ∧ R (.ok (.ret (.ref (zH4 s.heap o1 o2).objs.size))) { s with heap := zH5 s.heap o1 o2 }) :=
  .of_wp fun prog w A R s h => by
    obtain ⟨hp, g, d, tk, os⟩ := s
    obtain ⟨hl1, hl2, h⟩ := h
    have hsub := sub_zip
    have hL2 : c2 (hp.push o1) := m2.push _ _ hl2
    wp_walk using m1.run _ _ _ _ _ _ hl1, m2.run _ _ _ _ _ _ hL2
    exact ⟨_, rfl, h⟩
end
end Dl

set_option Elab.async false
set_option linter.all false
set_option maxRecDepth 100000
set_option maxHeartbeats 4000000
set_option autoImplicit false
namespace Dl
open PySem PySem.Spec PyProof.Rows L2
theorem dep_ne {X : Cx} {pins : List (Addr × Obj)} {σ : L2.St} {H : Hp} {sh : Shared} {l b : Addr} {vs : List V} (I : Inv X pins σ H sh) (h : SqT X.K H l vs) (f : FpOk X pins H b) : l ≠ b := by
  rintro rfl
  rcases h with h | ⟨o, its, n, hk, _⟩
  · rcases h with h | ⟨o, h⟩ <;> (rw [f.1] at h; cases h)
  · have e := I.mod.kin l o hk
    have e0 := (I.ok.bs l o e).1
    rcases f.2.2.2.1 with q | q
    · exact I.ok.noex l o e q
    · exact absurd (Nat.lt_of_lt_of_le (Heap.lt_size e0) q) (Nat.lt_irrefl _)
/-- one side of a zip: the iterator at it, over the items ds -/
structure Src (K : PySem.W.Frag) (F : Hp) (it : Addr) (ds : List D) (st : Nat → Heap → Prop) : Prop where
  obj : ∀ i h, st i h → ∃ o, h.get? it = some o ∧ ∀ v, o.data ≠ .cell v
  keep : ∀ i h h', st i h → (∀ o, h.get? it = some o → h'.get? it = some o) → st i h'
  here : ∀ (X : Cx) (pins : List (Addr × Obj)) (σ : L2.St) (H : Hp) (s : Shared), X.K = K → Inv X pins σ H s → Same F H → ∃ (dep : List Addr) (val : Nat → Value → Prop) (c : Heap → Prop), c s.heap ∧ ItC it dep ds.length val (fun i h => st i h ∧ c h) ∧
    (∀ b ∈ dep, ∀ b', FpOk X pins H b' → b ≠ b') ∧ ∀ i x, val i x → ∃ v d, RelV v x ∧ ds[i]? = some d ∧ Rep K F v d
theorem src_str {K : PySem.W.Frag} {F : Hp} {it : Addr} {z : Str} {t : Tok} {ty : String} (hty : ty = "str_ascii_iterator" ∨ ty = "str_iterator") : Src K F it (chars z) (fun i h => h.IsStrIter it ty z t i) where
  obj := (itc_str hty).obj
  keep := fun i h h' st k => let ⟨o, ho, r⟩ := st; ⟨o, k o ho, r⟩
  here := fun X pins σ H s hK I sm => by
    have C := itc_str (it := it) (z := z) (t := t) hty
    refine ⟨[], fun i x => ∃ c u, z.cps[i]? = some c ∧ x = .str ⟨#[c]⟩ u, fun _ => True, trivial, ⟨fun i h st => C.obj i h st.1, fun i h h' st k => ⟨C.keep i h h' st.1 k, trivial⟩, ?_, ?_⟩, (fun b hb => nomatch hb), fun i x ⟨c, u, h1, h2⟩ => ⟨.str ⟨#[c]⟩, .str ⟨#[c]⟩, ⟨u, h2⟩, ?_, .str _⟩⟩
    · intro prog w A E s Q i hi st hq
      exact C.item prog w A E s Q i (by simpa [chars] using hi) st.1 fun x h' tk hv st' sb => hq x h' tk hv ⟨st', trivial⟩ sb
    · intro prog w A E s Q hh st he
      refine C.stop prog w A E s Q hh ?_ he
      have := st.1
      rwa [show (chars z).length = z.cps.size from by simp [chars]] at this
    · rw [chars, List.getElem?_map, Array.getElem?_toList, h1]; rfl
theorem src_tup {K : PySem.W.Frag} {F : Hp} {it l : Addr} {vs : List V} {ds : List D} (h1 : SqT K F l vs) (h2 : Reps K F vs ds) : Src K F it ds (fun i h => h.IsTupleIter it l i) where
  obj := fun i h ⟨o, e, _, d⟩ => ⟨o, e, fun v z => by rw [d] at z; cases z⟩
  keep := fun i h h' st k => st.at fun o e => k o e
  here := fun X pins σ H s hK I sm => by
    subst hK
    have h3 := same_sqT sm h1
    obtain ⟨its, rv, p, _⟩ := I.tuple h3
    have hl : its.length = ds.length := by rw [← h2.length, ← rv.length]
    have C := itc_tup (it := it) (l := l) (its := its)
    refine ⟨[l], fun i x => its[i]? = some x, fun h => h.IsTuple l its.toArray, p, ?_, fun b hb b' hf => ?_, fun i x hx => ?_⟩
    · rw [← hl]; exact C
    · rw [List.mem_singleton] at hb; subst hb; exact dep_ne I h3 hf
    · have hi := (List.getElem?_eq_some_iff.mp hx).1
      have hv : i < vs.length := by rw [rv.length]; exact hi
      obtain ⟨u, hu, ru⟩ := rv.get (List.getElem?_eq_getElem hv)
      rw [hx] at hu; cases hu
      obtain ⟨d, hd, rd⟩ := h2.get' (List.getElem?_eq_getElem hv)
      exact ⟨vs[i], d, ru, hd, rd⟩
theorem src_lst {K : PySem.W.Frag} {F : Hp} {it l : Addr} {vs : List V} {ds : List D} (h1 : F l = some (.lst vs)) (h2 : Reps K F vs ds) : Src K F it ds (fun i h => h.IsListIter it l i) where
  obj := fun i h ⟨o, e, _, d⟩ => ⟨o, e, fun v z => by rw [d] at z; cases z⟩
  keep := fun i h h' st k => st.at fun o e => k o e
  here := fun X pins σ H s hK I sm => by
    subst hK
    have h3 := sm _ _ h1
    obtain ⟨its, rv, p, _⟩ := I.list (SqL.of h3)
    have hl : its.length = ds.length := by rw [← h2.length, ← rv.length]
    have C := itc_list (it := it) (l := l) (its := its)
    refine ⟨[l], fun i x => its[i]? = some x, fun h => h.IsList l its.toArray, p.isList, ?_, fun b hb b' hf => ?_, fun i x hx => ?_⟩
    · rw [← hl]; exact C
    · rw [List.mem_singleton] at hb; subst hb
      rintro rfl
      rw [hf.1] at h3; cases h3
    · have hi := (List.getElem?_eq_some_iff.mp hx).1
      have hv : i < vs.length := by rw [rv.length]; exact hi
      obtain ⟨u, hu, ru⟩ := rv.get (List.getElem?_eq_getElem hv)
      rw [hx] at hu; cases hu
      obtain ⟨d, hd, rd⟩ := h2.get' (List.getElem?_eq_getElem hv)
      exact ⟨vs[i], d, ru, hd, rd⟩
/-- pairs of the items of both -/
def ItzG (K : PySem.W.Frag) (F : Hp) (ds es : List D) : It :=
  ⟨fun i H => Same F H ∧ i < ds.length ∧ i < es.length,
   fun i H v H' => ∃ T x y d e, v = .ref T ∧ H T = none ∧ H' = upd H T (.tup [x, y]) ∧ ds[i]? = some d ∧ es[i]? = some e ∧ Rep K F x d ∧ Rep K F y e,
   fun i H => Same F H ∧ (i = ds.length ∨ (i < ds.length ∧ i = es.length))⟩
theorem turn_zipG {P : Program} {w : World} {K : PySem.W.Frag} {F : Hp} {ds es : List D} {elts : List Expr} {kk : Nat} {tpos : Pos} {z TI TO i1 i2 : Addr} {st1 st2 : Nat → Heap → Prop} (hTIz : TI ≠ z) (hTOz : TO ≠ z) (hi1z : i1 ≠ z) (hi2z : i2 ≠ z) (hTITO : TI ≠ TO) (hTIi1 : TI ≠ i1) (hTIi2 : TI ≠ i2) (hTOi1 : TO ≠ i1) (hTOi2 : TO ≠ i2) (hi12 : i1 ≠ i2)
    (S1 : Src K F i1 ds st1) (S2 : Src K F i2 es st2) :
    Turn P w K (.Tuple elts kk tpos) (ItzG K F ds es) [z, TI, TO, i1, i2] z (fun i h => IsZip h z TI TO .none ∧ IsPair h TI (.ref i1) (.ref i2) ∧ (∃ x y, IsPair h TO x y) ∧ st1 i h ∧ st2 i h) where
  mem := by simp
  obj := fun i h st c hc => by
    obtain ⟨hz, hTI, ⟨x, y, hTO⟩, h1, h2⟩ := st
    have e' : c = z ∨ c = TI ∨ c = TO ∨ c = i1 ∨ c = i2 := by simpa using hc
    rcases e' with q | q | q | q | q
    · rw [q]; exact ⟨_, hz, fun v q => nomatch q⟩
    · rw [q]; exact ⟨_, hTI, fun v q => nomatch q⟩
    · rw [q]; exact ⟨_, hTO, fun v q => nomatch q⟩
    · rw [q]; exact S1.obj i h h1
    · rw [q]; exact S2.obj i h h2
  keep := fun i h h' st k => by
    obtain ⟨hz, hTI, ⟨x, y, hTO⟩, h1, h2⟩ := st
    exact ⟨k z (by simp) _ hz, k TI (by simp) _ hTI, ⟨x, y, k TO (by simp) _ hTO⟩, S1.keep i h h' h1 fun o q => k i1 (by simp) o q, S2.keep i h h' h2 fun o q => k i2 (by simp) o q⟩
  item := by
    intro X hP hw hK hc i pins s σ H E I hf st hg
    subst hP hw hK
    obtain ⟨hz, hTI, ⟨x0, y0, hTO⟩, h1, h2⟩ := st
    obtain ⟨sm, l1, l2⟩ := hg
    obtain ⟨dep1, val1, c1, hc1, C1, n1, r1⟩ := S1.here X pins σ H s rfl I sm
    obtain ⟨dep2, val2, c2, hc2, C2, n2, r2⟩ := S2.here X pins σ H s rfl I sm
    have Dz : ZAp z TI TO i1 i2 dep1 dep2 := ⟨hTIz, hTOz, hi1z, hi2z, hTITO, hTIi1, hTIi2, hTOi1, hTOi2, hi12, fun b hb => by
      have key : ∀ b', FpOk X pins H b' → b ≠ b' := fun b' hf' => (List.mem_append.mp hb).elim (fun q => n1 b q b' hf') fun q => n2 b q b' hf'
      exact ⟨key z (hf z (by simp)), key TO (hf TO (by simp)), key i1 (hf i1 (by simp)), key i2 (hf i2 (by simp))⟩⟩
    have hzl : z < s.heap.objs.size := Heap.lt_size hz
    refine pyNext_zipG Dz C1 C2 hz hTI hTO ⟨h1, hc1⟩ ⟨h2, hc2⟩ l1 l2 fun h' tk x y hx hy z' TO' h1' h2' hT hsz hk => ?_
    obtain ⟨v1, d1, rv1, hd1, rp1⟩ := r1 i x hx
    obtain ⟨v2, d2, rv2, hd2, rp2⟩ := r2 i y hy
    refine ⟨_, rfl, wpAny_letOwnedTupleGo_zip (s := { s with heap := h', toks := tk }) z' fun h'' z'' sb => ?_⟩
    have hT2 : h''.get? s.heap.objs.size = some { cls := .type "tuple", data := .seq #[x, y] } := (sb.2 _ (Nat.ne_of_gt hzl)).trans hT
    have new : ObjOk X.prog X.w (upd H s.heap.objs.size (.tup [v1, v2])) h'' s.heap.objs.size (.tup [v1, v2]) :=
      ⟨by show 2 ≤ sizeLine; decide, [x, y], .cons rv1 (.cons rv2 .nil), ⟨_, hT2, rfl, _, rfl⟩⟩
    have I1 : Inv X pins σ (upd H s.heap.objs.size (.tup [v1, v2])) { s with heap := h'', toks := tk } :=
      I.turnedNew (t' := tk) (ch := [z, TI, TO, i1, i2]) (fun c o hb q => (sb.2 c (fun q' => hb (by simp [q']))).trans (hk c o (fun q' => hb (by simp [q'])) (fun q' => hb (by simp [q'])) (fun q' => hb (by simp [q'])) (fun q' => hb (by simp [q'])) q)) hf (Nat.le_refl _) new
    refine ⟨.ref s.heap.objs.size, _, I1, rfl, ⟨_, v1, v2, d1, d2, rfl, I.hok.fresh (Nat.le_refl _), rfl, hd1, hd2, rp1, rp2⟩, ⟨z'', ?_, ⟨x, y, ?_⟩, ?_, ?_⟩, fun c hcm => ?_⟩
    · exact (sb.2 _ hTIz).trans (hk _ _ hTIz hTITO hTIi1 hTIi2 hTI)
    · exact (sb.2 _ hTOz).trans TO'
    · exact S1.keep _ _ _ h1'.1 fun o q => (sb.2 _ hi1z).trans q
    · exact S2.keep _ _ _ h2'.1 fun o q => (sb.2 _ hi2z).trans q
    · have hlt : c < s.heap.objs.size := by
        have e' : c = z ∨ c = TI ∨ c = TO ∨ c = i1 ∨ c = i2 := by simpa using hcm
        rcases e' with q | q | q | q | q
        · rw [q]; exact hzl
        · rw [q]; exact Heap.lt_size hTI
        · rw [q]; exact Heap.lt_size hTO
        · rw [q]; obtain ⟨_, e1, _⟩ := S1.obj i _ h1; exact Heap.lt_size e1
        · rw [q]; obtain ⟨_, e2, _⟩ := S2.obj i _ h2; exact Heap.lt_size e2
      rw [upd_ne (Nat.ne_of_lt hlt)]
      exact (hf c hcm).1
  done := by
    intro X hP hw hK hc i pins s σ H E I hf st hg
    subst hP hw hK
    obtain ⟨hz, hTI, ⟨x0, y0, hTO⟩, h1, h2⟩ := st
    obtain ⟨sm, hend⟩ := hg
    obtain ⟨dep1, val1, c1, hc1, C1, n1, r1⟩ := S1.here X pins σ H s rfl I sm
    obtain ⟨dep2, val2, c2, hc2, C2, n2, r2⟩ := S2.here X pins σ H s rfl I sm
    have Dz : ZAp z TI TO i1 i2 dep1 dep2 := ⟨hTIz, hTOz, hi1z, hi2z, hTITO, hTIi1, hTIi2, hTOi1, hTOi2, hi12, fun b hb => by
      have key : ∀ b', FpOk X pins H b' → b ≠ b' := fun b' hf' => (List.mem_append.mp hb).elim (fun q => n1 b q b' hf') fun q => n2 b q b' hf'
      exact ⟨key z (hf z (by simp)), key TO (hf TO (by simp)), key i1 (hf i1 (by simp)), key i2 (hf i2 (by simp))⟩⟩
    exact pyNext_zipG_end (I.ok.hd hc) Dz C1 C2 hz hTI hTO ⟨h1, hc1⟩ ⟨h2, hc2⟩ hend fun h' tk hk => ⟨rfl, I.turnedL (t' := tk) (ch := [z, TI, TO, i1, i2]) (fun c o hb q =>
      hk c o (fun q' => hb (by simp [q'])) (fun q' => hb (by simp [q'])) (fun q' => hb (by simp [q'])) (fun q' => hb (by simp [q'])) q) hf⟩
  self := fun A i s Q E st h => wpAny_pyIter_zip st.1 h
/-- what may stand in a zip: its items -/
inductive ZSrc : D → List D → Prop
  | str (z) : ZSrc (.str z) (chars z)
  | tup (ds) : ZSrc (.tup ds) ds
  | lst (ds) : ZSrc (.lst ds) ds
theorem zsrc_here {X : Cx} {pins : List (Addr × Obj)} {σ : L2.St} {H F : Hp} {sh : Shared} {d : D} {ds : List D} {v : V} {u : Value} (zs : ZSrc d ds) (I : Inv X pins σ H sh) (sm : Same F H) (rp : Rep X.K F v d) (ru : RelV v u) :
    ∃ (o : Obj) (c : Heap → Prop), Mki u o c ∧ c sh.heap ∧ ∀ it : Addr, ∃ st, Src X.K F it ds st ∧ ∀ h : Heap, h.get? it = some o → st 0 h := by
  cases zs with
  | str z =>
    cases rp
    obtain ⟨t, rfl⟩ := ru
    obtain ⟨ty, hty, m⟩ := mki_str (x := z) (t := t)
    exact ⟨_, _, m, trivial, fun it => ⟨_, src_str hty, fun h e => ⟨_, e, rfl, rfl⟩⟩⟩
  | tup ds =>
    obtain ⟨a, vs, rfl, h1, h2⟩ := rep_tup rp
    cases ru
    obtain ⟨its, _, p, _⟩ := I.tuple (same_sqT sm h1)
    exact ⟨_, _, mki_tup (l := a) (items := its.toArray), p, fun it => ⟨_, src_tup h1 h2, fun h e => ⟨_, e, rfl, rfl⟩⟩⟩
  | lst ds =>
    obtain ⟨a, vs, rfl, h1, h2⟩ := rep_lst rp
    cases ru
    obtain ⟨its, _, p, _⟩ := I.list (SqL.of (sm _ _ h1))
    exact ⟨_, _, mki_list (l := a) (items := its.toArray), p.isList, fun it => ⟨_, src_lst h1 h2, fun h e => ⟨_, e, rfl, rfl⟩⟩⟩
theorem yl_zip {K : PySem.W.Frag} {F : Hp} {ds es : List D} : Yl K (ItzG K F ds es) F (ds.zipWith (fun a b => .tup [a, b]) es) := by
  refine ⟨fun i H hi h => ⟨h, ?_⟩, fun H h => ⟨h, ?_⟩, fun i H x H' hi h y => ?_⟩
  · rw [List.length_zipWith] at hi; omega
  · rw [List.length_zipWith]; omega
  · obtain ⟨T, a, b, d, e, h1, h2, h3, h4, h5, h6, h7⟩ := y
    exact ⟨.tup [d, e], by rw [List.getElem?_zipWith, h4, h5], .inr ⟨T, [a, b], [d, e], h1, h2, h3, rfl, .cons h6 (.cons h7 .nil)⟩⟩
theorem nn {a b c : Nat} (h : b ≠ c) : (a + b : Nat) ≠ a + c := fun z => h (Nat.add_left_cancel z)
theorem n0 {a c : Nat} (h : 0 ≠ c) : (a : Nat) ≠ a + c := fun z => h (Nat.add_left_cancel (n := a) (by rw [Nat.add_zero]; exact z))
theorem call_zipG {prog : Program} {w : World} {A : Around} {E : Value → Shared → Prop} {s : Shared} {u1 u2 : Value} {o1 o2 : Obj} {c1 c2 : Heap → Prop} (m1 : Mki u1 o1 c1) (m2 : Mki u2 o2 c2) {Q : Value → Shared → Prop} (hl1 : c1 s.heap) (hl2 : c2 s.heap)
    (h : ∀ h', IsZip h' (s.heap.objs.size + 4) (s.heap.objs.size + 2) (s.heap.objs.size + 3) .none → IsPair h' (s.heap.objs.size + 2) (.ref s.heap.objs.size) (.ref (s.heap.objs.size + 1)) →
      IsPair h' (s.heap.objs.size + 3) .none .none → (o1.isFreed = false → h'.get? s.heap.objs.size = some o1) → (o2.isFreed = false → h'.get? (s.heap.objs.size + 1) = some o2) → h'.objs.size = s.heap.objs.size + 5 →
      (∀ c o, s.heap.get? c = some o → h'.get? c = some o) → Q (.ref (s.heap.objs.size + 4)) { s with heap := h' }) :
    wpAny (model prog w) A (call (.type "zip") [u1, u2]) Q E s := by
  refine callType_new F.called_zip (by decide) (F.typeCall_zip_2 _ _) (F.newCall_zip_2 _ _) (fun obj => F.args_object_init_3 obj _ _) F.entry_zip_new
    (meets_zipG m1 m2) ⟨hl1, hl2, ?_⟩
  have z1 : (s.heap.push o1).objs.size = s.heap.objs.size + 1 := Heap.size_push ..
  have z2 : (zH2 s.heap o1 o2).objs.size = s.heap.objs.size + 2 := by rw [Heap.size_push, z1]
  have z3 : (zH3 s.heap o1 o2).objs.size = s.heap.objs.size + 3 := by rw [Heap.size_push, z2]
  have z4 : (zH4 s.heap o1 o2).objs.size = s.heap.objs.size + 4 := by rw [Heap.size_push, z3]
  have z5 : (zH5 s.heap o1 o2).objs.size = s.heap.objs.size + 5 := by rw [Heap.size_push, z4]
  have g5 : (zH5 s.heap o1 o2).get? (zH4 s.heap o1 o2).objs.size = some _ := Heap.get?_push_size _ rfl
  have g4 : (zH5 s.heap o1 o2).get? (zH3 s.heap o1 o2).objs.size = some _ := Heap.get?_push_of_some _ (Heap.get?_push_size _ rfl)
  have g3 : (zH5 s.heap o1 o2).get? (zH2 s.heap o1 o2).objs.size = some _ := Heap.get?_push_of_some _ (Heap.get?_push_of_some _ (Heap.get?_push_size _ rfl))
  have g2 : o2.isFreed = false → (zH5 s.heap o1 o2).get? (s.heap.push o1).objs.size = some _ := fun hf => Heap.get?_push_of_some _ (Heap.get?_push_of_some _ (Heap.get?_push_of_some _ (Heap.get?_push_size _ hf)))
  have g1 : o1.isFreed = false → (zH5 s.heap o1 o2).get? s.heap.objs.size = some _ := fun hf => Heap.get?_push_of_some _ (Heap.get?_push_of_some _ (Heap.get?_push_of_some _ (Heap.get?_push_of_some _ (Heap.get?_push_size _ hf))))
  show _ ∧ _
  rw [z2, z3, z4] at g5
  rw [z1, z2] at g3
  rw [z3] at g4
  rw [z1] at g2
  rw [z4]
  exact ⟨⟨_, g5, rfl⟩, h _ g5 g3 g4 g1 g2 z5 fun c o x => Heap.get?_push_of_some _ (Heap.get?_push_of_some _ (Heap.get?_push_of_some _ (Heap.get?_push_of_some _ (Heap.get?_push_of_some _ x))))⟩
section
variable {X : Cx} {N : En} {W : WX} {n : Nat} {δ : List (Option S)} {μ μ1 : List M} {e e2 : Expr} {d1 d2 : D} {ds es : List D} {elts : List Expr} {kk : Nat} {p pos tpos : Pos}
theorem di_zip (g : Go X N W n) (ha : DA X N W δ μ [e, e2] [.p d1, .p d2] μ1) (z1 : ZSrc d1 ds) (z2 : ZSrc d2 es) (hm : X.mg "zip" = none) (hg : Gl X "zip" := by rfl)
    (hs : starEach [e, e2] X.env = (false, eval e X.env) :: starEach [e2] X.env := by rfl) (hpl : (backTo pos (starEach [e2] X.env)).any (·.1) = false := by rfl) :
    DI X N W δ μ (.Tuple elts kk tpos) (.Call (.Name "zip" p) [e, e2] [] pos) (ds.zipWith (fun a b => .tup [a, b]) es) μ1 := by
  refine ⟨fun pins s σ H Rk I ⟨F, A, R0, k⟩ => ?_⟩
  refine Call_ (ld_blt I hg hm PyProof.Rows.boot_zip (PyProof.Rows.callWith_type1 (thn (ha.run pos pins s σ H (fun vs H' => ∃ F' A', Same F F' ∧ A <+: A' ∧ Rl N F' A' H' σ δ μ1 ∧ RepSs N.K F' A' vs [.p d1, .p d2]) I ⟨F, A, R0, fun vs F' A' H' h1 h2 h3 h4 => ⟨F', A', h1, h2, h3, h4⟩⟩) fun us s1 ⟨vs, H1, I1, r1, F1, A1, e1, p1, R1, rv⟩ => ?_) hs hpl))
  obtain ⟨v, u, rfl, rp1, rp2⟩ := two_of rv
  have hK := g.hK
  rw [hK] at rp1 rp2
  cases r1 with
  | cons ru1 rr =>
    cases rr with
    | cons ru2 rr =>
      cases rr
      obtain ⟨o1, c1, m1, h1, q1⟩ := zsrc_here z1 I1 R1.rc.sub (show Rep X.K F1 v d1 from rp1) ru1
      obtain ⟨o2, c2, m2, h2, q2⟩ := zsrc_here z2 I1 R1.rc.sub (show Rep X.K F1 u d2 from rp2) ru2
      refine call_zipG m1 m2 h1 h2 fun h' hz hTI hTO f1 f2 hsz hk => wpAny_pyIter_zip hz ?_
      have I2 : Inv X pins σ H1 { s1 with heap := h' } := I1.kept (t' := s1.toks) hk
      obtain ⟨st1, S1, b1⟩ := q1 s1.heap.objs.size
      obtain ⟨st2, S2, b2⟩ := q2 (s1.heap.objs.size + 1)
      have g1 := f1 m1.nf
      have g2 := f2 m2.nf
      have st10 := b1 h' g1
      have st20 := b2 h' g2
      have T := turn_zipG (P := X.prog) (w := X.w) (K := X.K) (F := F1) (ds := ds) (es := es) (elts := elts) (kk := kk) (tpos := tpos) (z := s1.heap.objs.size + 4) (TI := s1.heap.objs.size + 2) (TO := s1.heap.objs.size + 3) (i1 := s1.heap.objs.size) (i2 := s1.heap.objs.size + 1)
        (nn (by decide)) (nn (by decide)) (n0 (by decide)) (nn (by decide)) (nn (by decide)) (n0 (by decide)).symm (nn (by decide)) (n0 (by decide)).symm (nn (by decide)) (n0 (by decide)) S1 S2
      refine ⟨s1.heap.objs.size + 4, [s1.heap.objs.size + 4, s1.heap.objs.size + 2, s1.heap.objs.size + 3, s1.heap.objs.size, s1.heap.objs.size + 1], _, _, H1, rfl, I2, T, ⟨hz, hTI, ⟨_, _, hTO⟩, st10, st20⟩, fun c hcm => ?_, ?_⟩
      · have e' : c = s1.heap.objs.size + 4 ∨ c = s1.heap.objs.size + 2 ∨ c = s1.heap.objs.size + 3 ∨ c = s1.heap.objs.size ∨ c = s1.heap.objs.size + 1 := by simpa using hcm
        have hle : s1.heap.objs.size ≤ c := by
          rcases e' with z | z | z | z | z
          · rw [z]; exact Nat.le_add_right _ _
          · rw [z]; exact Nat.le_add_right _ _
          · rw [z]; exact Nat.le_add_right _ _
          · rw [z]; exact Nat.le_refl _
          · rw [z]; exact Nat.le_add_right _ _
        exact I1.fpOk hle (I1.hok.fresh hle)
      · have y := yl_zip (K := X.K) (F := F1) (ds := ds) (es := es)
        rw [← hK] at y ⊢
        exact k _ F1 A1 H1 e1 p1 R1 y
end
end Dl

set_option Elab.async false
set_option linter.all false
set_option maxRecDepth 100000
set_option maxHeartbeats 4000000
set_option autoImplicit false
namespace Dl
open PySem PySem.Spec PyProof.Rows L2
/-! ## isinstance -/
structure ClsI (K : PySem.W.Frag) (C : Addr) : Prop where
  cl : Cls K C
  ha : PySem.W.findIn K (.ref C) "__class__" = some (some (.builtin "object.__class__"))
  hn : PySem.W.specialIn K (.builtin "object.__class__") "__get__" = some (some (.builtin "getset_descriptor.__get__"))
  ht : PySem.W.takesIn K (.builtin "object.__class__") = some true
  hm : PySem.W.mroIn K C (.type "object") = some true
inductive TyI (K : PySem.W.Frag) : D → Value → Prop
  | non : TyI K .non (.type "NoneType")
  | bl (b) : TyI K (.bl b) (.type "bool")
  | int (i) : TyI K (.int i) (.type "int")
  | str (z) : TyI K (.str z) (.type "str")
  | tup (ds) : TyI K (.tup ds) (.type "tuple")
  | lst (ds) : TyI K (.lst ds) (.type "list")
  | dic (ks ds) : TyI K (.dic ks ds) (.type "dict")
  | ins (C ns ds) : ClsI K C → TyI K (.ins C ns ds) (.ref C)
inductive ClsD : D → Value → Prop
  | ty (n) : ClsD (.ty n) (.type n)
  | adr (C) : ClsD (.adr C) (.ref C)
theorem tyX_of {K : PySem.W.Frag} {F H : Hp} {v : V} {d : D} {t : Value} (sm : Same F H) (ty : TyI K d t) (rp : Rep K F v d) : TyX K H v t := by
  cases ty with
  | non => cases rp; exact .base .non
  | bl b => cases rp; exact .base (.bl b)
  | int b => cases rp; exact .base (.int b)
  | str b => cases rp; exact .base (.str b)
  | tup ds =>
    obtain ⟨a, vs, rfl, h1, _⟩ := rep_tup rp
    rcases same_sqT sm h1 with (h | ⟨o, h⟩) | ⟨o, its, n, hk, hc, _⟩
    · exact .base (.tup h)
    · exact .fTuple h
    · exact .kTuple hk hc
  | lst ds =>
    obtain ⟨a, vs, rfl, h1, _⟩ := rep_lst rp
    exact .base (.lst (sm _ _ h1))
  | dic ks ds =>
    generalize hd : D.dic ks ds = d' at rp
    cases rp with
    | dic h1 h2 => exact .base (.dK (sm _ _ h1))
    | _ => cases hd
  | ins C ns ds c =>
    obtain ⟨a, dx, fs, rfl, h1, _⟩ := rep_ins rp
    exact .base (.ins (sm _ _ h1) c.cl c.ha c.hn c.ht c.hm)
section
variable {X : Cx} {N : En} {W : WX} {n : Nat} {δ δ' δ1 δ2 : List (Option S)} {μ μ' μ1 μ2 μ3 : List M} {e a b c o : Expr} {es : List Expr} {ss : List S} {pos p apos : Pos} {d : D} {s s1 s2 : S} {r : Rx} {R : Rel} {k : Nat} {x m f : Str} {dd : List D} {C : Addr}
theorem c_isi (g : Go X N W n) {d c : D} {t u : Value} {q : Bool} (ty : TyI X.K d t) (cl : ClsD c u) (h : PySem.W.kitOne X.K t u = some q) : CallOk X N W (.builtin "isinstance") μ [.p d, .p c] (.v (.p (.bl q))) μ :=
  ⟨_, call_isi, fun σ δ F A H vs Q R rv k => by
    obtain ⟨v, w, rfl, h1, h2⟩ := two_of rv
    have hK := g.hK
    have h1' : Rep X.K F v d := by rw [← hK]; exact h1
    have h2' : Rep X.K F w c := by rw [← hK]; exact h2
    refine ⟨v, w, t, u, q, rfl, ?_, tyX_of R.rc.sub ty h1', h, k.here R (.bl _)⟩
    cases cl with
    | ty n => cases h2'; exact .ty n
    | adr C => cases h2'; exact .own C⟩
/-- a builtin type by its name -/
theorem de_ty {x : Str} {T : String} (hm : X.mg x = none) (hv : bootBuiltins x = some (.type T)) (hg : Gl X x := by rfl) (hn : x ≠ "__name__" := by decide) (hd : (x == ("__debug__" : Str)) = false := by decide) : DE X N W δ μ (.Name x pos) (.v (.p (.ty T))) μ :=
  de_c (pe_bltn (v := .ty T) hg hm hv rfl hn hd) fun _ _ => .ty T
/-! ## chains -/
theorem de_chn {op op' : CmpOp} {s3 : S} {k k' : Bool} (ha : DE X N W δ μ a (.v s1) μ1) (hb : DE X N W δ μ1 b (.v s2) μ2) (h : OpOk X N W (compareOp op) μ2 s1 s2 (.v (.p (.bl k))) μ2)
    (hc : k = true → DE X N W δ μ2 c (.v s3) μ2) (h' : k = true → OpOk X N W (compareOp op') μ2 s2 s3 (.v (.p (.bl k'))) μ2) (hm : lastMarks [op, op'] [b, c] = false := by with_unfolding_all rfl) : DE X N W δ μ (.Compare a [op, op'] [b, c] pos) (.v (.p (.bl (k && k')))) μ2 := by
  obtain ⟨rr, ho, hr⟩ := h
  cases k with
  | false =>
    refine PE.imp (pe_chain (op' := op') (r' := fun _ _ _ _ => False) ho (fun _ _ _ _ _ _ _ _ _ _ _ _ z => z.elim) ha hb (pe_no (X := X) (e := c)) hm) fun σ H Q ⟨F, A, R, q⟩ => ⟨F, A, R, fun x F1 A1 H1 e1 p1 R1 rx => ⟨F1, A1, R1, fun y F2 A2 H2 e2 p2 R2 ry => hr σ δ F2 A2 H2 x y _ R2 (rx.mono e2 p2) ry fun v F3 A3 H3 e3 p3 R3 rv => ?_⟩⟩
    have rv' : Rep N.K F3 v (.bl false) := rv
    cases rv'
    exact ⟨false, rfl, iteF (q _ F3 A3 H3 ((e1.trans e2).trans e3) ((p1.trans p2).trans p3) R3 (.bl _))⟩
  | true =>
    obtain ⟨rr', ho', hr'⟩ := h' rfl
    refine PE.imp (pe_chain ho ho' ha hb (hc rfl) hm) fun σ H Q ⟨F, A, R, q⟩ => ⟨F, A, R, fun x F1 A1 H1 e1 p1 R1 rx => ⟨F1, A1, R1, fun y F2 A2 H2 e2 p2 R2 ry => hr σ δ F2 A2 H2 x y _ R2 (rx.mono e2 p2) ry fun v F3 A3 H3 e3 p3 R3 rv => ?_⟩⟩
    have rv' : Rep N.K F3 v (.bl true) := rv
    cases rv'
    exact ⟨true, rfl, iteT ⟨F3, A3, R3, fun z F4 A4 H4 e4 p4 R4 rz => hr' σ δ F4 A4 H4 y z Q R4 ((ry.mono e3 p3).mono e4 p4) rz (EndE.to (((e1.trans e2).trans e3).trans e4) (((p1.trans p2).trans p3).trans p4) q)⟩⟩
theorem dt_chn {op op' : CmpOp} {s3 : S} {k k' : Bool} (ha : DE X N W δ μ a (.v s1) μ1) (hb : DE X N W δ μ1 b (.v s2) μ2) (h : OpOk X N W (compareOp op) μ2 s1 s2 (.v (.p (.bl k))) μ2)
    (hc : k = true → DE X N W δ μ2 c (.v s3) μ2) (h' : k = true → OpOk X N W (compareOp op') μ2 s2 s3 (.v (.p (.bl k'))) μ2) (hm : lastMarks [op, op'] [b, c] = false := by with_unfolding_all rfl) : DT X N W δ μ (.Compare a [op, op'] [b, c] pos) (k && k') μ2 := by
  obtain ⟨rr, ho, hr⟩ := h
  cases k with
  | false =>
    refine PT.imp (pt_chain (op' := op') (r' := fun _ _ _ _ => False) ho (fun _ _ _ _ _ _ _ _ _ _ _ _ z => z.elim) ha hb (pe_no (X := X) (e := c)) hm) fun σ H Q ⟨F, A, R, q⟩ => ⟨F, A, R, fun x F1 A1 H1 e1 p1 R1 rx => ⟨F1, A1, R1, fun y F2 A2 H2 e2 p2 R2 ry => hr σ δ F2 A2 H2 x y _ R2 (rx.mono e2 p2) ry fun v F3 A3 H3 e3 p3 R3 rv => ?_⟩⟩
    have rv' : Rep N.K F3 v (.bl false) := rv
    cases rv'
    exact ⟨false, rfl, iteF ⟨false, rfl, q F3 A3 H3 ((e1.trans e2).trans e3) ((p1.trans p2).trans p3) R3⟩⟩
  | true =>
    obtain ⟨rr', ho', hr'⟩ := h' rfl
    refine PT.imp (pt_chain ho ho' ha hb (hc rfl) hm) fun σ H Q ⟨F, A, R, q⟩ => ⟨F, A, R, fun x F1 A1 H1 e1 p1 R1 rx => ⟨F1, A1, R1, fun y F2 A2 H2 e2 p2 R2 ry => hr σ δ F2 A2 H2 x y _ R2 (rx.mono e2 p2) ry fun v F3 A3 H3 e3 p3 R3 rv => ?_⟩⟩
    have rv' : Rep N.K F3 v (.bl true) := rv
    cases rv'
    exact ⟨true, rfl, iteT ⟨F3, A3, R3, fun z F4 A4 H4 e4 p4 R4 rz => hr' σ δ F4 A4 H4 y z _ R4 ((ry.mono e3 p3).mono e4 p4) rz (EndE.bool fun F' A' H' e' p' R' => q F' A' H' ((((e1.trans e2).trans e3).trans e4).trans e') ((((p1.trans p2).trans p3).trans p4).trans p') R')⟩⟩
/-! ## written dicts with text keys -/
theorem i_kd {es : Array DictEntry} {m : Nat} {z : Str} {a : Addr} {u : Value} (Dk : KDict X.K X.w a es m) (h : PySem.W.nsIn X.K a z = some (some u)) {v : V} (ru : RelV v u) (rp : ∀ K F, Rep K F v d) : OpOk X N W getItem μ (.p (.adr a)) (.p (.str z)) (.v (.p d)) μ :=
  ⟨_, op_item_kd Dk, fun σ δ F A H x y Q R rx ry k => ⟨z, u, v, rs_adr rx, rs_str ry, h, ru, k.here R (rp _ _)⟩⟩
theorem de_kdIx {es : Array DictEntry} {m : Nat} {z : Str} {ad : Addr} {u : Value} (Dk : KDict X.K X.w ad es m) (ha : DE X N W δ μ a (.v (.p (.adr ad))) μ1) (hb : DE X N W δ μ1 b (.v (.p (.str z))) μ2) (h : PySem.W.nsIn X.K ad z = some (some u)) {v : V} (ru : RelV v u) (rp : ∀ K F, Rep K F v d) (hs : PlainIx b := by exact fun _ _ => rfl) :
    DE X N W δ μ (.Subscript a b pos) (.v (.p d)) μ2 := by
  refine ⟨fun pins s σ H Q I ⟨F, A, R0, q⟩ => ?_⟩
  refine Subscript_ (two_then ha hb I R0 (fn := fun v u => subscriptTail a b v u) fun v' u' s3 x y H2 F2 A2 I2 rx ry e2 p2 R2 h1 h2 => ?_)
  cases rs_adr h1
  cases rs_str h2
  cases rx
  obtain ⟨t, rfl⟩ := ry
  refine tail_any (kd_type Dk I2) PySem.F.slot_dict_getitem.lookup (op_item_kd Dk pins s3 σ H2 (.ref ad) (.str z) (.ref ad) (.str z t) Q I2 rfl ⟨t, rfl⟩ ⟨z, u, v, rfl, rfl, h, ru, q v F2 A2 H2 e2 p2 R2 (rp _ _)⟩) (by first | exact hs _ _ | with_unfolding_all rfl)
theorem de_kdGet {es : Array DictEntry} {m : Nat} {z : Str} {ad : Addr} {dflt : D} {u : Option Value} {e1 e2 : Expr} (Dk : KDict X.K X.w ad es m) (ho : DE X N W δ μ o (.v (.p (.adr ad))) μ1) (h1 : DE X N W δ μ1 e1 (.v (.p (.str z))) μ2) (h2 : DE X N W δ μ2 e2 (.v (.p dflt)) μ3) (h : PySem.W.nsIn X.K ad z = some u)
    (hd : match u with | some u => ∃ v, RelV v u ∧ ∀ K F, Rep K F v d | none => d = dflt) (mm : M2 X o "get" apos e1 e2 pos) : DE X N W δ μ (.Call (.Attribute o "get" apos) [e1, e2] [] pos) (.v (.p d)) μ3 := by
  refine ⟨fun pins s σ H Q I ⟨F, A, R0, q⟩ => ?_⟩
  refine wpAny_Call_method mm.base mm.few mm.line PySem.F.plainAttrs_dict PySem.F.slot_dict_get PySem.F.type_dict_get (thn (ho.run pins s σ H (fun v H' => ∃ F' A', Same F F' ∧ A <+: A' ∧ Rl N F' A' H' σ δ μ1 ∧ RepS N.K F' A' v (.p (.adr ad))) I ⟨F, A, R0, fun v F' A' H' h1 h2 h3 h4 => ⟨F', A', h1, h2, h3, h4⟩⟩) fun uo s1 ⟨x, H1, I1, rx, F1, A1, e1', p1', R1, h4⟩ => ?_)
  cases rs_adr h4
  obtain rfl : uo = Value.ref ad := rx
  refine ⟨kd_type Dk I1, fun b q => ?_, ?_⟩
  · cases q
    exact ⟨_, I1.kIn _ _ Dk.at_, rfl⟩
  rw [mm.trees]
  refine Calls.callWith_builtin rfl (Calls.evalArgs_plain (Calls.spliced_cons (thn (h1.run pins s1 σ H1 (fun v H' => ∃ F' A', Same F1 F' ∧ A1 <+: A' ∧ Rl N F' A' H' σ δ μ2 ∧ RepS N.K F' A' v (.p (.str z))) I1 ⟨F1, A1, R1, fun v F' A' H' h1 h2 h3 h4 => ⟨F', A', h1, h2, h3, h4⟩⟩) fun iv s2 ⟨y, H2, I2, ry, F2, A2, e2', p2', R2, h5⟩ =>
    Calls.spliced_cons (thn (h2.run pins s2 σ H2 (fun v H' => ∃ F' A', Same F2 F' ∧ A2 <+: A' ∧ Rl N F' A' H' σ δ μ3 ∧ RepS N.K F' A' v (.p dflt)) I2 ⟨F2, A2, R2, fun v F' A' H' h1 h2 h3 h4 => ⟨F', A', h1, h2, h3, h4⟩⟩) fun fv s3 ⟨w, H3, I3, rw', F3, A3, e3', p3', R3, h6⟩ => Calls.spliced_nil ?_))))
  cases rs_str h5
  obtain ⟨t, rfl⟩ := ry
  have mo := PySem.W.mapOf_K (prog := X.prog) (w := X.w) I3.kIn Dk.at_ Dk.lit
  refine call_meetsIn PySem.F.slot_dict_get (kd_type Dk I3) PySem.F.entry_dict_get (PySem.F.args_dict_get_3 _ _ _) (meets_dict_get_default (PySem.strKind X.prog X.w) ad (PySem.strKind_is X.prog X.w z t) Dk.low fv) ⟨_, mo, ?_⟩
  rw [PySem.W.find_K Dk.at_ h]
  cases u with
  | some u0 =>
    obtain ⟨v0, r0, rp⟩ := hd
    exact ⟨v0, H3, I3.tok _, r0, q v0 F3 A3 H3 ((e1'.trans e2').trans e3') ((p1'.trans p2').trans p3') R3 (rp _ _)⟩
  | none =>
    have hd' : d = dflt := hd
    subst hd'
    exact ⟨w, H3, I3.tok _, rw', q w F3 A3 H3 ((e1'.trans e2').trans e3') ((p1'.trans p2').trans p3') R3 h6⟩
end
end Dl

set_option Elab.async false
set_option linter.all false
set_option maxRecDepth 100000
set_option maxHeartbeats 4000000
set_option autoImplicit false
namespace Dl
open PySem PySem.Spec PyProof.Rows L2
/-! ## own errors that keep their only argument -/
/-- what __init__ of such a class does with an exception that is being made -/
def spErr (K : PySem.W.Frag) : Sp := fun vs H Q _ => ∃ (a C : Addr) (y : V), vs = [.ref a, y] ∧ OexC K C ∧ PySem.W.findIn K (.ref C) "value" = some none ∧ H a = some (exo a C none) ∧
  ∀ dx, H dx = none → dx ≠ a → Q .non (upd (upd H dx (exd dx [("value", y)])) a (exo a C (some dx)))
/-- an own error class of the text, by its name -/
structure Ce (P : Program) (w : World) (K : PySem.W.Frag) (mg : Str → Option Value) (base : Heap) (k : Nat) (C : Addr) (x : Str) : Prop where
  at_ : mg x = some (.ref C)
  oc : OexC K C
  nv : PySem.W.findIn K (.ref C) "value" = some none
  ex : ∃ (f : Addr) (fd : FuncData) (ps : List Str), FnOk P w K mg base (L2.CX P w) k f fd ps (spErr K) ∧ PySem.W.findIn K (.ref C) "__init__" = some (some (.ref f)) ∧ PySem.W.typeIn K (.ref f) = some (.type "function") ∧ Binds K fd ps []
section
variable {X : Cx} {N : En} {W : WX} {n : Nat} {δ δ' δ1 δ2 : List (Option S)} {μ μ' μ1 μ2 μ3 : List M} {e a b c o : Expr} {es : List Expr} {ss : List S} {pos p apos : Pos} {d : D} {s s1 s2 : S} {r : Rx} {R : Rel} {k : Nat} {x m f : Str} {dd : List D} {C : Addr}
theorem ds_raise (g : Go X N W n) (ce : Ce X.prog X.w X.K X.mg X.base k C x) (ha : DE X N W δ μ e (.v (.p d)) μ1) (hk : k + 1 ≤ n := by decide) (hg : Gl X x := by rfl) (hdb : (x == ("__debug__" : Str)) = false := by decide) (hs : starEach (e :: []) X.env = (false, eval e X.env) :: starEach [] X.env := by rfl) (hpl : (backTo p (starEach [] X.env)).any (·.1) = false := by rfl) :
    DS X N W δ μ (.Raise (some (.Call (.Name x apos) [e] [] p)) none pos) (.xx C d δ μ1) := by
  obtain ⟨f, fd, ps, Fo, hi, ht, hb⟩ := ce.ex
  have hx : Passes (L2.CX X.prog X.w) X (fun _ _ _ => False) := fun _ _ _ _ _ _ _ c => by
    obtain ⟨_, _, _, _, _, _, _, _, _, _, _, _, z⟩ := c
    exact z.elim
  refine PS.imp (ps_raise g.calm g.tk (pmk_oex ce.oc hi ht Fo (g.room.mono hk) hb .nil hx hg ce.at_ (da_cons ha da_nil hs) hdb hs hpl)) fun K σ H ⟨F, A, R0, q⟩ => ?_
  refine ⟨F, A, R0, fun vs F1 A1 H1 e1 p1 R1 rv => ?_⟩
  obtain ⟨v, rfl, rp⟩ := one_of rv
  refine ⟨by show 1 ≤ 1000; decide, fun a na => ?_⟩
  refine ⟨a, C, v, rfl, ce.oc, ce.nv, upd_same, fun dx ndx ne => ⟨rfl, dx, [("value", v)], upd_same, ?_, ?_, ?_⟩⟩
  · rw [upd_ne ne, upd_same]
  · rw [upd_ne ne] at ndx; exact ndx
  · have ndx' : H1 dx = none := by rw [upd_ne ne] at ndx; exact ndx
    have e : upd (del (upd (upd (upd H1 a (exo a C none)) dx (exd dx [("value", v)])) a (exo a C (some dx))) a) dx (.xd [("value", v)]) = upd H1 dx (.xd [("value", v)]) := by
      funext b
      by_cases hb : b = dx
      · subst hb; rw [upd_same, upd_same]
      · rw [upd_ne hb, upd_ne hb]
        by_cases ha : b = a
        · subst ha; rw [del_same]; exact na.symm
        · rw [del_ne ha, upd_ne ha, upd_ne hb, upd_ne ha]
    rw [e]
    have sm := same_updN (o := .xd [("value", v)]) (R1.rc.fresh ndx').2.1
    exact q σ dx v _ A1 _ (e1.trans sm) p1 (R1.to sm (List.prefix_refl _) (R1.rc.frozen ndx' _)) upd_same (Rep.mono sm rp)
/-! ## statements with an expression that raises -/
theorem ds_retX (h : DE X N W δ μ e (.x C d) μ1) : DS X N W δ μ (.Return (some e) pos) (.xx C d δ μ1) :=
  PS.imp (ps_ret h) fun K σ H ⟨F, A, R, k⟩ => ⟨F, A, R, fun dx v F' A' H' e p R' h1 h2 => k σ dx v F' A' H' e p R' h1 h2⟩
theorem ds_exprX (h : DE X N W δ μ e (.x C d) μ1) (hs : swapsWith e none pos.line X.env = pure false := by rfl) : DS X N W δ μ (.Expr e pos) (.xx C d δ μ1) :=
  PS.imp (ps_expr h hs) fun K σ H ⟨F, A, R, k⟩ => ⟨F, A, R, fun dx v F' A' H' e p R' h1 h2 => k σ dx v F' A' H' e p R' h1 h2⟩
theorem ds_setX (i : Nat) {x : Str} {pos' : Pos} (h : DE X N W δ μ e (.x C d) μ1) (hN : X.N.Nodup) (hi : X.N[i]? = some x := by rfl) (hx : Loc X.env.scope x := by first | exact Or.inl rfl | exact Or.inr rfl) (hs : swapsWith e (some (.Name x pos')) pos.line X.env = pure false := by rfl)
    (hf : X.fn x = true ∨ X.env.scope.names.lookup x = some .local := by first | exact .inl rfl | exact .inr rfl) : DS X N W δ μ (.Assign [.Name x pos'] e pos) (.xx C d δ μ1) :=
  PS.imp (ps_set (i := i) hN hi hx h hs hf) fun K σ H ⟨F, A, R, k⟩ => ⟨F, A, R, fun dx v F' A' H' e p R' h1 h2 => k σ dx v F' A' H' e p R' h1 h2⟩
/-- if e: .. where e raises -/
theorem ds_ifX {A B : List Stmt} (h : DE X N W δ μ c (.x C d) μ1) (he : ∀ whole, isTrue c X.env whole = (do let v ← whole; standAt c.pos; holding [v] (truthy v)) := by intro _; rfl) : DS X N W δ μ (.If c A B pos) (.xx C d δ μ1) :=
  PS.imp (ps_if (pt_val h he) pss_no pss_no) fun K σ H ⟨F, A, R, k⟩ => ⟨F, A, R, fun dx v F' A' H' e p R' h1 h2 => k σ dx v F' A' H' e p R' h1 h2⟩
/-! ## lists that change, by their methods -/
theorem m_append {j : Nat} {ds : List D} (hj : μ[j]? = some (.lst ds)) (hj0 : μ1[j]? = some (.lst ds)) (hl : ds.length < sizeLine) : MtOk X N W "list" "list.append" μ μ1 (.l j) [.p d] (.v (.p .non)) (μ1.set j (.lst (ds ++ [d]))) :=
  ⟨_, mt_append, fun σ δ F A H x R rx => by
    obtain ⟨a, rfl, ha⟩ := rx
    obtain ⟨ws, h1, h2⟩ := R.rc.mus j a _ ha hj
    exact .inl ⟨rfl, ws, SqL.of h1⟩, fun σ δ F A H x vs Q R rx rv k => by
    obtain ⟨v, rfl, h⟩ := one_of rv
    obtain ⟨a, rfl, ha⟩ := rx
    obtain ⟨ws, h1, h2⟩ := R.rc.mus j a _ ha hj0
    refine ⟨a, ws, v, rfl, rfl, h1, by rw [h2.length]; exact hl, ?_⟩
    exact k .non F A _ (Same.refl _) (List.prefix_refl _) (R.to (Same.refl _) (List.prefix_refl _) (R.rc.write ha hj0 trivial ⟨_, upd_same, h2.snoc h⟩)) .non⟩
theorem m_extend {j : Nat} {ds es : List D} (hj : μ[j]? = some (.lst ds)) (hj0 : μ1[j]? = some (.lst ds)) (hl : ds.length + es.length ≤ sizeLine) : MtOk X N W "list" "list.extend" μ μ1 (.l j) [.p (.lst es)] (.v (.p .non)) (μ1.set j (.lst (ds ++ es))) :=
  ⟨_, mt_extend, fun σ δ F A H x R rx => by
    obtain ⟨a, rfl, ha⟩ := rx
    obtain ⟨ws, h1, h2⟩ := R.rc.mus j a _ ha hj
    exact .inl ⟨rfl, ws, SqL.of h1⟩, fun σ δ F A H x vs Q R rx rv k => by
    obtain ⟨v, rfl, h⟩ := one_of rv
    obtain ⟨a, rfl, ha⟩ := rx
    obtain ⟨ws, h1, h2⟩ := R.rc.mus j a _ ha hj0
    obtain ⟨b, us, rfl, h3, h4⟩ := rep_lst h
    refine ⟨a, b, ws, us, rfl, rfl, h1, R.rc.sub _ _ h3, by rw [h2.length, h4.length]; exact hl, ?_⟩
    exact k .non F A _ (Same.refl _) (List.prefix_refl _) (R.to (Same.refl _) (List.prefix_refl _) (R.rc.write ha hj0 trivial ⟨_, upd_same, h2.append h4⟩)) .non⟩
theorem Reps.eraseIdx {K : PySem.W.Frag} {F : Hp} : ∀ {vs : List V} {ds : List D} (i : Nat), Reps K F vs ds → Reps K F (vs.eraseIdx i) (ds.eraseIdx i)
  | _, _, _, .nil => .nil
  | _, _, 0, .cons _ t => t
  | _, _, i + 1, .cons r t => .cons r (Reps.eraseIdx i t)
theorem m_popAt {j : Nat} {ds : List D} {i : Int} {q : Nat} (hj : μ[j]? = some (.lst ds)) (hj0 : μ1[j]? = some (.lst ds)) (hi : -(2 ^ 63) ≤ i ∧ i < 2 ^ 63) (hq : seqIndex? i ds.length = some q) (hd : ds[q]? = some d) : MtOk X N W "list" "list.pop" μ μ1 (.l j) [.p (.int i)] (.v (.p d)) (μ1.set j (.lst (ds.eraseIdx q))) :=
  ⟨_, mt_popAt, fun σ δ F A H x R rx => by
    obtain ⟨a, rfl, ha⟩ := rx
    obtain ⟨ws, h1, h2⟩ := R.rc.mus j a _ ha hj
    exact .inl ⟨rfl, ws, SqL.of h1⟩, fun σ δ F A H x vs Q R rx rv k => by
    obtain ⟨v, rfl, h⟩ := one_of rv
    obtain ⟨a, rfl, ha⟩ := rx
    obtain ⟨ws, h1, h2⟩ := R.rc.mus j a _ ha hj0
    obtain ⟨y, h3, h4⟩ := h2.get hd
    refine ⟨a, ws, i, q, y, rfl, by rw [rs_int h], h1, hi.1, hi.2, by rw [h2.length]; exact hq, h3, ?_⟩
    exact k y F A _ (Same.refl _) (List.prefix_refl _) (R.to (Same.refl _) (List.prefix_refl _) (R.rc.write ha hj0 trivial ⟨_, upd_same, h2.eraseIdx q⟩)) h4⟩
/-! ## lists and tuples put together -/
theorem o_catL {ds es : List D} (hl : ds.length + es.length ≤ sizeLine) : OpOk X N W (binaryOp .Add) μ (.p (.lst ds)) (.p (.lst es)) (.v (.p (.lst (ds ++ es)))) μ :=
  ⟨_, op_cat, fun σ δ F A H x y Q R rx ry k => by
    obtain ⟨a, ws, rfl, h1, h2⟩ := rep_lst rx
    obtain ⟨b, us, rfl, h3, h4⟩ := rep_lst ry
    refine ⟨a, b, ws, us, rfl, rfl, R.rc.sub _ _ h1, R.rc.sub _ _ h3, by rw [h2.length, h4.length]; exact hl, fun p np => ?_⟩
    have sm := same_updN (o := .lst (ws ++ us)) (R.rc.fresh np).2.1
    exact k (.ref p) _ A _ sm (List.prefix_refl _) (R.to sm (List.prefix_refl _) (R.rc.frozen np _)) (.lst upd_same ((h2.append h4).mono sm))⟩
theorem o_catM {j : Nat} {ds es : List D} (hj : μ[j]? = some (.lst ds)) (hl : ds.length + es.length ≤ sizeLine) : OpOk X N W (binaryOp .Add) μ (.l j) (.p (.lst es)) (.v (.p (.lst (ds ++ es)))) μ :=
  ⟨_, op_cat, fun σ δ F A H x y Q R rx ry k => by
    obtain ⟨a, rfl, ha⟩ := rx
    obtain ⟨ws, h1, h2⟩ := R.rc.mus j a _ ha hj
    obtain ⟨b, us, rfl, h3, h4⟩ := rep_lst ry
    refine ⟨a, b, ws, us, rfl, rfl, h1, R.rc.sub _ _ h3, by rw [h2.length, h4.length]; exact hl, fun p np => ?_⟩
    have sm := same_updN (o := .lst (ws ++ us)) (R.rc.fresh np).2.1
    exact k (.ref p) _ A _ sm (List.prefix_refl _) (R.to sm (List.prefix_refl _) (R.rc.frozen np _)) (.lst upd_same ((h2.append h4).mono sm))⟩
theorem o_repL {ds : List D} {i : Int} (hi : -(2 ^ 63) ≤ i ∧ i < 2 ^ 63) (hl : ds.length * i.toNat ≤ sizeLine) : True := trivial
/-- a list is frozen from here on -/
theorem dss_freeze {j : Nat} {ds : List D} {rest : List Stmt} {o : Os} (hj : μ[j]? = some (.lst ds)) (hA : N.A0.length ≤ j) (i : Nat) (hi : δ[i]? = some (some (.l j))) (h : DSs X N W (δ.set i (some (.p (.lst ds)))) (μ.set j .gone) rest o) : DSs X N W δ μ rest o :=
  PSs.imp h fun K σ H ⟨F, A, R, k⟩ => by
    obtain ⟨v, hv, a, rfl, ha⟩ := R.sl i _ hi
    obtain ⟨ws, h1, h2⟩ := R.rc.mus j a _ ha hj
    obtain ⟨r1, sm⟩ := R.rc.freeze ha hj trivial hA h1
    refine ⟨_, A, ⟨r1, by simp [R.len], fun i' s' e => ?_⟩, k.to sm (List.prefix_refl _)⟩
    by_cases hi' : i' = i
    · subst hi'
      have hl : i' < δ.length := (List.getElem?_eq_some_iff.mp hi).1
      rw [List.getElem?_set_self hl] at e
      cases e
      exact ⟨.ref a, hv, .lst upd_same (h2.mono sm)⟩
    · rw [List.getElem?_set_ne (Ne.symm hi')] at e
      obtain ⟨w, h3, h4⟩ := R.sl i' s' e
      exact ⟨w, h3, h4.mono sm (List.prefix_refl _)⟩
end
/-! ## the one __init__ -/
theorem fn_err {P : Program} {w : World} {K : PySem.W.Frag} {mg : Str → Option Value} {base : Heap} {st : Stmt} {f : Addr} {fd : FuncData} {x qual : Str} {p1 p2 p3 p4 : Pos} (F : Fun K x qual st f fd) (Sc : FnScope ["self", "value"] ["self", "value"] (defScope st))
    (hb : defBody st = [.Assign [.Attribute (.Name "self" p1) "value" p2] (.Name "value" p3) p4]) (hv1 : (defScope st).names.lookup ("self" : Str) = some NameKind.local) (hv2 : (defScope st).names.lookup ("value" : Str) = some NameKind.local) : FnOk P w K mg base (L2.CX P w) 1 f fd ["self", "value"] (spErr K) := by
  refine F.okX Sc (fun vs H Q E h => ?_) (fun cdv A outer s H vs Q E hr h => ?_)
  · obtain ⟨a, C, y, rfl, _⟩ := h
    rfl
  · obtain ⟨a, C, y, rfl, hC, hn, ha, k⟩ := h
    rw [hb]
    refine ⟨_, pss_one (ps_ost (pv 0 rfl (.inl hv1)) (pv 1 rfl (.inl hv2))), y, rfl, .ref a, rfl, a, C, rfl, hC, hn, .inl ⟨ha, fun dx ndx ne => k dx ndx ne⟩⟩
end Dl

set_option Elab.async false
set_option linter.all false
set_option maxRecDepth 100000
set_option maxHeartbeats 4000000
set_option autoImplicit false
namespace Dl
open PySem PySem.Spec PyProof.Rows L2
/-! ## len of own objects; a text n times; list(range(n)) -/
section
variable {X : Cx} {N : En} {W : WX} {n : Nat} {δ δ' δ1 δ2 : List (Option S)} {μ μ' μ1 μ2 μ3 : List M} {e a b c o : Expr} {es : List Expr} {ss : List S} {pos p apos : Pos} {d : D} {s s1 s2 : S} {r : Rx} {R : Rel} {k : Nat} {x m f : Str} {dd : List D} {C : Addr}
theorem c_lenOwn {ns : List Str} {d1 : List D} {q : Int} (g : Go X N W n) (cm : Cm X.prog X.w X.K X.mg X.base k C "__len__" [] R) (hR : R [.p (.ins C ns d1)] μ (.v (.p (.int q))) μ') (hq : 0 ≤ q ∧ q < 2 ^ 63) (hk : k + 1 ≤ n := by decide) : CallOk X N W (.builtin "len") μ [.p (.ins C ns d1)] (.v (.p (.int q))) μ' := by
  obtain ⟨f, fd, ps, ds, dvs, Fo, hme, hb, hd, rd⟩ := cm.ex
  refine ⟨fun xs H Q => ∃ a dx fs, xs = [.ref a] ∧ H a = some (.ins C dx fs) ∧ spD X.K R (xs ++ dvs) H (fun v H' => v = .int q ∧ Q (.int q) H') (fun _ _ _ => False), fun pins s σ H xs us Q I r ⟨a, dx, fs, e, ha, h⟩ => ?_, fun σ δ F A H vs Q R0 rv k0 => ?_⟩
  · subst e
    cases r with
    | cons r1 r2 =>
      cases r2
      cases r1
      obtain ⟨od, J⟩ := inst_at I ha
      obtain ⟨m', Fr'⟩ := I.fr
      refine PySem.W.len_K Fr' I.mod.kin J hme.at_ hme.fn ?_
      have r2 : Vals ([V.ref a] ++ dvs) ([Value.ref a] ++ ds) := L2.Vals.append (show L2.Vals [V.ref a] [Value.ref a] from .cons rfl .nil) hd
      have hl : ([Value.ref a] ++ ds).length = ps.length := by rw [← r2.length]; exact Fo.len _ _ _ _ h
      refine wpAny_call (codeAny_mono (Fo.run X.A.in1 X.stack s H ⟨[.ref a], []⟩ ([.ref a] ++ ds) ([.ref a] ++ dvs) _ (WE W0 σ) (g.room.mono hk).in1 I.env0.in1 (hb s [.ref a] I.kIn hl) r2 h) fun r s' hq' => ?_)
      cases r with
      | error e => exact passAt (W := W0) takes00 σ pins H s e s' I hq'
      | ok fl =>
        cases fl with
        | ret u =>
          obtain ⟨v, H', I', rv, ev, q'⟩ := I.after hq'
          subst ev
          obtain ⟨t, rfl⟩ := rv
          exact ⟨hq, .int q, H', I'.tok _, ⟨_, rfl⟩, q'⟩
        | next => exact False.elim hq'
        | brk => exact False.elim hq'
        | cont => exact False.elim hq'
  · obtain ⟨v, rfl, h1⟩ := one_of rv
    have h1' : Rep N.K F v (.ins C ns d1) := h1
    obtain ⟨a, dx, fs, rfl, g1, g2, g3⟩ := rep_ins h1'
    refine ⟨a, dx, fs, rfl, R0.rc.sub _ _ g1, ?_⟩
    have hK := g.hK
    rw [← hK] at rd ⊢
    refine spD_in (N := N) (σ := σ) (δ := δ) (F := F) (A := A) (ss := [.p (.ins C ns d1)] ++ ([] : List D).map S.p) (r := .v (.p (.int q))) hR R0 (RepSs.append (.cons h1 .nil) (of_reps (rd F))) ?_
    intro v F' A' H' e' p' R' rv'
    have e2 : v = .int q := rs_int rv'
    subst e2
    exact ⟨rfl, k0 _ F' A' H' e' p' R' rv'⟩
theorem op_mulSn {c : Nat} : OpR X (binaryOp .Mult) (fun x y H Q => ∃ (k : Nat), x = .str ⟨#[c]⟩ ∧ y = .int (k : Int) ∧ 1 ≤ k ∧ k ≤ 4 ∧ Q (.str ⟨(List.replicate k c).toArray⟩) H) := by
  intro pins s σ H x y v u Q I rx ry h
  obtain ⟨k, rfl, rfl, h1, h2, q⟩ := h
  obtain ⟨t, rfl⟩ := rx
  obtain ⟨t', rfl⟩ := ry
  match k, h1, h2, q with
  | 1, _, _, q =>
    refine PySem.P.mul_str (by decide) (fun _ h => by simp at h) (fun _ h => by simp at h) ?_
    show (if (1 : Int) < 1 then _ else if ((1 : Int) == 1 || _ == 0) = true then _ else _ : Made).post _ _
    rw [if_neg (by decide), if_pos (by simp)]
    exact ⟨.str ⟨#[c]⟩, H, I, ⟨t, rfl⟩, q⟩
  | 2, _, _, q =>
    refine PySem.P.mul_str (by decide) (fun _ h => by show ¬ ((1 : Nat) : Int) > _; decide) (fun _ h => by with_unfolding_all rfl) ?_
    exact ⟨by show (2 : Nat) ≤ _; decide, .str _, H, I.tok _, ⟨_, rfl⟩, q⟩
  | 3, _, _, q =>
    refine PySem.P.mul_str (by decide) (fun _ h => by show ¬ ((1 : Nat) : Int) > _; decide) (fun _ h => by with_unfolding_all rfl) ?_
    exact ⟨by show (3 : Nat) ≤ _; decide, .str _, H, I.tok _, ⟨_, rfl⟩, q⟩
  | 4, _, _, q =>
    refine PySem.P.mul_str (by decide) (fun _ h => by show ¬ ((1 : Nat) : Int) > _; decide) (fun _ h => by with_unfolding_all rfl) ?_
    exact ⟨by show (4 : Nat) ≤ _; decide, .str _, H, I.tok _, ⟨_, rfl⟩, q⟩
theorem o_mulSn {c k : Nat} (h : 1 ≤ k ∧ k ≤ 4) : OpOk X N W (binaryOp .Mult) μ (.p (.str ⟨#[c]⟩)) (.p (.int (k : Int))) (.v (.p (.str ⟨(List.replicate k c).toArray⟩))) μ :=
  ⟨_, op_mulSn, fun σ δ F A H x y Q R rx ry q => ⟨k, rs_str rx, rs_int ry, h.1, h.2, q.here R (.str _)⟩⟩
theorem de_listRg {i : Int} {p2 pos2 : Pos} (g : Go X N W n) (ha : DE X N W δ μ a (.v (.p (.int i))) μ1) (hm : X.mg "list" = none) (hm2 : X.mg "range" = none) (hi : 0 ≤ i ∧ i ≤ 16777216) (hg : Gl X "list" := by rfl) (hg2 : Gl X "range" := by rfl)
    (hs : starEach [a] X.env = (false, eval a X.env) :: starEach [] X.env := by rfl) (hs2 : starEach [.Call (.Name "range" p2) [a] [] pos2] X.env = (false, eval (.Call (.Name "range" p2) [a] [] pos2) X.env) :: starEach [] X.env := by rfl) :
    DE X N W δ μ (.Call (.Name "list" p) [.Call (.Name "range" p2) [a] [] pos2] [] pos) (.v (.p (.lst (rangeD 0 i.toNat)))) μ1 :=
  PE.imp (pe_listRg g.calm hg hm (prg_1 hg2 hm2 ha hs) hs2) fun σ H Q ⟨F, A, R0, k⟩ => ⟨F, A, R0, fun x F1 A1 H1 e1 p1 R1 rx => by
    have ex : x = .int i := rs_int rx
    subst ex
    refine ⟨i, rfl, RgOk.of_le (by omega) (by omega) (by omega) (by omega), fun q nq => ?_⟩
    have sm := same_updN (o := .lst (rgV 0 i)) (R1.rc.fresh nq).2.1
    refine k (.ref q) _ A1 _ (e1.trans sm) p1 (R1.to sm (List.prefix_refl _) (R1.rc.frozen nq _)) (.lst upd_same (Reps.mono sm ?_))
    unfold rgV rangeD
    rw [Int.sub_zero]
    generalize List.range i.toNat = l
    induction l with
    | nil => exact .nil
    | cons y ys ih => exact .cons (.int _) ih⟩
end
end Dl

set_option Elab.async false
set_option linter.all false
set_option maxRecDepth 100000
set_option maxHeartbeats 4000000
set_option autoImplicit false
namespace Dl
open PySem PySem.Spec PyProof.Rows L2
/-! ## the script itself -/
theorem rep_sc {K : PySem.W.Frag} {F : Hp} {v : V} {ns : List Int} (h : Rep K F v (.sc ns)) : ∃ a, v = .ref a ∧ SqL K F a (ns.map V.int) := by
  generalize hd : D.sc ns = d at h
  cases h with
  | sc h1 => cases hd; exact ⟨_, rfl, h1⟩
  | _ => cases hd
section
variable {X : Cx} {N : En} {W : WX} {n : Nat} {δ : List (Option S)} {μ : List M} {ns : List Int}
theorem c_lenSc (g : Go X N W n) : CallOk X N W (.builtin "len") μ [.p (.sc ns)] (.v (.p (.int ns.length))) μ :=
  ⟨_, call_len_seq, fun σ δ F A H vs Q R rv k => by
    obtain ⟨v, rfl, h⟩ := one_of rv
    have h' : Rep N.K F v (.sc ns) := h
    obtain ⟨a, rfl, h1⟩ := rep_sc h'
    refine ⟨a, ns.map V.int, rfl, .inl (by rw [← g.hK]; exact same_sqL R.rc.sub h1), ?_⟩
    rw [List.length_map]
    exact k.here R (.int _)⟩
theorem i_sc (g : Go X N W n) {i : Nat} {c : Int} (h : ns[i]? = some c) : IxOk X N W μ (.p (.sc ns)) (.p (.int (i : Int))) (.v (.p (.int c))) μ :=
  ⟨_, ix_list, fun σ δ F A H x y Q R rx ry k => by
    have rx' : Rep N.K F x (.sc ns) := rx
    obtain ⟨a, rfl, h1⟩ := rep_sc rx'
    exact ⟨a, ns.map V.int, (i : Int), .int c, rfl, rs_int ry, by rw [← g.hK]; exact same_sqL R.rc.sub h1, atI_nat (by rw [List.getElem?_map, h]; rfl), k.here R (.int _)⟩⟩
/-- the law's own promise, at the heap in which it is asked -/
theorem spD_law {K : PySem.W.Frag} {R : Rel} {H : Hp} {a : Addr} (hO : ∀ b, H b = none ∨ ∃ o xs, H b = some (.frz o (.lst xs))) (hS : SqL K H a (ns.map V.int)) (hR : R [.p (.sc ns)] [] (.v (.p (.bl true))) []) : spD K R [.ref a] H (fun v _ => v = .bl true) (fun _ _ _ => False) :=
  ⟨H, [], [.p (.sc ns)], [], .v (.p (.bl true)), [], hR,
    { sub := Same.refl _, base := Same.refl _, new := fun a o e => .inl ⟨o, e⟩, keep := fun _ _ e _ => e, pre := ⟨[], rfl, fun _ h => by cases h⟩, nd := List.nodup_nil, len := rfl, mus := fun j a m h => by simp at h, fr := fun j a m h => by simp at h },
    .cons (.sc hS) .nil, fun v F' A' H' _ rv => by
      have rv' : Rep K F' v (.bl true) := rv
      cases rv'
      rfl⟩
end
end Dl

set_option Elab.async false
set_option linter.all false
set_option maxRecDepth 100000
set_option maxHeartbeats 4000000
set_option autoImplicit false
namespace Dl
open PySem PySem.Spec PyProof.Rows L2
/-! ## == and != of own objects, as tests -/
section
variable {X : Cx} {N : En} {W : WX} {n : Nat} {δ δ' δ1 δ2 : List (Option S)} {μ μ' μ1 μ2 μ3 : List M} {e a b c o : Expr} {es : List Expr} {ss : List S} {pos p apos : Pos} {d : D} {s s1 s2 : S} {r : Rx} {R : Rel} {k : Nat} {x m f : Str} {dd : List D} {C : Addr}
theorem dt_eqOwn {ns : List Str} {d1 : List D} {d2 : D} {t : Value} {q : Bool} (g : Go X N W n) (cm : Cm X.prog X.w X.K X.mg X.base k C "__eq__" [] R) (ty : TyD X.K d2 t) (nf : PySem.W.notFirst X.K C t = true)
    (ha : DE X N W δ μ a (.v (.p (.ins C ns d1))) μ1) (hb : DE X N W δ μ1 b (.v (.p d2)) μ2) (hR : R [.p (.ins C ns d1), .p d2] μ2 (.v (.p (.bl q))) μ3) (hk : k ≤ n := by decide) : DT X N W δ μ (.Compare a [.Eq] [b] pos) q μ3 := by
  obtain ⟨f, fd, ps, ds, dvs, Fo, hme, hbi, hd, rd⟩ := cm.ex
  refine ⟨fun pins s σ H Q I ⟨F, A, R0, qq⟩ => wpAny_isTrue_Compare1 (two_then ha hb I R0 fun v u s3 x y H2 F2 A2 I2 rx ry e2 p2 R2 h1 h2 => ?_) (nomark _)⟩
  obtain ⟨a1, dx1, fs1, rfl, g1, g2, g3⟩ := rep_ins h1
  cases rx
  obtain ⟨od1, J1⟩ := inst_at I2 (R2.rc.sub _ _ g1)
  obtain ⟨m', Fr'⟩ := I2.fr
  refine PySem.W.cmp_ofEq (PySem.W.cmp_K (g.room.units0) Fr' I2.mod.kin J1 (type_of I2 R2.rc.sub ty (by rw [← g.hK]; exact h2) ry) nf hme.at_ hme.fn ?_)
  refine wpAny_mono (call_fnD (us := [.ref a1, u]) (vs := [.ref a1, y]) (ss := [.p (.ins C ns d1), .p d2]) (Q := fun v H' => v = .bl q ∧ Q q H') g hk Fo hbi hd rd I2 R2 (.cons h1 (.cons h2 .nil)) (.cons rfl (.cons ry .nil)) hR (fun v F' A' H' e' p' R' rv => ?_)) (fun v s' h => ?_) fun _ _ h => h
  · have rv' : Rep N.K F' v (.bl q) := rv
    cases rv'
    exact ⟨rfl, qq F' A' H' (e2.trans e') (p2.trans p') R'⟩
  · obtain ⟨w, H', I', rw', rfl, hq⟩ := h
    cases rw'
    exact wpAny_truthy_bool ⟨H', I', hq⟩
theorem dt_neOwn {ns : List Str} {d1 : List D} {d2 : D} {t : Value} {q : Bool} (g : Go X N W n) (cm : Cm X.prog X.w X.K X.mg X.base k C "__eq__" [] R) (nk : NeOk X.K C) (ty : TyD X.K d2 t) (nf : PySem.W.notFirst X.K C t = true)
    (ha : DE X N W δ μ a (.v (.p (.ins C ns d1))) μ1) (hb : DE X N W δ μ1 b (.v (.p d2)) μ2) (hR : R [.p (.ins C ns d1), .p d2] μ2 (.v (.p (.bl q))) μ3) (hk : k + 1 ≤ n := by decide) : DT X N W δ μ (.Compare a [.NotEq] [b] pos) (!q) μ3 := by
  obtain ⟨f, fd, ps, ds, dvs, Fo, hme, hbi, hd, rd⟩ := cm.ex
  refine ⟨fun pins s σ H Q I ⟨F, A, R0, qq⟩ => wpAny_isTrue_Compare1 (two_then ha hb I R0 fun v u s3 x y H2 F2 A2 I2 rx ry e2 p2 R2 h1 h2 => ?_) (nomark _)⟩
  obtain ⟨a1, dx1, fs1, rfl, g1, g2, g3⟩ := rep_ins h1
  cases rx
  obtain ⟨od1, J1⟩ := inst_at I2 (R2.rc.sub _ _ g1)
  have hun := g.room.units
  refine rich_ne g.room.units0 (by show X.A.units + 1 + 1 < _; omega) I2.kIn J1 (type_of I2 R2.rc.sub ty (by rw [← g.hK]; exact h2) ry) nf nk.ne nk.mro hme.at_ hme.fn ?_
  refine wpAny_mono (call_in1 (us := [.ref a1, u]) (vs := [.ref a1, y]) (ss := [.p (.ins C ns d1), .p d2]) (Q := fun v H' => v = .bl q ∧ Q (!q) H') g hk Fo hbi hd rd I2 R2 (.cons h1 (.cons h2 .nil)) (.cons rfl (.cons ry .nil)) hR (fun v F' A' H' e' p' R' rv => ?_)) (fun v s' h => ?_) fun _ _ h => h
  · have rv' : Rep N.K F' v (.bl q) := rv
    cases rv'
    exact ⟨rfl, qq F' A' H' (e2.trans e') (p2.trans p') R'⟩
  · obtain ⟨w, H', I', rw', rfl, hq⟩ := h
    cases rw'
    exact ⟨q, rfl, wpAny_truthy_bool ⟨H', I', hq⟩⟩
end
end Dl

set_option Elab.async false
set_option linter.all false
set_option maxRecDepth 100000
set_option maxHeartbeats 4000000
set_option autoImplicit false
namespace Dl
open PySem PySem.Spec PyProof.Rows L2
/-! ## an exception that is caught and kept -/
/-- a caught exception at a, of the class cls, its own dict at d -/
def KpO (cls : Value) (d : Option Addr) (a : Addr) : HO := .ext fun h => ∃ oe vs, h.get? a = some oe ∧ Zc cls d oe ∧ oe.data = .fields vs
section
variable {X : Cx} {pins : List (Addr × Obj)} {σ : L2.St} {H : Hp} {sI s : Shared} {a : Addr}
theorem kpo_ok {P : Program} {w : World} {h : Heap} {cls : Value} {d : Option Addr} {ob : Obj} {vs : Array Value} (e1 : h.get? a = some ob) (e2 : Zc cls d ob) (e3 : ob.data = .fields vs) : ObjOk P w H h a (KpO cls d a) :=
  ⟨⟨ob, vs, e1, e2, e3⟩, ⟨ob, e1⟩, fun h1 h2 ⟨o1, v1, q1, q2⟩ st => ⟨o1, v1, st o1 q1, q2⟩⟩
/-- what was not there yet when the exception was raised is told from here on -/
theorem track {o : HO} (J : Inv X pins σ H sI) (I : Inv X pins σ H s) (fa : sI.heap.get? a = none) (na : H a = none) (nL : a ≠ X.env.locals) (new : ObjOk X.prog X.w (upd H a o) s.heap a o) : Inv X pins σ (upd H a o) s where
  ok := I.ok
  os := I.os
  bare := I.bare
  base := {
    keep := I.base.keep
    slot := I.base.slot
    free := fun b ob q n hx => by
      by_cases hb : b = a
      · subst hb
        obtain ⟨ob', e⟩ := J.base.there b ob q hx
        rw [fa] at e
        cases e
      · rw [upd_ne hb]
        exact I.base.free b ob q n hx
    there := I.base.there
    tups := fun b xs q => by
      have e := I.base.tups b xs q
      rw [upd_ne (ne_of_none e na)]
      exact e
    frzs := fun b ob u q => by
      have e := I.base.frzs b ob u q
      rw [upd_ne (ne_of_none e na)]
      exact e
    tbls := fun b ps q => by
      obtain ⟨more, e⟩ := I.base.tbls b ps q
      exact ⟨more, by rw [upd_ne (ne_of_none e na)]; exact e⟩ }
  loc := I.loc
  cell := I.cell
  free := by
    rw [upd_ne (Ne.symm nL)]
    exact I.free
  freeC := fun y c hc => by
    have hb : c ≠ a := fun z => by
      obtain ⟨v, ob, e, _⟩ := J.cell y c hc
      rw [z, fa] at e
      cases e
    rw [upd_ne hb]
    exact I.freeC y c hc
  pin := fun p hp => by
    obtain ⟨q1, q2, q3, q4, q5⟩ := I.pin p hp
    have hb : p.1 ≠ a := fun z => by
      have e := (J.pin p hp).1
      rw [z, fa] at e
      cases e
    exact ⟨q1, by rw [upd_ne hb]; exact q2, q3, q4, q5⟩
  hok := I.hok.laidN (fun _ _ e => e) na new
  len := I.len
theorem into_suite (I : Inv X pins σ H s) : Inv (X.suite a (X.pn ++ pins)) [] σ H s :=
  ⟨I.ok.suite a _, I.os, I.bare, I.base, I.loc, I.cell, I.free, I.freeC, fun p hp => I.pin p (by simpa using hp), I.hok, I.len⟩
theorem out_suite {pn' : List (Addr × Obj)} (ok : X.Ok) (I : Inv (X.suite a (X.pn ++ pins)) pn' σ H s) : Inv X pins σ H s :=
  ⟨ok, I.os, I.bare, I.base, I.loc, I.cell, I.free, I.freeC, fun p hp => I.pin p (List.mem_append.mpr (.inl hp)), I.hok, I.len⟩
end
/-- the wish of the clause: it is of the class, the suite runs with the exception told -/
def wK (K : PySem.W.Frag) (c : Value) (i : Nat) (ts : Value → Option Addr → Addr → TS) (D : Ends) : WX := fun cls d σ H => PySem.W.exmOne K cls c = some true ∧ ∀ a, H a = none →
  ts cls d a { nx := fun σ' H' => D.nx (σ'.set i none) H', rt := D.rt, bk := fun σ' H' => D.bk (σ'.set i none) H', ct := fun σ' H' => D.ct (σ'.set i none) H' } (σ.set i (some (.ref a))) (upd H a (KpO cls d a))
section
variable {X : Cx} {x n : Str} {c : Value} {i : Nat} {body suite : List Stmt} {b₀ : Stmt} {np pos pos' : Pos} {tb : WX → TS} {ts : Value → Option Addr → Addr → TS}
theorem ps_keep (hs : X.stack = X.env :: X.outer) (hf : X.env.frame = some X.env.locals) (hN : X.N.Nodup) (hi : X.N[i]? = some n) (hln : X.env.kindOf n = some .local) (hc : Names X x c)
    (hb : ∀ (W : WX) (pn : List (Addr × Obj)) (xe : Value → Shared → Prop), Takes (X.tr pn xe) W → PassesOwn (model X.prog X.w) X.A X.env xe → PSs (X.tr pn xe) body (tb W))
    (hsu : ∀ (a : Addr) (cls : Value) (d : Option Addr) (pn : List (Addr × Obj)), PSs (X.suite a pn) (b₀ :: suite) (ts cls d a)) :
    PS X (.Try body [.ExceptHandler (some (.Name x np)) (some n) (b₀ :: suite) pos'] [] [] pos) (fun D σ H => tb (wK X.K c i ts D) D σ H) := by
  refine ⟨fun pins s σ H D I h => wpAny_Try_except ?_⟩
  have ok := I.ok
  refine wpAny_mono ((hb (wK X.K c i ts D) (X.pn ++ pins) (fun e t1 => wpAny (model X.prog X.w) X.A (noteFrame e X.env) (fun _ t2 => wpAny (model X.prog X.w) X.A (setFlight e none)
    (fun _ t3 => wpAny (model X.prog X.w) X.A (handleBy e X.env [.ExceptHandler (some (.Name x np)) (some n) (b₀ :: suite) pos']) (SP X pins D) X.xe t3) X.xe t2) X.xe t1)
    (fun u t air => ?_) PassesOwn.looking).run [] s σ H D (I.toTry _) h) (fun f t hsp => ?_) (fun _ _ z => z)
  · obtain ⟨a, B, sI, pins', σ', H', cls, d, rfl, J', nb, up, sky, na, os, ag, hyes, go⟩ := air
    have J : Inv X pins σ' H' sI := J'.ofTry ok
    have sky1 : Sky B (X.env :: X.outer) a (Zc cls d) X.env.locals t.heap := by
      rw [← hs]
      exact sky
    show wpAny (model X.prog X.w) X.A (noteFrame (.ref a) X.env) _ _ _
    have frm : X.A.frames = some (X.env :: X.outer) := by
      rw [ok.frames, hs]
    refine Sky.land Zc.steady frm hf sky1 fun g1 y1 u1 => ?_
    have J1 : Inv X pins σ' H' { t with heap := g1 } := J.landed nb y1.1 (up.trans u1) os ag
    have off : ∀ {g : Heap} {ob : Obj} {vs : Array Value}, g.FunFrames B (X.env :: X.outer) → g.get? a = some ob → ob.data = .fields vs → a ∉ frs (X.env :: X.outer) := fun {g ob vs} ff e q hm => by
      obtain ⟨_, ob', e', nf⟩ := ff.mem hm
      rw [e] at e'
      cases e'
      exact nf _ q
    obtain ⟨ob1, vs1, a1, z1, d1⟩ := y1.there
    have out := off y1.2.2.1 a1 d1
    have nL : a ≠ X.env.locals := fun z => out (List.mem_filterMap.mpr ⟨X.env, List.mem_cons_self, by rw [hf, z]⟩)
    have fa : sI.heap.get? a = none := by
      cases e : sI.heap.get? a with
      | none => rfl
      | some ob =>
        have z := nb a ob e (by rw [hs]; exact out)
        rw [y1.2.1] at z
        cases z
    have T1 := track (o := KpO cls d a) J J1 fa na nL (kpo_ok a1 z1 d1)
    have S1 : Inv (X.suite a (X.pn ++ pins)) [] σ' (upd H' a (KpO cls d a)) { t with heap := g1 } := into_suite T1
    refine wpAny_handleBy_cons (codeAny_handlers_test ?_) (fun q => by cases q)
    have look : PySem.W.Looks (model X.prog X.w) g1 (typeOf (.ref a)) cls := fun A' Q' E' t' k q => wpAny_typeOf_ref (k _ _ a1) (by rw [z1.1]; exact q)
    have is := PySem.W.exm_one (M := model X.prog X.w) J1.kIn look hyes
    have named : ∀ {Q' E' : Value → Shared → Prop}, Q' c { t with heap := g1 } → wpAny (model X.prog X.w) (X.A.mark (some (.ref a))) (eval (.Name x np) X.env) Q' E' { t with heap := g1 } := fun {Q' E'} q => by
      obtain ⟨q1, q2, q3 | ⟨q3, q4, q5⟩⟩ := hc
      · exact ld_glob (X := X.suite a (X.pn ++ pins)) S1 q1 q3 q q2
      · exact ld_blt (X := X.suite a (X.pn ++ pins)) S1 q1 q3 q4 q q5 q2
    refine named (is.here (codeAny_handlers_suite_as (HandSPX.lands_againZ y1 fun g2 y2 u2 => ?_)))
    have J2 : Inv X pins σ' H' { t with heap := g2 } := J.landed nb y2.1 ((up.trans u1).trans u2) os ag
    obtain ⟨ob2, vs2, a2, z2, d2⟩ := y2.there
    have S2 : Inv (X.suite a (X.pn ++ pins)) [] σ' (upd H' a (KpO cls d a)) { t with heap := g2 } := into_suite (track (o := KpO cls d a) J J2 fa na nL (kpo_ok a2 z2 d2))
    refine store_ok (X := X.suite a (X.pn ++ pins)) (v := .ref a) S2 hN hi (.inl hln) rfl (fun t5 S5 => ?_) (.inr hln)
    refine wpAny_mono ((hsu a cls d (X.pn ++ pins)).run [] t5 _ _ _ S5 (go a na)) (fun f t6 hsp => ?_) (fun _ _ z => z.elim)
    have leave : ∀ {σ6 : L2.St} {H6 : Hp} {Q' : Shared → Prop}, Inv (X.suite a (X.pn ++ pins)) [] σ6 H6 t6 → (∀ t7, Inv X pins (σ6.set i none) H6 t7 → Q' t7) → wpAny (model X.prog X.w) X.A (do
        bindName X.env n .none
        unbindBehindTheSuite X.env n pos') (fun _ t7 => Q' t7) X.xe t6 := fun {σ6 H6 Q'} S6 hq => gone_ok (out_suite ok S6) hN hi hln hq
    cases f with
    | next =>
      obtain ⟨σ6, H6, S6, q6⟩ := hsp
      exact leave S6 fun t7 J7 => ⟨_, H6, J7, q6⟩
    | brk =>
      obtain ⟨σ6, H6, S6, q6⟩ := hsp
      exact leave S6 fun t7 J7 => ⟨_, H6, J7, q6⟩
    | cont =>
      obtain ⟨σ6, H6, S6, q6⟩ := hsp
      exact leave S6 fun t7 J7 => ⟨_, H6, J7, q6⟩
    | ret u =>
      obtain ⟨v6, σ6, H6, S6, r6, q6⟩ := hsp
      exact leave S6 fun t7 J7 => ⟨v6, _, H6, J7, r6, q6⟩
  · cases f with
    | next =>
      obtain ⟨σ', H', J', q⟩ := hsp
      exact wpAny_execs_nil ⟨σ', H', J'.ofTry ok, q⟩
    | brk =>
      obtain ⟨σ', H', J', q⟩ := hsp
      exact ⟨σ', H', J'.ofTry ok, q⟩
    | cont =>
      obtain ⟨σ', H', J', q⟩ := hsp
      exact ⟨σ', H', J'.ofTry ok, q⟩
    | ret u =>
      obtain ⟨v, σ', H', J', r, q⟩ := hsp
      exact ⟨v, σ', H', J'.ofTry ok, r, q⟩
end
end Dl

set_option Elab.async false
set_option linter.all false
set_option maxRecDepth 100000
set_option maxHeartbeats 4000000
set_option autoImplicit false
namespace Dl
open PySem PySem.Spec PyProof.Rows L2
/-! ## a lambda without parameters, handed to a def -/
section
variable {X : Cx} {pins : List (Addr × Obj)} {σ : L2.St} {H : Hp} {s : Shared}
/-- it is made: its code object is one of the table, or a new one behind it -/
def Lam1 (H : Hp) (P : Addr) (ps : Array Value) (pos : Pos) (q : Str) (c' : Addr) (H1 : Hp) : Prop :=
  (H1 = H ∧ codeAmong pos ps.toList = some (.ref c')) ∨ (H c' = none ∧ H1 = upd (upd H P (.tbl (ps ++ #[rawInt pos.line, rawInt pos.col, .ref c']))) c' (LamX.CodeO c' q))
theorem lam_made {c P : Addr} {ps : Array Value} {params : Arguments} {body : Expr} {scope : Scope} {pos : Pos} {E : Value → Shared → Prop} {Q : Value → Shared → Prop} (I : Inv X pins σ H s) (TB : LamX.TabB X.base X.mg c P) (hcode : X.env.code = .ref c)
    (tabAt : H P = some (.tbl ps)) (tri : TriplesOk ps.toList) (known : ∀ (p : Pos) (v : Value), codeAmong p ps.toList = some v → ∃ b, v = .ref b ∧ H b = some (LamX.CodeO b (X.env.qual ++ "<lambda>")))
    (hdef : defaultsOf params X.env = ([], [])) (hfree : ∀ y ∈ scope.names, y.2 = .free → ∃ c, X.env.cells.lookup y.1 = some c)
    (k : ∀ (f c' : Addr) (pm ctv : Value) (H1 : Hp) (s1 : Shared), Inv X pins σ H1 s1 → Lam1 H P ps pos (X.env.qual ++ "<lambda>") c' H1 →
      s1.heap.get? f = some (PySem.W.kla_obj "<lambda>" (X.env.qual ++ "<lambda>") params body scope (cloFrom X.env.cells scope.names []) pm c' ctv) → H1 f = none → f ∉ frs X.stack → H1 c' = some (LamX.CodeO c' (X.env.qual ++ "<lambda>")) → Q (.ref f) s1) :
    wpAny (model X.prog X.w) X.A (eval (.Lambda params body scope pos) X.env) Q E s := by
  have tabH : s.heap.get? P = some { cls := .none, data := .fields ps } := I.hok P _ tabAt
  have below : ∀ f, s.heap.objs.size ≤ f → f ∉ frs X.stack := fun f big hm => by
    rcases List.mem_cons.mp (I.stkSub _ hm) with e | e
    · have lt := I.lt
      rw [← e] at lt
      exact absurd lt (Nat.not_lt.mpr big)
    · exact I.nofs big e
  refine PySem.W.kla_eval hdef ?_
  cases fnd : codeAmong pos ps.toList with
  | some v =>
    obtain ⟨b, rfl, hb⟩ := known pos v fnd
    refine PySem.W.kla_makeFunctionHit (ps := ps) (c := c) (P := P) (mg := X.mg) (closure_ok hfree) I.ok.glob (I.mod.glob.keeps I.bk) hcode (TB.code.keeps I.bk) tabH tri fnd (TB.bm.keeps I.bk) fun ctv g tk kept grown => ?_
    refine k g.objs.size b ((X.mg "__name__").getD .none) ctv H _ ?_ (.inl ⟨rfl, fnd⟩) (Heap.get?_push_size _ rfl) (I.hok.fresh grown) (below _ grown) hb
    exact I.kept fun d o e => Heap.get?_push_of_some _ (kept d o e)
  | none =>
    refine PySem.W.kla_makeFunction (ps := ps) (c := c) (P := P) (mg := X.mg) (closure_ok hfree) I.ok.glob (I.mod.glob.keeps I.bk) hcode (TB.code.keeps I.bk) tabH tri fnd TB.gP (TB.bm.keeps I.bk) fun c' ctv g tk but big small rec_ tabG => ?_
    obtain ⟨_, oc, vs, t, ec, hoc, hd, hv⟩ := rec_
    cases ec
    have newC : H c' = none := I.hok.fresh big
    have grown : s.heap.objs.size ≤ g.objs.size := Nat.le_of_lt (Nat.lt_of_le_of_lt big small)
    have newF : H g.objs.size = none := I.hok.fresh grown
    have J := LamX.inv_table (q := X.env.qual ++ "<lambda>") (t' := tk) (more := #[rawInt pos.line, rawInt pos.col, .ref c']) (h' := g.push (PySem.W.kla_obj "<lambda>" (X.env.qual ++ "<lambda>") params body scope (cloFrom X.env.cells scope.names []) ((X.mg "__name__").getD .none) c' ctv))
      I tabAt (fun b o ne e => Heap.get?_push_of_some _ (but b o ne e)) (Heap.get?_push_of_some _ tabG) big ⟨oc, vs, t, Heap.get?_push_of_some _ hoc, hd, hv⟩
    refine k g.objs.size c' _ ctv _ _ J (.inr ⟨newC, rfl⟩) (Heap.get?_push_size _ rfl) ?_ (below _ grown) upd_same
    have n2 : g.objs.size ≠ P := (Nat.ne_of_lt (Nat.lt_of_lt_of_le (Heap.lt_size tabH) grown)).symm
    rw [upd_ne (Nat.ne_of_gt small), upd_ne n2]
    exact newF
end
/-- .. in terms of what is told -/
theorem rc_lam {N : En} {F : Hp} {A : List Addr} {H H1 : Hp} {μ : List M} {j : Nat} {P c' : Addr} {q : Str} {ps : Array Value} {pos : Pos} (r : Rc N F A H μ) (ha : A[j]? = some P) (hm : μ[j]? = some (.tab P q)) (tabAt : H P = some (.tbl ps)) (tri : TriplesOk ps.toList)
    (known : ∀ (p : Pos) (v : Value), codeAmong p ps.toList = some v → ∃ b, v = .ref b ∧ F b = some (LamX.CodeO b q)) (l : Lam1 H P ps pos q c' H1) : ∃ F1, Same F F1 ∧ Rc N F1 A H1 μ ∧ F1 c' = some (LamX.CodeO c' q) := by
  rcases l with ⟨rfl, fnd⟩ | ⟨nc, rfl⟩
  · obtain ⟨b, e, hb⟩ := known pos _ fnd
    cases e
    exact ⟨F, Same.refl _, r, hb⟩
  · have ne : P ≠ c' := ne_of_none tabAt nc
    have sm := same_updN (o := LamX.CodeO c' q) (r.fresh nc).2.1
    have r1 := r.frozen nc (LamX.CodeO c' q)
    have eL : (ps ++ #[rawInt pos.line, rawInt pos.col, .ref c']).toList = ps.toList ++ [rawInt pos.line, rawInt pos.col, .ref c'] := by simp
    have r2 := r1.write (m' := .tab P q) ha hm trivial (o := .tbl (ps ++ #[rawInt pos.line, rawInt pos.col, .ref c'])) ⟨rfl, _, upd_same, by rw [eL]; exact PySem.TriplesOk_snoc _ _ _ _ tri, fun p v hv => by
      rw [eL] at hv
      rcases LamX.among_app _ tri hv with z | z
      · obtain ⟨b, e, hb⟩ := known p v z
        exact ⟨b, e, sm _ _ hb⟩
      · exact ⟨c', z, upd_same⟩⟩
    refine ⟨_, sm, ?_, upd_same⟩
    have es : μ.set j (.tab P q) = μ := by
      obtain ⟨h1, h2⟩ := List.getElem?_eq_some_iff.mp hm
      rw [← h2]
      exact List.set_getElem_self h1
    have eH : upd (upd H c' (LamX.CodeO c' q)) P (.tbl (ps ++ #[rawInt pos.line, rawInt pos.col, .ref c'])) = upd (upd H P (.tbl (ps ++ #[rawInt pos.line, rawInt pos.col, .ref c']))) c' (LamX.CodeO c' q) := by
      funext b
      by_cases h1 : b = P
      · subst h1
        rw [upd_same, upd_ne ne, upd_same]
      · rw [upd_ne h1]
        by_cases h2 : b = c'
        · subst h2
          rw [upd_same, upd_same]
        · rw [upd_ne h2, upd_ne h2, upd_ne h1]
    rw [es, eH] at r2
    exact r2
end Dl

set_option Elab.async false
set_option linter.all false
set_option maxRecDepth 100000
set_option maxHeartbeats 4000000
set_option autoImplicit false
namespace Dl
open PySem PySem.Spec PyProof.Rows L2
section
variable {X : Cx} {pins : List (Addr × Obj)} {σ : L2.St} {H : Hp} {s : Shared}
abbrev lamQ (X : Cx) : Str := X.env.qual ++ "<lambda>"
abbrev lamO (X : Cx) (params : Arguments) (body : Expr) (scope : Scope) (pm : Value) (c' : Addr) (ctv : Value) : Obj := PySem.W.kla_obj "<lambda>" (lamQ X) params body scope (cloFrom X.env.cells scope.names []) pm c' ctv
/-- the context of the def g that was handed the lambda, entered at s -/
abbrev inG (X : Cx) (Ng : List Str) (qg : Str) (sg : Scope) (g : Addr) (cdg : Value) (s : Shared) (H : Hp) : Cx := cxOf C8.CX0 X.prog X.w X.K X.mg X.base Ng qg sg g cdg X.A X.stack s H C8.E0
/-- the name of the lambda is called there; what it lets out is wished with the slots that stand then -/
theorem lam_act {Ng : List Str} {qg : Str} {sg : Scope} {g f c' : Addr} {cdg pm ctv : Value} {params : Arguments} {body : Expr} {scope : Scope} {k i : Nat} {a : Str} {pn : List (Addr × Obj)} {xe : Value → Shared → Prop} {W : WX} {t : XK → TE} {p1 p2 : Pos}
    (I : Inv X pins σ H s) (L : LamX.LamS X.env.scope scope) (at_ : s.heap.get? f = some (lamO X params body scope pm c' ctv)) (hfn : H f = none) (hfr : f ∉ frs X.stack)
    (hbind : bindArgs (PySem.W.kla_fn "<lambda>" (lamQ X) params body scope (cloFrom X.env.cells scope.names []) pm (.ref c') ctv) ⟨[], []⟩ = pure [])
    (tk : Takes ((inG X Ng qg sg g cdg s H).tr pn xe) W) (hr : Room (k + 1) (X.A.deeper (envOfC qg sg s.heap.objs.size g cdg)))
    (hbody : ∀ (E : XK) (A : Around) (outer : List Env) (s : Shared) (H : Hp), Room k (A.deeper (LamX.lamEnv X scope s.heap.objs.size f c')) → PE (LamX.lamCx X A outer s H E scope f c') body (t E))
    (hN : Ng[i]? = some a) (hv : Vis sg a) (hd : (a == ("__debug__" : Str)) = false := by decide) (hcd : (a == ("__classdict__" : Str)) = false := by decide) :
    PE ((inG X Ng qg sg g cdg s H).tr pn xe) (.Call (.Name a p1) [] [] p2) (fun σZ HZ Q => σZ[i]? = some (some (.ref f)) ∧ HZ c' = some (LamX.CodeO c' (lamQ X)) ∧ t (WE W σZ) σ HZ Q) := by
  refine ⟨fun pinsZ sZ σZ HZ Q IZ ⟨slot, code, want⟩ => wpAny_Call_Name_kw (thn ((pe_var (pos := p1) (i := i) hN hv hd hcd).run pinsZ sZ σZ HZ (fun v H1 => v = .ref f ∧ H1 = HZ) IZ ⟨.ref f, slot, rfl, rfl⟩) fun u s1 ⟨v, H1, I1, r1, e1, e2⟩ => ?_)⟩
  subst e1 e2
  obtain rfl : u = Value.ref f := r1
  have at1 : s1.heap.get? f = some (lamO X params body scope pm c' ctv) := I1.base.keep f _ at_ hfn hfr (by intro z; cases (show f ∈ ([] : List Addr) from z))
  refine PySem.W.callWith_F0 ⟨_, _, _, _, at1⟩ ?_
  have un : Un (frs X.stack) [] H H1 s.heap s1.heap := I1.base
  obtain ⟨⟨oc, vs, tq, oAt, oD, oV⟩, _⟩ := I1.hok c' _ code
  have run : codeAny (model X.prog X.w) (X.A.deeper (envOfC qg sg s.heap.objs.size g cdg)) (.call (.ref f) ⟨[], []⟩) (CR (L2.CX X.prog X.w) (envOfC qg sg s.heap.objs.size g cdg :: X.stack) X.prog X.w H1 s1 Q (WE W σZ)) s1 := by
    refine PySem.W.kla_callFunE hr.depth at1 rfl L.co L.gen rfl ⟨c', oc, vs, tq, rfl, oAt, oD, oV⟩ ?_
    rw [hbind]
    refine wpAny_pure (wpAny_newFunctionEnv (fun y hy => (L.own y hy).2) (fun y hy => by cases hy) (fun g1 ns sb => ⟨I1.nolimit.fresh _ sb, ?_⟩) L.kind)
    have kp : ∀ b o, s1.heap.get? b = some o → g1.get? b = some o := fun b o e => sb.extBut b o (Nat.ne_of_lt (Heap.lt_size e)) (Heap.get?_push_of_some _ e)
    show codeAny _ _ (.expr body (LamX.lamEnv X scope s1.heap.objs.size f c')) _ _
    have J := LamX.lam_start2 (A := X.A.deeper (envOfC qg sg s.heap.objs.size g cdg)) (outer := envOfC qg sg s.heap.objs.size g cdg :: X.stack) (E := WE W σZ) (f := f) (c' := c') (tk := s1.toks + ([] : List (Str × Value)).length) I L I1.env0 hr.hd un ns kp
    refine PySem.W.kla_codeExpr (wpAny_mono ((hbody (WE W σZ) _ _ s1 H1 (hr.deeper _)).run [] _ _ H1 Q J want) (fun v s' ⟨x, H', J', rv, q⟩ => ?_) fun _ _ z => z)
    exact ⟨x, H', J'.os, J'.bare, J'.base, J'.hok, rv, q⟩
  refine wpAny_call (codeAny_mono run fun r s' hq => ?_)
  cases r with
  | error e => exact passAt tk σZ pinsZ H1 s1 e s' I1 hq
  | ok fl =>
    cases fl with
    | ret u => exact I1.after hq
    | next => exact hq.elim
    | brk => exact hq.elim
    | cont => exact hq.elim
/-- the def that calls what it got, by its body -/
def GivesD (X : Cx) (Ng : List Str) (x : Str) (sg : Scope) (g : Addr) (cdg : Value) (bg : List Stmt) (a : Str) (q : Str) (TT : (XK → Hp → VK → Prop) → Hp → VK → Prop) : Prop :=
  ∀ (f c' : Addr) (s : Shared) (H : Hp) (Q : VK) (tl : XK → Hp → VK → Prop),
    (∀ (W : WX) (pn : List (Addr × Obj)) (xe : Value → Shared → Prop) (p1 p2 : Pos), Takes ((inG X Ng x sg g cdg s H).tr pn xe) W →
      PE ((inG X Ng x sg g cdg s H).tr pn xe) (.Call (.Name a p1) [] [] p2) (fun σZ HZ Q => σZ[0]? = some (some (.ref f)) ∧ HZ c' = some (LamX.CodeO c' q) ∧ tl (WE W σZ) HZ Q)) →
    (∀ (E E' : XK) (H : Hp) (Q Q' : VK), (∀ c d h, E c d h → E' c d h) → (∀ v h, Q v h → Q' v h) → tl E H Q → tl E' H Q') →
    H c' = some (LamX.CodeO c' q) → TT tl H Q → ∃ t, PSs (inG X Ng x sg g cdg s H).nox bg t ∧ t { nx := fun _ H' => Q .non H', rt := Q } (L2.start Ng [.ref f]) H
def tLamD (P : Addr) (lpos : Pos) (q : Str) (TT : (XK → Hp → VK → Prop) → Hp → VK → Prop) (t : XK → TE) : TE := fun σ H Q => ∃ ps : Array Value, H P = some (.tbl ps) ∧ TriplesOk ps.toList ∧
  (∀ (p : Pos) (v : Value), codeAmong p ps.toList = some v → ∃ b, v = .ref b ∧ H b = some (LamX.CodeO b q)) ∧ ∀ c' H1, Lam1 H P ps lpos q c' H1 → H1 c' = some (LamX.CodeO c' q) → TT (fun E H' Q' => t E σ H' Q') H1 Q
theorem pe_lamD {TT : (XK → Hp → VK → Prop) → Hp → VK → Prop} {x a : Str} {g c P : Addr} {k : Nat} {pg : Arguments} {bg : List Stmt} {sg : Scope} {dV kV doc pm cdv ct oc : Value} {an od : Option Addr} {osl : Array (Option Value)} {Ng : List Str} {params : Arguments} {body : Expr} {scope : Scope} {t : XK → TE} {p lpos pos : Pos}
    (hg : Gl X x) (hm : X.mg x = some (.ref g)) (hk : PySem.W.keepIn X.K (.ref g) = true) (lk : X.K.lookup g = some ⟨oc, od, .func (PySem.W.fnOf x x pg bg sg dV kV doc pm an cdv ct), osl⟩) (hcg : PySem.W.codeIn X.K cdv x = true)
    (hb : L2.Binds X.K (PySem.W.fnOf x x pg bg sg dV kV doc pm an cdv ct) [a] []) (Sg : FnScope Ng [a] sg) (hNg : Ng[0]? = some a) (hva : Vis sg a) (hG : GivesD X Ng x sg g cdv bg a (lamQ X) TT)
    (TB : LamX.TabB X.base X.mg c P) (hcode : X.env.code = .ref c) (hr : Room (k + 2) X.A) (L : LamX.LamS X.env.scope scope) (hdef : defaultsOf params X.env = ([], []))
    (hbind : ∀ (q : Str) (cl : List (Str × Addr)) (pm cv ctv : Value), bindArgs (PySem.W.kla_fn "<lambda>" q params body scope cl pm cv ctv) ⟨[], []⟩ = pure [])
    (hbody : ∀ (E : XK) (A : Around) (outer : List Env) (s : Shared) (H : Hp) (f c' : Addr), Room k (A.deeper (LamX.lamEnv X scope s.heap.objs.size f c')) → PE (LamX.lamCx X A outer s H E scope f c') body (t E))
    (mono : ∀ (σ : L2.St) (E E' : XK) (H : Hp) (Q Q' : VK), (∀ c d h, E c d h → E' c d h) → (∀ v h, Q v h → Q' v h) → t E σ H Q → t E' σ H Q')
    (hdb : (x == ("__debug__" : Str)) = false := by decide) (hd : (a == ("__debug__" : Str)) = false := by decide) (hcd : (a == ("__classdict__" : Str)) = false := by decide) :
    PE X (.Call (.Name x p) [.Lambda params body scope lpos] [] pos) (tLamD P lpos (lamQ X) TT t) := by
  refine ⟨fun pins s σ H Q I ⟨ps, tabAt, tri, known, want⟩ => ?_⟩
  refine wpAny_Call_Name_kw (ld_glob I hg hm (PySem.W.callWith_K (h₀ := X.base) I.ok.mod.kin hk ?_ (by rfl) (by rfl)) hdb)
  show wpAny _ _ (spliced ((false, eval (.Lambda params body scope lpos) X.env) :: backTo pos (starEach [] X.env))) _ _ s
  refine Calls.spliced_cons (lam_made I TB hcode tabAt tri known hdef (L.has I.ok) fun f c' pm' ctv H1 s1 I1 l1 hf hfn hfr hco => Calls.spliced_nil ⟨I1.kIn, ?_⟩)
  have run : codeAny (model X.prog X.w) X.A (.call (.ref g) ⟨[.ref f], []⟩) (CR C8.CX0 X.stack X.prog X.w H1 s1 Q C8.E0) s1 := by
    refine LamX.run_ofS (us := [.ref f]) (vs := [.ref f]) (N := Ng) (ps := [a]) lk hcg Sg hr I1.env0 (hb s1 [.ref f] I1.kIn rfl) (.cons rfl .nil) rfl fun hr1 => ?_
    obtain ⟨t1, ht, hq⟩ := hG f c' s1 H1 Q (fun E H' Q' => t E σ H' Q') (fun W pn xe p1 p2 tk => lam_act (i := 0) I1 L hf hfn hfr (hbind _ _ _ _ _) tk hr1 (fun E A outer s H hr2 => hbody E A outer s H f c' hr2) hNg hva hd hcd) (fun E E' H' Q1 Q2 h1 h2 h3 => mono σ E E' H' Q1 Q2 h1 h2 h3) hco (want c' H1 l1 hco)
    exact ⟨t1, ht.nox, hq⟩
  refine wpAny_call (codeAny_mono run fun r s2 hq => ?_)
  cases r with
  | error e => exact (show False from hq).elim
  | ok fl =>
    cases fl with
    | ret u => exact I1.after hq
    | next => exact hq.elim
    | brk => exact hq.elim
    | cont => exact hq.elim
end
end Dl

set_option Elab.async false
set_option linter.all false
set_option maxRecDepth 100000
set_option maxHeartbeats 4000000
set_option autoImplicit false
namespace Dl
open PySem PySem.Spec PyProof.Rows L2
/-! ## a def whose code object is named: a maker of lambdas -/
theorem fn_Dc {P : Program} {w : World} {K : PySem.W.Frag} {mg : Str → Option Value} {base : Heap} {x qual : Str} {st : Stmt} {f cA : Addr} {oc kV doc pm ct : Value} {od an : Option Addr} {osl : Array (Option Value)} {Nn ps : List Str} {k : Nat} {R : Rel}
    (lk : K.lookup f = some ⟨oc, od, .func (PySem.W.fnOf x qual (defArgs st) (defBody st) (defScope st) .none kV doc pm an (.ref cA) ct), osl⟩) (hcd : PySem.W.codeIn K (.ref cA) qual = true) (Sc : FnScope Nn ps (defScope st)) (hlen : ∀ ss μ r μ', R ss μ r μ' → ss.length = ps.length)
    (body : ∀ (A : Around) (outer : List Env) (s : Shared) (H : Hp) (E : XK) (N : En) (W : WX) (ss : List S) (μ : List M) (r : Rx) (μ' : List M), Go (cxOf (L2.CX P w) P w K mg base Nn qual (defScope st) f (.ref cA) A outer s H E) N W k → N.A0.length = μ.length → R ss μ r μ' →
      ∃ o, DSs (cxOf (L2.CX P w) P w K mg base Nn qual (defScope st) f (.ref cA) A outer s H E) N W (starts Nn ss) μ (defBody st) o ∧ Fit μ.length o r μ') :
    FnOk P w K mg base (L2.CX P w) (k + 1) f (PySem.W.fnOf x qual (defArgs st) (defBody st) (defScope st) .none kV doc pm an (.ref cA) ct) ps (spD K R) := by
  refine fn_of lk hcd Sc (fun vs H Q E h => ?_) (fun A outer s H vs Q E hr h => ?_)
  · obtain ⟨F0, A0, ss, μ, r, μ', hR, _, rv, _⟩ := h
    rw [rv.length]
    exact hlen _ _ _ _ hR
  · obtain ⟨F0, A0, ss, μ, r, μ', hR, rc, rv, hq⟩ := h
    have g : Go (cxOf (L2.CX P w) P w K mg base Nn qual (defScope st) f (.ref cA) A outer s H E) ⟨K, H, F0, A0⟩ (fun cls d _ H => E cls d H) k :=
      ⟨takes_of rfl rfl rfl rfl, rfl, rfl, hr, passes_of rfl, Sc.nd⟩
    have h0 : A0.length = μ.length := rc.len
    obtain ⟨o, hd, fit⟩ := body A outer s H E ⟨K, H, F0, A0⟩ _ ss μ r μ' g h0 hR
    refine ⟨_, hd, F0, A0, ⟨rc, (start_slots (N := ⟨K, H, F0, A0⟩) Nn rv).1, (start_slots (N := ⟨K, H, F0, A0⟩) Nn rv).2⟩, ?_⟩
    · cases fit with
      | rt => exact fun v F' A' H' e p rc' rv' => hq v F' A' H' rc' rv'
      | rtT hn => exact fun v F' A' H' e p rc' rv' => hq v F' _ H' (rc'.trim (by show A0.length ≤ _; omega)) rv'
      | nx => exact fun σ' F' A' H' e p R' => hq .non F' A' H' R'.rc .non
      | nxT hn => exact fun σ' F' A' H' e p R' => hq .non F' _ H' (R'.rc.trim (by show A0.length ≤ _; omega)) .non
      | xx => exact fun σ' dx v F' A' H' e p R' h1 h2 => hq dx v F' A' H' R'.rc h1 h2
      | xxT hn => exact fun σ' dx v F' A' H' e p R' h1 h2 => hq dx v F' _ H' (R'.rc.trim (by show A0.length ≤ _; omega)) h1 h2
/-! ## what was heard: (None, what came back) or (the error, None) -/
def TTh (K : PySem.W.Frag) (CK : Addr) : (XK → Hp → VK → Prop) → Hp → VK → Prop := fun tl H Q => ∀ t, H t = none →
  tl (fun cls d H' => PySem.W.exmOne K cls (.ref CK) = some true ∧ ∀ a, H' a = none → ∀ p, (upd H' a (KpO cls d a)) p = none → Q (.ref p) (upd (upd H' a (KpO cls d a)) p (.tup [.ref a, .non]))) (upd H t (.tup [.non, .non]))
    (fun v H' => ∀ p, H' p = none → Q (.ref p) (upd H' p (.tup [.non, v])))
theorem EndE.imp {N : En} {W W' : WX} {σ : L2.St} {δ : List (Option S)} {F : Hp} {A : List Addr} {μ : List M} {Q Q' : VK} {r : Rx} (k : EndE N W σ δ F A μ Q r) (hW : ∀ c d σ H, W c d σ H → W' c d σ H) (hQ : ∀ v H, Q v H → Q' v H) : EndE N W' σ δ F A μ Q' r := by
  cases r with
  | v s => exact fun v F' A' H' e p R' rv => hQ _ _ (k v F' A' H' e p R' rv)
  | x C d => exact fun dx v F' A' H' e p R' h1 h2 => hW _ _ _ _ (k dx v F' A' H' e p R' h1 h2)
inductive HR (K : PySem.W.Frag) (CK : Addr) : Rx → D → Prop
  | v (d) : HR K CK (.v (.p d)) (.tup [.non, d])
  | x {C d} : PySem.W.exmOne K (.ref C) (.ref CK) = some true → HR K CK (.x C d) (.tup [.exc C d, .non])
/-- the def that hears, as it stands behind the top -/
structure Ch (K : PySem.W.Frag) (mg : Str → Option Value) (x a err : Str) (st : Stmt) (Ng : List Str) (CK : Addr) : Prop where
  ex : ∃ (g : Addr) (oc kV doc pm cdv ct : Value) (od an : Option Addr) (osl : Array (Option Value)), K.lookup g = some ⟨oc, od, .func (PySem.W.fnOf x x (defArgs st) (defBody st) (defScope st) .none kV doc pm an cdv ct), osl⟩ ∧ PySem.W.codeIn K cdv x = true ∧
    mg x = some (.ref g) ∧ PySem.W.keepIn K (.ref g) = true ∧ Binds K (PySem.W.fnOf x x (defArgs st) (defBody st) (defScope st) .none kV doc pm an cdv ct) [a] []
  eat : mg err = some (.ref CK)
  sc : FnScope Ng [a] (defScope st)
  n0 : Ng[0]? = some a
  v0 : Vis (defScope st) a
  gives : ∀ X : Cx, X.mg err = some (.ref CK) → ∀ g cdg q, GivesD X Ng x (defScope st) g cdg (defBody st) a q (TTh X.K CK)
section
variable {X : Cx} {N : En} {W : WX} {n : Nat} {δ : List (Option S)} {μ μ' : List M} {res : D} {r0 : Rx}
theorem de_heard {x a err : Str} {st : Stmt} {Ng : List Str} {CK c P : Addr} {j k : Nat} {params : Arguments} {bdy : Expr} {scope : Scope} {p lpos pos : Pos} (g : Go X N W n) (ch : Ch X.K X.mg x a err st Ng CK) (hT : μ[j]? = some (.tab P (lamQ X))) (TB : LamX.TabB X.base X.mg c P) (hcode : X.env.code = .ref c) (hr : HR X.K CK r0 res)
    (body : ∀ E A outer s H f c', ∀ N' : En, N'.K = N.K → Go (LamX.lamCx X A outer s H E scope f c') N' (fun cls d _ H => E cls d H) k → DE (LamX.lamCx X A outer s H E scope f c') N' (fun cls d _ H => E cls d H) δ μ bdy r0 μ')
    (L : LamX.LamS X.env.scope scope := by exact LamX.lamS_by (by rfl)) (hk : k + 2 ≤ n := by decide) (hg : Gl X x := by rfl) (hdef : defaultsOf params X.env = ([], []) := by rfl)
    (hbind : ∀ (q : Str) (cl : List (Str × Addr)) (pm cv ctv : Value), bindArgs (PySem.W.kla_fn "<lambda>" q params bdy scope cl pm cv ctv) ⟨[], []⟩ = pure [] := by intros; rfl)
    (hdb : (x == ("__debug__" : Str)) = false := by decide) (hd : (a == ("__debug__" : Str)) = false := by decide) (hcd : (a == ("__classdict__" : Str)) = false := by decide) :
    DE X N W δ μ (.Call (.Name x p) [.Lambda params bdy scope lpos] [] pos) (.v (.p res)) μ' := by
  obtain ⟨gA, oc, kV, doc, pm, cdv, ct, od, an, osl, lk, hcg, hm, hkp, hb⟩ := ch.ex
  refine PE.imp (pe_lamD (t := fun E σ H Q => ∃ (N' : En) (F : Hp) (A : List Addr), N'.K = N.K ∧ Rl N' F A H σ δ μ ∧ EndE N' (fun cls d _ H => E cls d H) σ δ F A μ' Q r0) hg hm hkp lk hcg hb ch.sc ch.n0 ch.v0 (ch.gives X ch.eat gA cdv _) TB hcode (g.room.mono hk) L hdef hbind
    (fun E A outer s H f c' hr2 => ⟨fun pins s' σ H' Q I ⟨N', F, A', hK', R, kk⟩ => (body E A outer s H f c' N' hK' ⟨takes_of rfl rfl rfl rfl, rfl, hK'.trans g.hK, hr2, passes_of rfl, g.nd⟩).run pins s' σ H' Q I ⟨F, A', R, kk⟩⟩)
    (fun σ E E' H Q Q' h1 h2 ⟨N', F, A, e, R, kk⟩ => ⟨N', F, A, e, R, EndE.imp kk (fun c d _ h => h1 c d h) h2⟩) hdb hd hcd) fun σ H Q ⟨F, A, R, kk⟩ => ?_
  obtain ⟨aP, hA, e1, ps, tabAt, tri, known⟩ := R.rc.at' hT
  subst e1
  refine ⟨ps, tabAt, tri, fun p v h => ?_, fun c' H1 l1 hco t nt => ?_⟩
  · obtain ⟨b, e, hb⟩ := known p v h
    exact ⟨b, e, R.rc.sub _ _ hb⟩
  obtain ⟨F1, sm, r1, _⟩ := rc_lam R.rc hA hT tabAt tri known l1
  have r2 := r1.junk nt (.tup [.non, .non])
  refine ⟨N, F1, A, rfl, R.to sm (List.prefix_refl _) r2, ?_⟩
  cases hr with
  | v d =>
    intro v F' A' H' e p R' rv q nq
    have s2 := same_updN (o := .tup [.non, v]) (R'.rc.fresh nq).2.1
    exact kk (.ref q) _ A' _ ((sm.trans e).trans s2) p (R'.to s2 (List.prefix_refl _) (R'.rc.frozen nq _)) (.tup (.inl (.inl upd_same)) (.cons .non (.cons (Rep.mono s2 rv) .nil)))
  | @x C d hx =>
    intro dx v F' A' H' e p R' h1 h2
    refine ⟨hx, fun a na q nq => ?_⟩
    have r3 := R'.rc.frozen na (KpO (.ref C) (some dx) a)
    have s3 := same_updN (o := KpO (.ref C) (some dx) a) (R'.rc.fresh na).2.1
    have r4 := r3.frozen nq (.tup [.ref a, .non])
    have s4 := same_updN (o := .tup [.ref a, .non]) (r3.fresh nq).2.1
    exact kk (.ref q) _ A' _ (((sm.trans e).trans s3).trans s4) p (R'.to (s3.trans s4) (List.prefix_refl _) r4) (.tup (.inl (.inl upd_same)) (.cons (.exc (s4 _ _ upd_same) (s4 _ _ (s3 _ _ h1)) (Rep.mono (s3.trans s4) h2)) (.cons .non .nil)))
end
end Dl

set_option Elab.async false
set_option linter.all false
set_option maxRecDepth 100000
set_option maxHeartbeats 4000000
set_option autoImplicit false
namespace Dl
open PySem PySem.Spec PyProof.Rows L2
/-! ## kept exceptions: their class, their value -/
structure XC (K : PySem.W.Frag) (C : Addr) : Prop where
  hga : PySem.W.findIn K (.ref C) "__getattribute__" = some (some (.builtin "BaseException.__getattribute__"))
  hgt : PySem.W.findIn K (.ref C) "__getattr__" = some none
  hsub : PySem.W.subIn K (.ref C) (.type "BaseException") = some true
  hd : PySem.W.hasDictIn K C = true
  ha : PySem.W.findIn K (.ref C) "__class__" = some (some (.builtin "object.__class__"))
  hn : PySem.W.specialIn K (.builtin "object.__class__") "__get__" = some (some (.builtin "getset_descriptor.__get__"))
  htk : PySem.W.takesIn K (.builtin "object.__class__") = some true
  hm : PySem.W.mroIn K C (.type "object") = some true
  nv : PySem.W.findIn K (.ref C) "value" = some none
theorem XC.cl {K : PySem.W.Frag} {C : Addr} (c : XC K C) : (PySem.W.clsIn K C).isSome = true := by
  have h := c.hd
  unfold PySem.W.hasDictIn at h
  cases e : PySem.W.clsIn K C with
  | none => rw [e] at h; cases h
  | some x => rfl
/-! ## == at depth -/
mutual
inductive PyD : D → PyData → Prop
  | non : PyD .non .none
  | bl (b) : PyD (.bl b) (.bool b)
  | int (i) : PyD (.int i) (.int i)
  | str (z) : PyD (.str z) (.str z)
  | tup {ds ps} : PyDs ds ps → PyD (.tup ds) (.tuple ps)
  | lst {ds ps} : PyDs ds ps → PyD (.lst ds) (.list ps)
inductive PyDs : List D → List PyData → Prop
  | nil : PyDs [] []
  | cons {d q ds qs} : PyD d q → PyDs ds qs → PyDs (d :: ds) (q :: qs)
end
mutual
theorem PyD.dp {K : PySem.W.Frag} {F H : Hp} (sm : Same F H) : ∀ {d : D} {q : PyData} {v : V}, PyD d q → Rep K F v d → Dp K H v q
  | _, _, _, .non, h => by cases h; exact .non
  | _, _, _, .bl b, h => by cases h; exact .bl b
  | _, _, _, .int i, h => by cases h; exact .int i
  | _, _, _, .str z, h => by cases h; exact .str z
  | _, _, _, .tup hs, h => by
    obtain ⟨a, ws, rfl, h1, h2⟩ := rep_tup h
    exact .tup (same_sqT sm h1) (PyDs.dp sm hs h2)
  | _, _, _, .lst hs, h => by
    obtain ⟨a, ws, rfl, h1, h2⟩ := rep_lst h
    exact .lst (SqL.of (sm _ _ h1)) (PyDs.dp sm hs h2)
theorem PyDs.dp {K : PySem.W.Frag} {F H : Hp} (sm : Same F H) : ∀ {ds : List D} {qs : List PyData} {vs : List V}, PyDs ds qs → Reps K F vs ds → DpAll K H vs qs
  | _, _, _, .nil, h => by cases h; exact .nil
  | _, _, _, .cons h1 h2, h => by
    cases h with
    | cons r1 r2 => exact .cons (PyD.dp sm h1 r1) (PyDs.dp sm h2 r2)
end
section
variable {X : Cx} {N : En} {W : WX} {n : Nat} {δ δ' δ1 δ2 : List (Option S)} {μ μ' μ1 μ2 μ3 : List M} {e a b c o : Expr} {es : List Expr} {ss : List S} {pos p apos : Pos} {d : D} {s s1 s2 : S} {r : Rx} {R : Rel} {k : Nat} {x m f : Str} {dd : List D} {C : Addr}
/-- where it stands -/
theorem exc_at {pins : List (Addr × Obj)} {σ : L2.St} {H F : Hp} {sh : Shared} {v : V} (I : Inv X pins σ H sh) (sm : Same F H) (h : Rep X.K F v (.exc C d)) : ∃ (ad dx : Addr) (w : V) (oe : Obj) (od : Obj) (u : Value), v = .ref ad ∧ Rep X.K F w d ∧ PySem.W.InstAt sh.heap ad oe C (some od) ∧ PySem.W.lookIn "value" od = some (some u) ∧ RelV w u := by
  obtain ⟨ad, dx, w, rfl, h1, h2, h3⟩ := rep_exc h
  obtain ⟨⟨oe, vs, q1, q2, q3⟩, _⟩ := I.hok ad _ (sm _ _ h1)
  have hx : ObjOk X.prog X.w H sh.heap dx (.xd [("value", w)]) := I.hok dx _ (sm _ _ h2)
  obtain ⟨mA, ns, hr⟩ := hx
  obtain ⟨od, ho, hl⟩ := lookIn_ns ns
  have l : List.lookup ("value" : Str) [(("value" : Str), w)] = some w := by simp [List.lookup]
  obtain ⟨u, hu, ru⟩ := RelO.some_of (v := w) (o := mA "value") (by rw [← l]; exact hr "value")
  exact ⟨ad, dx, w, oe, od, u, rfl, h3, ⟨q1, q2.1, by unfold PySem.W.notCls; rw [q3] <;> rfl, by rw [q2.2]; exact ho⟩, by rw [hl, hu], ru⟩
theorem c_isiX {Dc : Addr} {q : Bool} (g : Go X N W n) (xc : XC X.K C) (h : PySem.W.kitOne X.K (.ref C) (.ref Dc) = some q) : CallOk X N W (.builtin "isinstance") μ [.p (.exc C d), .p (.adr Dc)] (.v (.p (.bl q))) μ := by
  refine ⟨fun xs H Q => ∃ F v, Same F H ∧ Rep X.K F v (.exc C d) ∧ xs = [v, .ref Dc] ∧ Q (.bl q) H, fun pins s σ H xs us Q I r ⟨F, v, sm, rp, e, qq⟩ => ?_, fun σ δ F A H vs Q R rv kk => ?_⟩
  · subst e
    cases r with
    | cons r1 r2 =>
      cases r2 with
      | cons r2 r3 =>
        cases r3
        obtain ⟨ad, dx, w, oe, od, u, rfl, _, J, _, _⟩ := exc_at I sm rp
        cases r1
        cases r2
        exact PySem.W.kia_one (PySem.W.kitx_exc xc.cl xc.hga xc.hgt xc.hsub xc.ha xc.hn xc.htk xc.hm) I.kIn J h (by intro z; cases z) fun tk => ⟨.bl q, H, I.kept (t' := tk) fun _ _ z => z, rfl, qq⟩
  · obtain ⟨v, w, rfl, h1, h2⟩ := two_of rv
    cases rs_adr h2
    exact ⟨F, v, R.rc.sub, by rw [← g.hK]; exact h1, rfl, kk.here R (.bl _)⟩
theorem de_excVal (g : Go X N W n) (xc : XC X.K C) (ho : DE X N W δ μ e (.v (.p (.exc C d))) μ1) (hb : attributeBase e "value" X.env (eval e X.env) = eval e X.env := by rfl) : DE X N W δ μ (.Attribute e "value" pos) (.v (.p d)) μ1 := by
  refine ⟨fun pins s σ H Q I ⟨F, A, R0, q⟩ => attr_of hb (thn (ho.run pins s σ H (fun v H' => ∃ F' A', Same F F' ∧ A <+: A' ∧ Rl N F' A' H' σ δ μ1 ∧ RepS N.K F' A' v (.p (.exc C d))) I ⟨F, A, R0, fun v F' A' H' h1 h2 h3 h4 => ⟨F', A', h1, h2, h3, h4⟩⟩) fun u0 s1 ⟨v, H1, I1, r1, F1, A1, e1, p1, R1, rp⟩ => ?_)⟩
  obtain ⟨ad, dx, w, oe, od, u, rfl, h3, J, hl, ru⟩ := exc_at I1 R1.rc.sub (by rw [← g.hK]; exact rp)
  obtain rfl : u0 = Value.ref ad := r1
  exact HandSPX.exc_get I1.kIn J xc.hga xc.hgt xc.hsub (PySem.W.findObj_own xc.hd xc.nv rfl hl) (handed_of ru) ⟨w, H1, I1.tok _, ru, q w F1 A1 H1 e1 p1 R1 (by rw [g.hK]; exact h3)⟩
/-! ## is None -/
def isNon : D → Bool
  | .non => true
  | _ => false
theorem rep_isNon {K : PySem.W.Frag} {F : Hp} {v : V} (h : Rep K F v d) : decide (v = .non) = isNon d := by
  cases h <;> first | rfl | simp [isNon]
theorem o_isN : OpOk X N W (compareOp .Is) μ (.p d) (.p .non) (.v (.p (.bl (isNon d)))) μ :=
  ⟨_, op_isN, fun σ δ F A H x y Q R rx ry k => ⟨rs_non ry, by rw [rep_isNon (show Rep N.K F x d from rx)]; exact k.here R (.bl _)⟩⟩
theorem o_notN : OpOk X N W (compareOp .IsNot) μ (.p d) (.p .non) (.v (.p (.bl (!isNon d)))) μ :=
  ⟨_, op_notN, fun σ δ F A H x y Q R rx ry k => ⟨rs_non ry, by rw [rep_isNon (show Rep N.K F x d from rx)]; exact k.here R (.bl _)⟩⟩
/-! ## tuples and lists -/
theorem o_catT (g : Go X N W n) {ds es : List D} (hl : ds.length + es.length ≤ sizeLine) : OpOk X N W (binaryOp .Add) μ (.p (.tup ds)) (.p (.tup es)) (.v (.p (.tup (ds ++ es)))) μ :=
  ⟨_, op_catA, fun σ δ F A H x y Q R rx ry k => by
    obtain ⟨a, ws, rfl, h1, h2⟩ := rep_tup (show Rep N.K F x (.tup ds) from rx)
    obtain ⟨b, us, rfl, h3, h4⟩ := rep_tup (show Rep N.K F y (.tup es) from ry)
    refine ⟨a, b, ws, us, rfl, rfl, by rw [← g.hK]; exact same_sqT R.rc.sub h1, by rw [← g.hK]; exact same_sqT R.rc.sub h3, by rw [h2.length, h4.length]; exact hl, fun z => ?_, fun _ z => ?_, fun _ _ p np => ?_⟩
    · subst z
      cases h2
      exact k.here R (.tup h3 h4)
    · subst z
      cases h4
      exact k.here R (.tup h1 (by rw [List.append_nil]; exact h2))
    · have sm := same_updN (o := .tup (ws ++ us)) (R.rc.fresh np).2.1
      exact k (.ref p) _ A _ sm (List.prefix_refl _) (R.to sm (List.prefix_refl _) (R.rc.frozen np _)) (.tup (.inl (.inl upd_same)) ((h2.append h4).mono sm))⟩
theorem reps_flat {K : PySem.W.Frag} {F : Hp} {vs : List V} {ds : List D} (h : Reps K F vs ds) : ∀ j : Nat, Reps K F (List.replicate j vs).flatten (List.replicate j ds).flatten
  | 0 => .nil
  | j + 1 => by
    rw [List.replicate_succ, List.replicate_succ, List.flatten_cons, List.flatten_cons]
    exact h.append (reps_flat h j)
theorem o_repD {ds : List D} {i : Int} (hi : -(2 ^ 63) ≤ i ∧ i < 2 ^ 63) (hl : ds.length * i.toNat ≤ sizeLine) : OpOk X N W (binaryOp .Mult) μ (.p (.lst ds)) (.p (.int i)) (.v (.p (.lst (List.replicate i.toNat ds).flatten))) μ :=
  ⟨_, op_rep, fun σ δ F A H x y Q R rx ry k => by
    obtain ⟨a, ws, rfl, h1, h2⟩ := rep_lst (show Rep N.K F x (.lst ds) from rx)
    refine ⟨a, i, ws, rfl, rs_int ry, R.rc.sub _ _ h1, hi.1, hi.2, by rw [h2.length]; exact hl, fun p np => ?_⟩
    have sm := same_updN (o := .lst (List.replicate i.toNat ws).flatten) (R.rc.fresh np).2.1
    exact k (.ref p) _ A _ sm (List.prefix_refl _) (R.to sm (List.prefix_refl _) (R.rc.frozen np _)) (.lst upd_same ((reps_flat h2 _).mono sm))⟩
theorem c_tupL {ds : List D} : CallOk X N W (.type "tuple") μ [.p (.lst ds)] (.v (.p (.tup ds))) μ :=
  ⟨_, call_tuple_of, fun σ δ F A H vs Q R rv k => by
    obtain ⟨v, rfl, h⟩ := one_of rv
    obtain ⟨a, ws, rfl, h1, h2⟩ := rep_lst (show Rep N.K F v (.lst ds) from h)
    refine ⟨a, ws, rfl, .inl ⟨SqL.of (R.rc.sub _ _ h1), fun p np => ?_⟩⟩
    have sm := same_updN (o := .tup ws) (R.rc.fresh np).2.1
    exact k (.ref p) _ A _ sm (List.prefix_refl _) (R.to sm (List.prefix_refl _) (R.rc.frozen np _)) (.tup (.inl (.inl upd_same)) (h2.mono sm))⟩
theorem o_eqD (g : Go X N W n) {d1 d2 : D} {p1 p2 : PyData} {q : Bool} (h1 : PyD d1 p1) (h2 : PyD d2 p2) (s1 : SeqAt.shaped p1 = true) (s2 : SeqAt.shaped p2 = true) (hq : PyData.eqv p1 p2 = q) : OpOk X N W (compareOp .Eq) μ (.p d1) (.p d2) (.v (.p (.bl q))) μ :=
  ⟨_, op_eqD (by have := g.room.un; omega), fun σ δ F A H x y Q R rx ry k => ⟨p1, p2, by rw [← g.hK]; exact h1.dp R.rc.sub rx, by rw [← g.hK]; exact h2.dp R.rc.sub ry, s1, s2, by rw [hq]; exact k.here R (.bl _)⟩⟩
end
end Dl


set_option Elab.async false
set_option linter.all false
set_option maxRecDepth 100000
set_option maxHeartbeats 4000000
set_option autoImplicit false
namespace Dl
open PySem PySem.Spec PyProof.Rows L2
section
variable {X : Cx} {N : En} {W : WX} {n : Nat} {δ δ' δ1 δ2 : List (Option S)} {μ μ' μ1 μ2 μ3 : List M} {e a b c o : Expr} {es : List Expr} {ss : List S} {pos p apos : Pos} {d d' : D} {s s1 s2 : S} {r r' : Rx} {R : Rel} {k k' : Bool} {x m f : Str} {dd : List D} {C : Addr}
theorem dt_of (h : DT X N W δ μ e k μ1) (q : k = k') : DT X N W δ μ e k' μ1 := q ▸ h
theorem de_of (h : DE X N W δ μ e (.v (.p d)) μ1) (q : d = d') : DE X N W δ μ e (.v (.p d')) μ1 := q ▸ h
theorem dss_ifT {A B rest : List Stmt} {o oa : Os} (h : DT X N W δ μ c true μ1) (ha : DSs X N W δ μ1 A oa) (ca : Cont X N W rest oa o) : DSs X N W δ μ (.If c A B pos :: rest) o :=
  dss_cons (ds_if h (fun _ => ha) nofun) ca
theorem dss_ifF {A B rest : List Stmt} {o oa : Os} (h : DT X N W δ μ c false μ1) (ha : DSs X N W δ μ1 B oa) (ca : Cont X N W rest oa o) : DSs X N W δ μ (.If c A B pos :: rest) o :=
  dss_cons (ds_if h nofun (fun _ => ha)) ca
theorem dss_skip {A rest : List Stmt} {o : Os} (h : DT X N W δ μ c false μ1) (ca : DSs X N W δ μ1 rest o) : DSs X N W δ μ (.If c A [] pos :: rest) o :=
  dss_ifF h dss_nil ca
theorem dss_ret (h : DE X N W δ μ e (.v s) μ1) {rest : List Stmt} : DSs X N W δ μ (.Return (some e) pos :: rest) (.rt s μ1) := dss_cons (ds_ret h) cr
theorem di_of {tg iter : Expr} {ds ds' : List D} (h : DI X N W δ μ tg iter ds μ1) (q : ds = ds') : DI X N W δ μ tg iter ds' μ1 := q ▸ h
theorem of_maps {α : Type} {nn : Nat} {scope : Scope} {elt : Expr} {f : As} {gd fy : α → D} : ∀ {l : List α}, (∀ a ∈ l, ∃ δt, f (gd a) δ = some δt ∧ DEB X N.K nn scope elt δt μ (fy a) μ) → CmpL (El0 X N.K nn scope elt) f δ (l.map gd) μ (l.map fy) μ
  | [], _ => .nil
  | a :: l, h => by
    obtain ⟨δt, h1, h2⟩ := h a List.mem_cons_self
    exact .keep h1 ⟨_, rfl, h2⟩ (of_maps fun d hd => h d (List.mem_cons_of_mem _ hd))
theorem c_allm {α : Type} {l : List α} {q : α → Bool} (g : Go X N W n) : CallOk X N W (.builtin "all") μ [.p (.lst (l.map fun a => .bl (q a)))] (.v (.p (.bl (l.all q)))) μ := by
  have h := c_all (μ := μ) g (ns := l.map q)
  rw [List.map_map, List.all_map] at h
  exact h
theorem c_summ {α : Type} {l : List α} {q : α → Int} (g : Go X N W n) : CallOk X N W (.builtin "sum") μ [.p (.lst (l.map fun a => .int (q a)))] (.v (.p (.int (l.map q).sum))) μ := by
  have h := c_sum (μ := μ) g (ns := l.map q)
  rw [List.map_map] at h
  exact h
theorem join_one {α : Type} {q : α → Nat} : ∀ l : List α, Str.join (Str.ofString "") (l.map fun a => (⟨#[q a]⟩ : Str)) = ⟨(l.map q).toArray⟩
  | [] => rfl
  | [_] => rfl
  | a :: b :: r => by
    show (⟨#[q a]⟩ : Str) ++ Str.ofString "" ++ Str.join (Str.ofString "") (List.map (fun a => (⟨#[q a]⟩ : Str)) (b :: r)) = _
    rw [join_one (b :: r)]
    show Str.append (Str.append _ _) _ = _
    have e0 : (Str.ofString "").cps = #[] := rfl
    simp [Str.append, e0]
theorem m_joinm {α : Type} {l : List α} {q : α → Nat} (hl : l.length ≤ 100) : MtOk X N W "str" "str.join" μ μ1 (.p (.str (Str.ofString ""))) [.p (.lst (l.map fun a => .str ⟨#[q a]⟩))] (.v (.p (.str ⟨(l.map q).toArray⟩))) μ1 := by
  have h := m_join (X := X) (N := N) (W := W) (μ := μ) (μ1 := μ1) (z := Str.ofString "") (ys := l.map fun a => (⟨#[q a]⟩ : Str)) (by
    have e0 : (Str.ofString "").length = 0 := rfl
    rw [e0, Nat.mul_zero, Nat.add_zero, List.map_map]
    have : ∀ l : List α, (l.map ((fun x : Str => x.length) ∘ fun a => (⟨#[q a]⟩ : Str))).sum = l.length := by
      intro l
      induction l with
      | nil => rfl
      | cons a l ih => rw [List.map_cons, List.sum_cons, ih, List.length_cons]; show 1 + _ = _; omega
    rw [this]; omega)
  rw [List.map_map] at h
  have e : Txt.join (Str.ofString "") (l.map fun a => (⟨#[q a]⟩ : Str)) = ⟨(l.map q).toArray⟩ := by
    rw [TL.join_eq]
    exact join_one l
  rw [e] at h
  exact h
end
/-! ## words, in plain terms -/
def st (L : List Nat) : Str := ⟨L.toArray⟩
def IXYZ : List Nat := [73, 88, 89, 90]
def third (a b : Nat) : Nat := if a = b then 73 else if a = 73 then b else if b = 73 then a else if a + b = 177 then 90 else if a + b = 178 then 89 else 88
def qt (a b : Nat) : Int := if (a = 88 ∧ b = 89) ∨ (a = 89 ∧ b = 90) ∨ (a = 90 ∧ b = 88) then 1 else if (a = 89 ∧ b = 88) ∨ (a = 90 ∧ b = 89) ∨ (a = 88 ∧ b = 90) then -1 else 0
def mk (a b : List Nat) : List Nat := List.zipWith third a b
def qs (a b : List Nat) : Int := (List.zipWith qt a b).sum
structure okL (L : List Nat) : Prop where
  one : 1 ≤ L.length
  four : L.length ≤ 4
  all : ∀ c ∈ L, c ∈ IXYZ
def sgn (L : List Nat) (s : Int) : Str := st (if s < 0 then 45 :: L else L)
def wd (C : Addr) (L : List Nat) (s : Int) : D := .ins C ["letters", "sign"] [.str (st L), .int s]
def bes (s t q : Int) : Int := if q % 4 ≠ 0 then -(s * t) else s * t
theorem st_len (L : List Nat) : (st L).length = L.length := by simp [st, Str.length]
theorem chars_st (L : List Nat) : chars (st L) = L.map fun c => D.str ⟨#[c]⟩ := by simp [chars, st]
theorem st_inj {L M : List Nat} : st L = st M ↔ L = M := by
  constructor
  · intro h
    have := congrArg (fun z : Str => z.cps.toList) h
    simpa [st] using this
  · rintro rfl; rfl
theorem st_app (L M : List Nat) : st L ++ st M = st (L ++ M) := by
  show Str.append _ _ = _
  simp [Str.append, st]
theorem size4 {n : Nat} (h : n ≤ 100) : n ≤ sizeLine := by rw [sizeLine_eq]; omega
theorem size4' {n : Nat} (h : n ≤ 100) : n < sizeLine := by rw [sizeLine_eq]; omega
theorem th_ok {a b : Nat} (ha : a ∈ IXYZ) (hb : b ∈ IXYZ) : third a b ∈ IXYZ := by
  simp only [IXYZ, List.mem_cons, List.not_mem_nil, or_false] at ha hb ⊢
  rcases ha with rfl | rfl | rfl | rfl <;> rcases hb with rfl | rfl | rfl | rfl <;> decide
theorem mk_len {a b : List Nat} (h : a.length = b.length) : (mk a b).length = a.length := by simp [mk, h]
theorem mk_all : ∀ {a b : List Nat}, (∀ c ∈ a, c ∈ IXYZ) → (∀ c ∈ b, c ∈ IXYZ) → ∀ c ∈ mk a b, c ∈ IXYZ
  | [], _, _, _, c, h => by simp [mk] at h
  | _ :: _, [], _, _, c, h => by simp [mk] at h
  | x :: xs, y :: ys, h1, h2, c, h => by
    simp only [mk, List.zipWith_cons_cons, List.mem_cons] at h
    rcases h with rfl | h
    · exact th_ok (h1 x (by simp)) (h2 y (by simp))
    · exact mk_all (fun c hc => h1 c (by simp [hc])) (fun c hc => h2 c (by simp [hc])) c h
theorem mk_ok {a b : List Nat} (ha : okL a) (hb : okL b) (h : a.length = b.length) : okL (mk a b) :=
  ⟨by rw [mk_len h]; exact ha.one, by rw [mk_len h]; exact ha.four, mk_all ha.all hb.all⟩
theorem bes_pm {s t q : Int} (hs : s = 1 ∨ s = -1) (ht : t = 1 ∨ t = -1) : bes s t q = 1 ∨ bes s t q = -1 := by
  unfold bes
  rcases hs with rfl | rfl <;> rcases ht with rfl | rfl <;> split <;> simp
end Dl

set_option Elab.async false
set_option linter.all false
set_option maxRecDepth 100000
set_option maxHeartbeats 4000000
set_option autoImplicit false
namespace Dl
open PySem PySem.Spec PyProof.Rows L2
/-! ## a def's promise where no guard stands around the call: for defs that write out containers -/
structure FnG (P : Program) (w : World) (K : PySem.W.Frag) (mg : Str → Option Value) (base : Heap) (CX : CXT) (k : Nat) (f : Addr) (fd : FuncData) (ps : List Str) (sp : Sp) : Prop where
  len : ∀ vs H Q E, sp vs H Q E → vs.length = ps.length
  go : ∀ (A : Around) (outer : List Env) (s : Shared) (H : Hp) (args : Args) (us : List Value) (vs : List V) (Q : VK) (E : XK), A.guards = some [] → Room k A → Env0 P w K mg base A outer s H → BindsTo s fd args (ps.zip us) → Vals vs us → sp vs H Q E →
    codeAny (model P w) A (.call (.ref f) args) (CR CX outer P w H s Q E) s
section
variable {P : Program} {w : World} {K : PySem.W.Frag} {mg : Str → Option Value} {base : Heap} {CX : CXT} {k j : Nat} {f : Addr} {fd : FuncData} {ps : List Str} {sp : Sp}
theorem FnG.of (F : FnOk P w K mg base CX k f fd ps sp) : FnG P w K mg base CX k f fd ps sp := ⟨F.len, fun A outer s H args us vs Q E _ => F.run A outer s H args us vs Q E⟩
theorem FnG.up (F : FnG P w K mg base CX j f fd ps sp) (h : j ≤ k) : FnG P w K mg base CX k f fd ps sp := ⟨F.len, fun A outer s H args us vs Q E hg hr => F.go A outer s H args us vs Q E hg (hr.mono h)⟩
end
/-- a def of the module by its name, called where no guard stands -/
structure Cg (P : Program) (w : World) (K : PySem.W.Frag) (mg : Str → Option Value) (base : Heap) (k : Nat) (x : Str) (dd : List D) (R : Rel) : Prop where
  ex : ∃ (f : Addr) (fd : FuncData) (ps : List Str) (ds : List Value) (dvs : List V), FnG P w K mg base (L2.CX P w) k f fd ps (spD K R) ∧ mg x = some (.ref f) ∧ PySem.W.keepIn K (.ref f) = true ∧ Binds K fd ps ds ∧ Vals dvs ds ∧ ∀ F, Reps K F dvs dd
theorem Cg.of {P : Program} {w : World} {K : PySem.W.Frag} {mg : Str → Option Value} {base : Heap} {k : Nat} {x : Str} {dd : List D} {R : Rel} (c : Cf P w K mg base k x dd R) : Cg P w K mg base k x dd R := by
  obtain ⟨f, fd, ps, ds, dvs, Fo, r⟩ := c.ex
  exact ⟨f, fd, ps, ds, dvs, .of Fo, r⟩
section
variable {X : Cx} {N : En} {W : WX} {n k : Nat} {δ : List (Option S)} {μ μ1 μ2 μ' : List M} {e : Expr} {es : List Expr} {ss : List S} {dd : List D} {r : Rx} {R : Rel} {x : Str} {p pos : Pos}
theorem call_fnG {pins : List (Addr × Obj)} {σ : L2.St} {H : Hp} {sh : Shared} {F : Hp} {A : List Addr} {Q : VK} {us : List Value} {vs dvs : List V} {ds : List Value} {f : Addr} {fd : FuncData} {ps : List Str} (g : Go X N W n) (gd : X.A.guards = some []) (hk : k ≤ n)
    (Fo : FnG X.prog X.w X.K X.mg X.base (L2.CX X.prog X.w) k f fd ps (spD X.K R)) (hb : Binds X.K fd ps ds) (hd : Vals dvs ds) (rd : ∀ F, Reps X.K F dvs dd) (I : Inv X pins σ H sh) (R0 : Rl N F A H σ δ μ) (rv : RepSs N.K F A vs ss) (ru : Vals vs us)
    (hR : R (ss ++ dd.map S.p) μ r μ') (q : EndE N W σ δ F A μ' Q r) : wpAny (model X.prog X.w) X.A (call (.ref f) us) (EP X pins σ Q) X.xe sh := by
  have hK := g.hK
  have hs : spD X.K R (vs ++ dvs) H Q (WE W σ) := by
    rw [← hK] at rd ⊢
    exact spD_in hR R0 (rv.append (of_reps (rd F))) q.wish
  have rr : Vals (vs ++ dvs) (us ++ ds) := ru.append hd
  have hl : (us ++ ds).length = ps.length := by rw [← rr.length]; exact Fo.len _ _ _ _ hs
  refine wpAny_call (codeAny_mono (Fo.go X.A X.stack sh H ⟨us, []⟩ (us ++ ds) (vs ++ dvs) Q (WE W σ) gd (g.room.mono hk) I.env0 (hb sh us I.kIn hl) rr hs) fun z s' hq => ?_)
  match z, hq with
  | .error _, hq => exact passAt g.tk σ pins _ _ _ s' I hq
  | .ok (.ret _), hq => exact I.after hq
theorem de_callG (g : Go X N W n) (gd : X.A.guards = some []) (cf : Cg X.prog X.w X.K X.mg X.base k x dd R) (ha : DA X N W δ μ (e :: es) ss μ1) (hR : R (ss ++ dd.map S.p) μ1 r μ2) (hk : k ≤ n := by decide) (hg : Gl X x := by rfl) (hdb : (x == ("__debug__" : Str)) = false := by decide)
    (he : starEach (e :: es) X.env = (false, eval e X.env) :: starEach es X.env := by rfl) (hpl : (backTo pos (starEach es X.env)).any (·.1) = false := by rfl) : DE X N W δ μ (.Call (.Name x p) (e :: es) [] pos) r μ2 := by
  obtain ⟨f, fd, ps, ds, dvs, Fo, hm, hkp, hb, hd, rd⟩ := cf.ex
  refine ⟨fun pins s σ H Q I ⟨F, A, R0, q⟩ => ?_⟩
  refine wpAny_Call_Name_kw (ld_glob I hg hm ?_ hdb)
  refine PySem.W.callWith_K (h₀ := X.base) I.ok.mod.kin hkp (thn (ha.run pos pins s σ H (fun vs H' => ∃ F' A', Same F F' ∧ A <+: A' ∧ Rl N F' A' H' σ δ μ1 ∧ RepSs N.K F' A' vs ss) I ⟨F, A, R0, fun vs F' A' H' h1 h2 h3 h4 => ⟨F', A', h1, h2, h3, h4⟩⟩) fun us s1 ⟨vs, H1, I1, r1, F1, A1, e1, p1, R1, rv⟩ => ⟨I1.kIn, ?_⟩) he hpl
  exact call_fnG g gd hk Fo hb hd rd I1 R1 rv r1 hR (q.to e1 p1)
theorem de_callG0 (g : Go X N W n) (gd : X.A.guards = some []) (cf : Cg X.prog X.w X.K X.mg X.base k x dd R) (hR : R (dd.map S.p) μ r μ2) (hk : k ≤ n := by decide) (hg : Gl X x := by rfl) (hdb : (x == ("__debug__" : Str)) = false := by decide) : DE X N W δ μ (.Call (.Name x p) [] [] pos) r μ2 := by
  obtain ⟨f, fd, ps, ds, dvs, Fo, hm, hkp, hb, hd, rd⟩ := cf.ex
  refine ⟨fun pins s σ H Q I ⟨F, A, R0, q⟩ => ?_⟩
  refine wpAny_Call_Name_kw (ld_glob I hg hm ?_ hdb)
  exact PySem.W.callWith_K0 I.kIn hkp (call_fnG (us := []) (ss := []) g gd hk Fo hb hd rd I R0 .nil .nil hR q)
end
/-- as fn_D, for a body that may count on it that no guard stands around -/
theorem fn_G {P : Program} {w : World} {K : PySem.W.Frag} {mg : Str → Option Value} {base : Heap} {x qual : Str} {st : Stmt} {f : Addr} {fd : FuncData} {Nn ps : List Str} {k : Nat} {R : Rel} (F : Fun K x qual st f fd) (Sc : FnScope Nn ps (defScope st)) (hlen : ∀ ss μ r μ', R ss μ r μ' → ss.length = ps.length)
    (body : ∀ (cdv : Value) (A : Around) (outer : List Env) (s : Shared) (H : Hp) (E : XK) (N : En) (W : WX) (ss : List S) (μ : List M) (r : Rx) (μ' : List M), Go (cxOf (L2.CX P w) P w K mg base Nn qual (defScope st) f cdv A outer s H E) N W k → (cxOf (L2.CX P w) P w K mg base Nn qual (defScope st) f cdv A outer s H E).A.guards = some [] → N.A0.length = μ.length → R ss μ r μ' →
      ∃ o, DSs (cxOf (L2.CX P w) P w K mg base Nn qual (defScope st) f cdv A outer s H E) N W (starts Nn ss) μ (defBody st) o ∧ Fit μ.length o r μ') :
    FnG P w K mg base (L2.CX P w) (k + 1) f fd ps (spD K R) := by
  have len : ∀ vs H Q E, spD K R vs H Q E → vs.length = ps.length := fun vs H Q E ⟨F0, A0, ss, μ, r, μ', hR, _, rv, _⟩ => by
    rw [rv.length]
    exact hlen _ _ _ _ hR
  obtain ⟨oc, od, kV, doc, pm, an, cdv, ct, osl, rfl, lk, hcd⟩ := F.ex
  refine ⟨len, fun A outer s H args us vs Q E hg hr e0 hb hv hsp => ?_⟩
  refine LamX.run_ofS lk hcd Sc hr e0 hb hv (len _ _ _ _ hsp) fun hr1 => ?_
  obtain ⟨F0, A0, ss, μ, r, μ', hR, rc, rv, hq⟩ := hsp
  have g : Go (cxOf (L2.CX P w) P w K mg base Nn qual (defScope st) f cdv A outer s H E) ⟨K, H, F0, A0⟩ (fun cls d _ H => E cls d H) k :=
    ⟨takes_of rfl rfl rfl rfl, rfl, rfl, hr1, passes_of rfl, Sc.nd⟩
  have h0 : A0.length = μ.length := rc.len
  obtain ⟨o, hd, fit⟩ := body cdv A outer s H E ⟨K, H, F0, A0⟩ _ ss μ r μ' g hg h0 hR
  refine ⟨_, hd, F0, A0, ⟨rc, (start_slots (N := ⟨K, H, F0, A0⟩) Nn rv).1, (start_slots (N := ⟨K, H, F0, A0⟩) Nn rv).2⟩, ?_⟩
  cases fit with
  | rt => exact fun v F' A' H' e p rc' rv' => hq v F' A' H' rc' rv'
  | rtT hn => exact fun v F' A' H' e p rc' rv' => hq v F' _ H' (rc'.trim (by show A0.length ≤ _; omega)) rv'
  | nx => exact fun σ' F' A' H' e p R' => hq .non F' A' H' R'.rc .non
  | nxT hn => exact fun σ' F' A' H' e p R' => hq .non F' _ H' (R'.rc.trim (by show A0.length ≤ _; omega)) .non
  | xx => exact fun σ' dx v F' A' H' e p R' h1 h2 => hq dx v F' A' H' R'.rc h1 h2
  | xxT hn => exact fun σ' dx v F' A' H' e p R' h1 h2 => hq dx v F' _ H' (R'.rc.trim (by show A0.length ≤ _; omega)) h1 h2
end Dl

set_option Elab.async false
set_option linter.all false
set_option maxRecDepth 100000
set_option maxHeartbeats 4000000
set_option autoImplicit false
namespace Dl
open PySem PySem.Spec PyProof.Rows L2
/-! ## the end, where the law's def is told of as a FnG: at the caller no guard stands -/
/-- what is tracked when the law is called: the tables T, and the script at a unless K knows it -/
noncomputable def hp0 (K : PySem.W.Frag) (T : List Addr) (a : Addr) (o : Obj) (xs : List V) : Hp := fun b =>
  if b ∈ T then some (.tbl #[]) else if b = a ∧ K.lookup a = none then some (.frz o (.lst xs)) else none
section
variable {K : PySem.W.Frag} {T : List Addr} {a b : Addr} {o : Obj} {xs : List V}
theorem hp0_T (h : b ∈ T) : hp0 K T a o xs b = some (.tbl #[]) := if_pos h
theorem hp0_a (h : a ∉ T) (n : K.lookup a = none) : hp0 K T a o xs a = some (.frz o (.lst xs)) := (if_neg h).trans (if_pos ⟨rfl, n⟩)
theorem hp0_cases : (b ∈ T ∧ hp0 K T a o xs b = some (.tbl #[])) ∨ (b ∉ T ∧ b = a ∧ K.lookup a = none ∧ hp0 K T a o xs b = some (.frz o (.lst xs))) ∨ (b ∉ T ∧ (b = a → K.lookup a ≠ none) ∧ hp0 K T a o xs b = none) := by
  by_cases h : b ∈ T
  · exact .inl ⟨h, hp0_T h⟩
  · by_cases h2 : b = a ∧ K.lookup a = none
    · exact .inr (.inl ⟨h, h2.1, h2.2, (if_neg h).trans (if_pos h2)⟩)
    · exact .inr (.inr ⟨h, fun e n => h2 ⟨e, n⟩, (if_neg h).trans (if_neg h2)⟩)
end
theorem law_callG {P : Program} {w : World} {K : PySem.W.Frag} {mg mb : Str → Option Value} {CX : CXT} {k : Nat} {fa a : Addr} {cs : List (Addr × Addr)} {fd : FuncData} {x : Str} {sp : Sp} {s₁ : Shared} {vs : List Value} {ns : List Int}
    (KX : K.In s₁.heap) (hns : s₁.heap.Ns mainGlobals mg) (hb : s₁.heap.Ns builtinsNs mb) (hbb : ∀ x : Str, x ≠ "__name__" → mb x = bootBuiltins x) (hlim : s₁.heap.NoLimit) (hg : s₁.gens = #[])
    (hT : ∀ p ∈ cs, s₁.heap.get? p.2 = some { cls := .none, data := .fields #[] }) (nT : ∀ p ∈ cs, K.lookup p.2 = none) (C : ∀ p ∈ cs, PySem.W.CodeHd s₁.heap p.1 p.2)
    (hbm : ∃ (bm : Addr) (ob : Obj), mg "__builtins__" = some (.ref bm) ∧ bm ≠ builtinsNs ∧ s₁.heap.get? bm = some ob ∧ ob.cls = .type "module" ∧ ob.dict = some builtinsNs ∧ ob.data = .plain)
    (ha : s₁.heap.get? a = some { cls := .type "list", data := .seq vs.toArray }) (hi : IntsAre vs ns) (hl : ns.length ≤ sizeLine) (hr : Room k callerA)
    (F : ∀ base : Heap, K.In base → base.Ns mainGlobals mg → (∀ p ∈ cs, LamX.TabB base mg p.1 p.2) → FnG P w K mg base CX k fa fd [x] sp) (hbind : ∀ (s : Shared) (u : Value), BindsTo s fd ⟨[u], []⟩ [(x, u)])
    (hsp : ∀ H : Hp, (∀ p ∈ cs, H p.2 = some (.tbl #[])) → SqL K H a (ns.map V.int) → sp [.ref a] H (fun v _ => v = .bl true) fun _ _ _ => False)
    (hCX : ∀ H e s', CX [] H s₁ (fun _ _ _ => False) e s' → False) :
    codeAny (model P w) callerA (.call (.ref fa) ⟨[.ref a], []⟩) (fun r s' => r = .ok (.ret (.bool true)) ∧ OldK s₁.heap s'.heap ∧ s'.os = s₁.os ∧ AllBare s'.gens) s₁ := by
  have rv := vals_ints hi
  let ob : Obj := { cls := .type "list", data := .seq vs.toArray }
  let T := cs.map (·.2)
  let H := hp0 K T a ob (ns.map V.int)
  have isT : ∀ {b}, b ∈ T → s₁.heap.get? b = some { cls := .none, data := .fields #[] } ∧ K.lookup b = none := fun hb => by
    obtain ⟨p, hp, rfl⟩ := List.mem_map.mp hb
    exact ⟨hT p hp, nT p hp⟩
  have aT : a ∉ T := fun z => nomatch (congrArg Obj.data (Option.some.inj (ha.symm.trans (isT z).1)) : Data.seq vs.toArray = Data.fields #[])
  -- what K knows, and what is neither a row of values nor an empty table, is not tracked
  have outK : ∀ {b o}, K.lookup b = some o → H b = none := fun {b o} e => by
    rcases hp0_cases (K := K) (T := T) (a := a) (b := b) (o := ob) (xs := ns.map V.int) with ⟨h, _⟩ | ⟨_, rfl, h, _⟩ | ⟨_, _, h⟩
    · rw [(isT h).2] at e; cases e
    · rw [h] at e; cases e
    · exact h
  have outD : ∀ {b o}, s₁.heap.get? b = some o → (∀ vs n, o.data ≠ .seq vs n) → o.data ≠ .fields #[] → H b = none := fun {b o} e h1 h2 => by
    rcases hp0_cases (K := K) (T := T) (a := a) (b := b) (o := ob) (xs := ns.map V.int) with ⟨h, _⟩ | ⟨_, rfl, h, _⟩ | ⟨_, _, h⟩
    · rw [(isT h).1] at e; cases e; exact (h2 rfl).elim
    · rw [ha] at e; cases e; exact (h1 _ _ rfl).elim
    · exact h
  have keepNs : ∀ {b : Addr} {m : Str → Option Value}, s₁.heap.Ns b m → (hidT s₁.heap H).Ns b m := fun ⟨o, es, ep, e, d, r⟩ =>
    ⟨o, es, ep, hidT_get e (outD e (fun _ _ z => nomatch d.symm.trans z) fun z => nomatch d.symm.trans z), d, r⟩
  have hKb : K.In (hidT s₁.heap H) := fun b o e => hidT_get (KX b o e) (outK e)
  have hM : L2.Mod K mg (hidT s₁.heap H) := ⟨hKb, keepNs hns, ⟨mb, keepNs hb, hbb⟩, let ⟨mc, h1, h2⟩ := hlim; ⟨mc, keepNs h1, h2⟩⟩
  have TB : ∀ p ∈ cs, LamX.TabB (hidT s₁.heap H) mg p.1 p.2 := fun p hp => by
    refine ⟨?_, ?_, fun z => ?_⟩
    · obtain ⟨o, us, file, tf, flags, tg, inF, text, tt, e1, r1, r2, r3, r⟩ := C p hp
      refine ⟨o, us, file, tf, flags, tg, inF, text, tt, hidT_get e1 (outD e1 (fun _ _ z => nomatch r2.symm.trans z) fun z => ?_), r1, r2, r3, r⟩
      cases r2.symm.trans z
      simp at r3
    · obtain ⟨bm, o, b1, b2, b3, b4, b5, b6⟩ := hbm
      refine ⟨bm, o, b1, b2, ?_, ?_, hidT_get b3 (outD b3 (fun _ _ z => nomatch b6.symm.trans z) fun z => nomatch b6.symm.trans z), b4, b5, b6⟩
      · rintro rfl
        obtain ⟨o2, es, ep, e, d, _⟩ := hns
        cases b3.symm.trans e
        exact nomatch b6.symm.trans d
      · rintro rfl
        cases b3.symm.trans (hT p hp)
        cases b6
    · obtain ⟨o, es, ep, e, d, _⟩ := hns
      rw [z, hT p hp] at e
      cases e
      cases d
  have hok : HOk P w H s₁.heap := fun b u z => by
    rcases hp0_cases (K := K) (T := T) (a := a) (b := b) (o := ob) (xs := ns.map V.int) with ⟨h, q⟩ | ⟨_, rfl, _, q⟩ | ⟨_, _, q⟩
    · cases q.symm.trans z; exact (isT h).1
    · cases q.symm.trans z; exact ⟨ha, by rw [List.length_map]; exact hl, vs, _, rv, ha⟩
    · cases q.symm.trans z
  have hS : SqL K H a (ns.map V.int) := by
    cases hk : K.lookup a with
    | none => exact .inl (.inr ⟨ob, hp0_a aT hk⟩)
    | some o =>
      cases ha.symm.trans (KX a o hk)
      exact .inr ⟨_, vs.toArray, _, hk, rfl, rfl, rfl, by rw [List.size_toArray, hi.length]; exact hl, by simpa using rv⟩
  have hH : ∀ p ∈ cs, H p.2 = some (.tbl #[]) := fun p hp => hp0_T (List.mem_map.mpr ⟨p, hp, rfl⟩)
  have e0 : Env0 P w K mg (hidT s₁.heap H) callerA [] s₁ H := ⟨rfl, hM, fun b o e => of_hidT e, Nat.le_of_eq (hidT_size _ _), trivial, fun b hb => absurd (show b ∈ ([] : List Addr) from hb) (by simp), hok, .of_eq hg⟩
  refine codeAny_mono ((F _ hKb (keepNs hns) TB).go callerA [] s₁ H ⟨[.ref a], []⟩ [.ref a] [.ref a] _ _ rfl hr e0 (hbind s₁ (.ref a)) (.cons rfl .nil) (hsp H hH hS)) fun r s' h => ?_
  match r, h with
  | .error e, h => exact (hCX H e s' h).elim
  | .ok (.ret u), ⟨v, H', os, bare, un, hok', r', q⟩ =>
    cases (show v = .bl true from q)
    obtain rfl : u = Value.bool true := r'
    have grown : ∀ b ∈ T, ∃ more : Array Value, s'.heap.get? b = some { cls := .none, data := .fields more } := fun b hb => by
      obtain ⟨more, z⟩ := un.tbls b #[] (hp0_T hb)
      exact ⟨_, hok' b _ z⟩
    have kept : ∀ b o, b ∉ T → s₁.heap.get? b = some o → s'.heap.get? b = some o := fun b o nb e => by
      rcases hp0_cases (K := K) (T := T) (a := a) (b := b) (o := ob) (xs := ns.map V.int) with ⟨h, _⟩ | ⟨_, _, _, q⟩ | ⟨_, _, q⟩
      · exact (nb h).elim
      · cases e.symm.trans (hok b _ q).1
        exact (hok' b _ (un.frzs b _ _ q)).1
      · exact un.keep b o e q (fun z => nomatch (show b ∈ ([] : List Addr) from z)) fun z => nomatch z
    refine ⟨rfl, ⟨fun b o e => ?_, fun b o e => ?_⟩, os, bare⟩
    · by_cases hb : b ∈ T
      · obtain ⟨more, hm⟩ := grown b hb
        obtain ⟨p, hp, rfl⟩ := List.mem_map.mp hb
        cases e.symm.trans (hT p hp)
        exact .inr (.inl ⟨((C p hp).tab (hT p hp)).isCodeTable, rfl, #[], more, rfl, by rw [Array.empty_append]; exact hm⟩)
      · exact .inl (kept b o hb e)
    · by_cases hb : b ∈ T
      · obtain ⟨more, hm⟩ := grown b hb
        exact ⟨_, hm⟩
      · exact ⟨o, kept b o hb e⟩
end Dl

set_option Elab.async false
set_option linter.all false
set_option maxRecDepth 100000
set_option maxHeartbeats 4000000
set_option autoImplicit false
namespace Dl
open PySem PySem.Spec PyProof.Rows L2
/-- the law's def and what it promises, at the heap behind the top -/
structure EndG (l : PySem.W.OpenLaw) (w : World) (K : PySem.W.Frag) (k : Nat) (x : Str) (mg : Str → Option Value) (fa : Addr) (h : Heap) (n : Nat) where
  fd : FuncData
  cs : List (Addr × Addr)
  R : Rel
  tab : ∀ p ∈ cs, h.get? p.2 = some { cls := .none, data := .fields #[] } ∧ K.lookup p.2 = none ∧ PySem.W.CodeHd h p.1 p.2
  bind : ∀ (s : Shared) (u : Value), BindsTo s fd ⟨[u], []⟩ [(x, u)]
  holds : ∀ (H : Hp) (a : Addr) (ns : List Int), ns.length ≤ n → (∀ z ∈ ns, Builtin.Int.intBits z ≤ 1048576) → (∀ p ∈ cs, H p.2 = some (.tbl #[])) → SqL K H a (ns.map V.int) → spD K R [.ref a] H (fun v _ => v = .bl true) fun _ _ _ => False
  ok : ∀ base : Heap, K.In base → base.Ns mainGlobals mg → (∀ p ∈ cs, LamX.TabB base mg p.1 p.2) → FnG l.prog w K mg base (L2.CX l.prog w) k fa fd [x] (spD K R)
theorem walk_G {l : PySem.W.OpenLaw} {n k : Nat} {q : Program} {loose : List Str} {XP : (Str → Option Value) → Heap → Prop} {YP : World → Heap → Prop} {d : DefRec} {K : Params → PySem.W.Frag} {x : Str}
    (hn : l.most = some n) (hn2 : n ≤ sizeLine) (hdf : d.params.defaults = []) (hr : Room k callerA) (hY : ∀ (w : World) (h : Heap), YP w h → (K w.params).In h)
    (F : ∀ (w : World) (mg : Str → Option Value) (fa : Addr) (h : Heap), (K w.params).In h → h.Ns mainGlobals mg → mg d.name = some (.ref fa) →
      (∀ (y : Str) (e : DefRec) (c P : Addr), (recsOf q).find? (fun e => e.name == y) = some e → PySem.W.tabIn (K w.params) y = some (c, P) → PySem.W.CodeHd h c P ∧ h.get? P = some (PySem.W.tabObj #[])) → Nonempty (EndG l w (K w.params) k x mg fa h n)) :
    PySem.W.WalkO q loose XP YP l.row.toRowW d [] (fun f vs => PySem.call f vs) := by
  refine Att.attach_callB hn hdf fun w s₀ s₁ mg mb fa o pm cd doc a vs ns G Y ho hd hcd hmg hobj hints hlen hbits hg => ?_
  have inK := hY w _ Y
  obtain ⟨Z⟩ := F w mg fa _ inK G.T.g hmg fun y e c P e1 e2 => PySem.W.tab_of G.T inK e1 e2
  exact law_callG inK G.T.g G.T.b G.T.builtins G.T.nolimit hg (fun p hp => (Z.tab p hp).1) (fun p hp => (Z.tab p hp).2.1) (fun p hp => (Z.tab p hp).2.2) G.T.bmain hobj hints (Nat.le_trans hlen hn2) hr Z.ok Z.bind
    (fun H hH hS => Z.holds H a ns hlen hbits hH hS) fun H e s' h => by obtain ⟨_, _, _, _, _, _, _, _, _, _, _, _, z⟩ := h; exact z
end Dl

set_option Elab.async false
set_option linter.all false
set_option maxRecDepth 100000
set_option maxHeartbeats 4000000
set_option autoImplicit false
namespace Dl
open PySem PySem.Spec PyProof.Rows L2
/-! ## set(xs) of a list of ints, with what its order rests on -/
abbrev newSet (w : World) : Obj := { cls := .type "set", dict := none, data := .set #[] 0 (.fresh 0 0 (!w.params.followText "set-order")) }
section
variable {P : Program} {w : World} {A : Around} {E : Value → Shared → Prop} {s : Shared}
set_option maxRecDepth 100000 in
theorem set_of_list {l : Addr} {items : Array Value} (ns : List Int) {Q : Value → Shared → Prop} (calm : A.handled = none) (isl : s.heap.IsList l items) (isi : IntsAre items.toList ns) (few : ns.length + 1 < scanBound)
    (k : ∀ (g : Heap) (tk c : Nat), SetR w g s.heap.objs.size (fun j => decide (j ∈ ns)) c → c ≤ ns.length → (∀ b o, s.heap.get? b = some o → g.get? b = some o) → Q (.ref s.heap.objs.size) { s with heap := g, toks := tk }) :
    wpAny (model P w) A (call (.type "set") [.ref l]) Q E s := by
  have size : items.size = ns.length := by
    have z := IntsAre.length isi
    rw [Array.length_toList] at z
    exact z
  obtain ⟨c0, tl0, mro0⟩ := F.called_set.mro
  have m1 := F.called_set.made
  have m2 := F.called_set.sub
  refine wpAny_call (codeAny_of_tree ?_)
  show wpAny _ _ (callAny (.type "set") _) _ _ _
  refine wpAny_pure ⟨Code.quiet_builtin _ (by decide +kernel), codeAny_builtin F.entry_type_call ?_⟩
  rw [Around.under_plain (weight_type_call_type "set" [.ref l] []) rfl]
  have m3 := F.called_set.notType
  have m4 := F.called_set.canCreate
  have m5 := F.typeCall_set_1 (.ref l)
  repeat any_goals first | wp_step | assumption
  refine codeAny_mono (code_set_led1 (.ref l) (E := E) (Q₁ := fun ob t => ob = .ref s.heap.objs.size ∧ t = { s with heap := s.heap.push (newSet w) }) ⟨rfl, rfl⟩) fun r t hr => ?_
  cases r with
  | error e => exact hr
  | ok fl =>
    cases fl with
    | next => exact hr.elim
    | brk => exact hr.elim
    | cont => exact hr.elim
    | ret ob =>
      obtain ⟨rfl, rfl⟩ := hr
      have atS : (s.heap.push (newSet w)).get? s.heap.objs.size = some (newSet w) := Heap.get?_push_size _ rfl
      have tyS : Shared.TypeIs { s with heap := s.heap.push (newSet w) } (.ref s.heap.objs.size) "set" := ⟨_, atS, rfl⟩
      have i1 := F.called_set.init.lookup
      have i2 := F.called_set.init.bind (.ref s.heap.objs.size)
      repeat any_goals first | wp_step | assumption
      refine codeAny_mono (codeAny_call_builtin (R := wants (fun v t => v = .none ∧ ∃ g tk c, t = { s with heap := g, toks := tk } ∧ SetR w g s.heap.objs.size (fun j => decide (j ∈ ns)) c ∧ c ≤ ns.length ∧ (∀ b o, s.heap.get? b = some o → g.get? b = some o)) E)
        F.called_set.init.plain F.entry_set_init (check_set_init_1 tyS ?_)) fun r2 t2 hr2 => ?_
      · obtain ⟨⟨oc, od, oda, osl⟩, holo, hcl, nl, hdl⟩ := isl
        simp only at hcl hdl
        subst hcl hdl
        have atL : (s.heap.push (newSet w)).get? l = some { cls := .type "list", dict := od, data := .seq items nl, slots := osl } := Heap.get?_push_of_some _ holo
        have lst : (s.heap.push (newSet w)).IsList l items := ⟨_, atL, rfl, nl, rfl⟩
        have n1 := F.sub_list_set
        have n2 := F.sub_list_frozenset
        have n3 : (Value.type "list" == Value.type "dict") = false := by decide
        unfold Builtin.«set.__init__» noKeywords Builtin.Frozenset.updateFrom
        generalize hit : pyIter = IT
        wp_walk
        subst hit
        refine wpAny_pyIter_list lst (wpAny_bind (wpAny_runValue ?_))
        have big : l < s.heap.objs.size := Heap.lt_size holo
        have calm3 : A.in1.in1.in1.handled = none := by simp [calm]
        have offI : l ≠ (s.heap.push (newSet w)).objs.size := by
          rw [Heap.size_push]
          exact Nat.ne_of_lt (Nat.lt_succ_of_lt big)
        have offS : s.heap.objs.size ∉ [(s.heap.push (newSet w)).objs.size, l] := by
          rw [Heap.size_push]
          simp only [List.mem_cons, List.not_mem_nil, or_false, not_or]
          exact ⟨Nat.ne_of_lt (Nat.lt_succ_self _), (Nat.ne_of_lt big).symm⟩
        have val : ∀ (i : Nat) (v : Value), items[i]? = some v → ∃ z t, ns[i]? = some z ∧ v = .int z t := fun i v hv => by
          have lt : i < ns.length := by
            rw [← size]
            exact (Array.getElem?_eq_some_iff.mp hv).1
          obtain ⟨t, e⟩ := PyProof.Rows.IntsAre.int_at isi i v (by rw [Array.getElem?_toList]; exact hv)
          exact ⟨ns[i], t, List.getElem?_eq_getElem lt, by rw [e, List.getD_eq_getElem?_getD, List.getElem?_eq_getElem lt] <;> rfl⟩
        refine set_update_ints ((Walks.list calm3 _ l offI items).toS) s.heap.objs.size offS ns size few val (items.size - 0) 0 _ (by omega) (Nat.zero_le _) ⟨⟨_, Heap.get?_push_size _ rfl, rfl, rfl⟩, lst.push _⟩ ?_ ?_
        · exact ⟨0, Nat.le_refl 0, setR_new_at (Heap.get?_push_of_some _ atS)⟩
        · intro t3 c3 mv le R3
          obtain ⟨g3, gn, dr, tk, os⟩ := t3
          have e1 : gn = s.gens := mv.gens
          have e2 : dr = s.drawn := mv.drawn
          have e3 : os = s.os := mv.os
          subst e1 e2 e3
          rw [size] at le
          show wpAny _ _ _ _ _ _
          refine wpAny_pure ?_
          show wpAny _ _ (ret Value.none) _ _ _
          refine wpAny_pure ⟨rfl, g3, tk, c3, rfl, R3, le, fun b o e => ?_⟩
          have lt : b < s.heap.objs.size := Heap.lt_size e
          refine mv.heap b o ?_ (Heap.get?_push_of_some _ (Heap.get?_push_of_some _ e))
          simp only [List.mem_cons, List.not_mem_nil, or_false, not_or, Heap.size_push]
          exact ⟨Nat.ne_of_lt lt, Nat.ne_of_lt (Nat.lt_succ_of_lt lt)⟩
      · cases r2 with
        | error e => exact hr2
        | ok fl2 =>
          cases fl2 with
          | next => exact hr2.elim
          | brk => exact hr2.elim
          | cont => exact hr2.elim
          | ret v =>
            obtain ⟨rfl, g, tk, c, rfl, R, le, kp⟩ := hr2
            repeat any_goals first | wp_step | assumption
            exact k _ _ _ R le kp
end
section
variable {X : Cx} {N : En} {W : WX} {n : Nat} {δ : List (Option S)} {μ μ1 : List M} {e : Expr} {p1 p2 pos pos2 : Pos}
theorem cr_setI (hc : X.calm = true) : CallR X (.type "set") (fun xs H Q => ∃ (p : Addr) (ns : List Int), xs = [.ref p] ∧ SqL X.K H p (ns.map V.int) ∧ ns.length ≤ 1000 ∧ ∀ (a : Addr) (c : Nat), H a = none → c ≤ ns.length → Q (.ref a) (upd H a (SetO X.w a (fun j => decide (j ∈ ns)) c))) := by
  intro pins s σ H xs us Q I r ⟨p, ns, ex, hs, few, k⟩
  subst ex
  rw [Vals.ref1 r]
  obtain ⟨its, rv, ⟨⟨ocls, odd, oda, osl⟩, m, ho, hcl, hdn, hda⟩, hlen⟩ := I.list hs
  simp only at hcl hda
  have isl : s.heap.IsList p its.toArray := ⟨_, ho, hcl, m, hda⟩
  refine set_of_list ns (I.ok.hd hc) isl (ints_of_vals rv) (by unfold scanBound; omega) fun g tk c R le kp => ?_
  have nn : H s.heap.objs.size = none := I.hok.fresh (Nat.le_refl _)
  exact ⟨.ref s.heap.objs.size, _, I.laid kp (Nat.le_refl _) (setO_new R), rfl, k _ c nn le⟩
theorem asc_unique : ∀ {a b : List Int}, a.Pairwise (· < ·) → b.Pairwise (· < ·) → (∀ k, k ∈ a ↔ k ∈ b) → a = b
  | [], [], _, _, _ => rfl
  | [], y :: b, _, _, h => by have := (h y).mpr (by simp); simp at this
  | x :: a, [], _, _, h => by have := (h x).mp (by simp); simp at this
  | x :: a, y :: b, ha, hb, h => by
    obtain ⟨a1, a2⟩ := List.pairwise_cons.mp ha
    obtain ⟨b1, b2⟩ := List.pairwise_cons.mp hb
    have e : x = y := by
      rcases List.mem_cons.mp ((h x).mp (by simp)) with z | z
      · exact z
      · rcases List.mem_cons.mp ((h y).mpr (by simp)) with q | q
        · exact q.symm
        · have := b1 x z
          have := a1 y q
          omega
    subst e
    congr 1
    refine asc_unique a2 b2 fun k => ⟨fun hk => ?_, fun hk => ?_⟩
    · rcases List.mem_cons.mp ((h k).mp (by simp [hk])) with z | z
      · have := a1 k hk
        omega
      · exact z
    · rcases List.mem_cons.mp ((h k).mpr (by simp [hk])) with z | z
      · have := b1 k hk
        omega
      · exact z
/-- sorted(set(e)), e a list of ints -/
theorem de_sortedSet {ns hs : List Int} (g : Go X N W n) (h : DE X N W δ μ e (.v (.p (.lst (ns.map D.int)))) μ1) (few : ns.length < 64) (asc : hs.Pairwise (· < ·)) (mem : ∀ k, k ∈ hs ↔ k ∈ ns) (hm : X.mg "sorted" = none) (hm2 : X.mg "set" = none) (hg : Gl X "sorted" := by rfl) (hg2 : Gl X "set" := by rfl)
    (h1 : starEach [e] X.env = (false, eval e X.env) :: starEach [] X.env := by rfl) (h2 : starEach [.Call (.Name "set" p2) [e] [] pos2] X.env = (false, eval (.Call (.Name "set" p2) [e] [] pos2) X.env) :: starEach [] X.env := by rfl) :
    DE X N W δ μ (.Call (.Name "sorted" p1) [.Call (.Name "set" p2) [e] [] pos2] [] pos) (.v (.p (.lst (hs.map D.int)))) μ1 :=
  PE.imp (pe_callB (cr_sortedSet g.calm) hg hm (by decide +kernel) (pa_cons (pe_callTy (cr_setI g.calm) hg2 hm2 (by decide +kernel) (pa_cons h pa_nil h1) (by decide) (by decide) h1 (by rfl)) pa_nil h2) (by decide) (by decide) h2 (by rfl)) fun σ H Q ⟨F, A, R0, k⟩ => ⟨F, A, R0, fun v F1 A1 H1 e1 p1 R1 rv => by
    obtain ⟨a, ws, rfl, q1, q2⟩ := rep_lst (show Rep N.K F1 v (.lst (ns.map D.int)) from rv)
    have q3 := reps_ints q2
    subst q3
    refine ⟨a, ns, rfl, SqL.of (R1.rc.sub _ _ q1), by omega, fun b c nb le => ?_⟩
    refine ⟨b, _, c, rfl, upd_same, by omega, fun ns' pl q hm' _ nq => ?_⟩
    have e2 : ns' = hs := asc_unique q asc fun k => ((hm' k).trans (by simp)).trans (mem k).symm
    subst e2
    have r2 := R1.rc.junk nb (SetO X.w b (fun j => decide (j ∈ ns)) c)
    have sm := same_updN (o := .lst (ns'.map V.int)) (r2.fresh nq).2.1
    exact k (.ref pl) _ A1 _ (e1.trans sm) p1 (R1.to sm (List.prefix_refl _) (r2.frozen nq _)) (.lst upd_same of_ints)⟩
end
end Dl

set_option Elab.async false
set_option linter.all false
set_option maxRecDepth 100000
set_option maxHeartbeats 4000000
set_option autoImplicit false
namespace Dl
open PySem PySem.Spec PyProof.Rows L2
/-! ## a text cut: x[:i], x[i:] -/
section
variable {X : Cx} {N : En} {W : WX} {δ : List (Option S)} {μ μ1 μ2 : List M} {e b : Expr} {p2 pos : Pos} {z : Str} {i : Int}
/-- x[:i] -/
theorem de_cutTo (he : DE X N W δ μ e (.v (.p (.str z))) μ1) (hb : DE X N W δ μ1 b (.v (.p (.int i))) μ2) (hz : z.length ≤ sizeLine) : DE X N W δ μ (.Subscript e (.Slice none (some b) none p2) pos) (.v (.p (.str (Txt.slice z none (some i))))) μ2 :=
  PE.imp (pe_slice C8.sl_txt he po_none (po_some hb)) fun σ H Q ⟨F, A, R0, k⟩ => ⟨F, A, R0, fun v F1 A1 H1 e1 a1 R1 rv => by
    cases (show Rep N.K F1 v (.str z) from rv)
    refine ⟨F1, A1, R1, fun v2 F2 A2 H2 e2 a2 R2 rv2 => ?_⟩
    cases (show Rep N.K F2 v2 (.int i) from rv2)
    exact ⟨i, rfl, z, rfl, hz, k _ F2 A2 H2 (e1.trans e2) (a1.trans a2) R2 (.str _)⟩⟩
/-- x[i:] -/
theorem de_cutFrom (he : DE X N W δ μ e (.v (.p (.str z))) μ1) (hb : DE X N W δ μ1 b (.v (.p (.int i))) μ2) (hz : z.length ≤ sizeLine) : DE X N W δ μ (.Subscript e (.Slice (some b) none none p2) pos) (.v (.p (.str (Txt.slice z (some i) none)))) μ2 :=
  PE.imp (pe_slice C8.sl_txt he (po_some hb) po_none) fun σ H Q ⟨F, A, R0, k⟩ => ⟨F, A, R0, fun v F1 A1 H1 e1 a1 R1 rv => by
    cases (show Rep N.K F1 v (.str z) from rv)
    refine ⟨F1, A1, R1, fun v2 F2 A2 H2 e2 a2 R2 rv2 => ?_⟩
    cases (show Rep N.K F2 v2 (.int i) from rv2)
    exact ⟨i, rfl, z, rfl, hz, k _ F2 A2 H2 (e1.trans e2) (a1.trans a2) R2 (.str _)⟩⟩
end
end Dl

set_option Elab.async false
set_option linter.all false
set_option maxRecDepth 100000
set_option maxHeartbeats 4000000
set_option autoImplicit false
namespace Dl
open PySem PySem.Spec PyProof.Rows L2
/-! ## a, b = e1, e2 with plain names: the pair is never made -/
section
variable {X : Cx} {N : En} {W : WX} {n : Nat} {δ : List (Option S)} {μ μ1 : List M} {a b : Expr} {s1 s2 : S} {x y : Str} {px py pt pos : Pos} {kt k2} {pt2 : Pos}
theorem ds_par (i j : Nat) (g : Go X N W n) (ha : DA X N W δ μ [a, b] [s1, s2] μ1) (hi : X.N[i]? = some x := by rfl) (hj : X.N[j]? = some y := by rfl) (hij : i ≠ j := by decide)
    (hx : X.env.scope.names.lookup x = some .local := by rfl) (hy : X.env.scope.names.lookup y = some .local := by rfl)
    (hw : swappedStores [.Tuple [.Name x px, .Name y py] kt pt] (.Tuple [a, b] k2 pt2) X.env = pure (some [x, y]) := by rfl)
    (hs : swapsWithSole [.Tuple [.Name x px, .Name y py] kt pt] (.Tuple [a, b] k2 pt2) pos.line X.env = pure false := by rfl) :
    DS X N W δ μ (.Assign [.Tuple [.Name x px, .Name y py] kt pt] (.Tuple [a, b] k2 pt2) pos) (.nx ((δ.set i (some s1)).set j (some s2)) μ1) :=
  PS.imp (ps_par (i := i) (j := j) g.calm g.nd hi hj hij hx hy ha hw hs) fun K σ H ⟨F, A, R, k⟩ => ⟨F, A, R, fun vs F1 A1 H1 e1 p1 R1 rv => by
    obtain ⟨v, w, rfl, r1, r2⟩ := two_of rv
    exact ⟨v, w, rfl, k _ F1 A1 H1 e1 p1 ((R1.set r1).set r2)⟩⟩
end
end Dl

set_option Elab.async false
set_option linter.all false
set_option maxRecDepth 100000
set_option maxHeartbeats 4000000
set_option autoImplicit false
namespace Dl
open PySem PySem.Spec PyProof.Rows L2
/-! ## next of a zip whose last pair is still held -/
section
variable {prog : Program} {w : World} {A : Around} {E : Value → Shared → Prop} {s : Shared} {z TI TO T i1 i2 : Addr} {f : Bool} {oT : Obj} {d1 d2 : List Addr} {n1 n2 : Nat} {v1 v2 : Nat → Value → Prop} {t1 t2 : Nat → Heap → Prop} {k : Nat}
theorem zip_itemH {Q : Value → Shared → Prop} (D : ZAp z TI TO i1 i2 d1 d2) (C1 : ItC i1 d1 n1 v1 t1) (C2 : ItC i2 d2 n2 v2 t2)
    (hz : IsZipHeld s.heap z TI TO T f) (hT : s.heap.get? T = some oT) (hTI : IsPair s.heap TI (.ref i1) (.ref i2)) (h1 : t1 k s.heap) (h2 : t2 k s.heap) (l1 : k < n1) (l2 : k < n2)
    (hQ : ∀ h' tk x y, v1 k x → v2 k y → IsZipHeld h' z TI TO T true → t1 (k + 1) h' → t2 (k + 1) h' → IsPair h' s.heap.objs.size x y → h'.objs.size = s.heap.objs.size + 1 →
      (∀ c o, c ≠ z → c ≠ i1 → c ≠ i2 → s.heap.get? c = some o → h'.get? c = some o) → Q (.ref s.heap.objs.size) { s with heap := h', toks := tk }) :
    wpAny (model prog w) A (Builtin.«zip.__next__» ⟨[.ref z], []⟩) (fun fin s' => ∃ v, fin = .done (.ret v) ∧ Q v s') E s := by
  have dd1 : ∀ b ∈ d1, b ≠ z ∧ b ≠ TO ∧ b ≠ i1 ∧ b ≠ i2 := fun b h => D.dz b (List.mem_append_left _ h)
  have dd2 : ∀ b ∈ d2, b ≠ z ∧ b ≠ TO ∧ b ≠ i1 ∧ b ≠ i2 := fun b h => D.dz b (List.mem_append_right _ h)
  have K1 : ∀ {i h h' c}, t1 i h → Heap.ExtBut c h h' → c = z ∨ c = i2 → t1 i h' := fun {i h h' c} st hs hc => C1.keep i h h' st fun b o hb e => hs b o (by
    rcases hb with rfl | hb
    · rcases hc with rfl | rfl
      · exact D.i1z
      · exact D.i12
    · rcases hc with rfl | rfl
      · exact (dd1 b hb).1
      · exact (dd1 b hb).2.2.2) e
  have K2 : ∀ {i h h' c}, t2 i h → Heap.ExtBut c h h' → c = z ∨ c = i1 → t2 i h' := fun {i h h' c} st hs hc => C2.keep i h h' st fun b o hb e => hs b o (by
    rcases hb with rfl | hb
    · rcases hc with rfl | rfl
      · exact D.i2z
      · exact D.i12.symm
    · rcases hc with rfl | rfl
      · exact (dd2 b hb).1
      · exact (dd2 b hb).2.2.1) e
  have P1 : ∀ {i h o'}, t1 i h → t1 i (h.push o') := fun {i h o'} st => C1.keep i h _ st fun b o _ e => Heap.get?_push_of_some _ e
  have P2 : ∀ {i h o'}, t2 i h → t2 i (h.push o') := fun {i h o'} st => C2.keep i h _ st fun b o _ e => Heap.get?_push_of_some _ e
  show wpAny _ _ (field (.ref z) 2 >>= _) _ _ _
  refine wpAny_bind (wpAny_field hz rfl (x := .bool false) rfl ?_)
  show wpAny _ _ (field (.ref z) 3 >>= _) _ _ _
  refine wpAny_bind (wpAny_field hz rfl (x := .ref TI) rfl ?_)
  refine wpAny_bind (wpAny_seqItems hTI rfl ?_)
  show wpAny _ _ (Builtin.SmallTypes.ownedTupleIsFree (.ref z) >>= _) _ _ _
  refine wpAny_bind (wpAny_tupleHeld_zip hz hT fun h₁ hz₁ hs₁ => ?_)
  simp only [Bool.false_eq_true, if_false]
  refine wpAny_bind ?_
  rw [← Array.forIn_toList]
  simp only [List.forIn_cons, List.forIn_nil]
  refine wpAny_bind (wpAny_bind (wpAny_holding ?_))
  show wpAny _ _ (Builtin.SmallTypes.nextOf (.ref i1) >>= _) _ _ _
  refine wpAny_bind (C1.item prog w _ _ { s with heap := h₁ } _ k l1 (K1 h1 hs₁.extBut (.inl rfl)) fun x h₂ tk₂ hx h1₂ hs₂ => wpAny_pure ?_)
  refine wpAny_pure ?_
  refine wpAny_bind (wpAny_bind (wpAny_holding ?_))
  show wpAny _ _ (Builtin.SmallTypes.nextOf (.ref i2) >>= _) _ _ _
  refine wpAny_bind (C2.item prog w _ _ { s with heap := h₂, toks := tk₂ } _ k l2 (K2 (K2 h2 hs₁.extBut (.inl rfl)) hs₂.extBut (.inr rfl)) fun y h₃ tk₃ hy h2₃ hs₃ => wpAny_pure ?_)
  refine wpAny_pure (wpAny_pure ?_)
  show wpAny _ _ (newTuple [x, y] >>= _) _ _ _
  refine wpAny_bind (wpAny_newTuple ?_)
  have hsz : h₃.objs.size = s.heap.objs.size := by rw [hs₃.1, hs₂.1, hs₁.1]
  have hz₃ : IsZipHeld h₃ z TI TO T true := hs₃.extBut _ _ D.i2z.symm (hs₂.extBut _ _ D.i1z.symm hz₁)
  have hk : ∀ c o, c ≠ z → c ≠ i1 → c ≠ i2 → s.heap.get? c = some o → h₃.get? c = some o := fun c o c1 c2 c3 e => hs₃.extBut _ _ c3 (hs₂.extBut _ _ c2 (hs₁.extBut _ _ c1 e))
  have h1₃ : t1 (k + 1) h₃ := K1 h1₂ hs₃.extBut (.inr rfl)
  refine wpAny_pure ⟨_, rfl, ?_⟩
  show Q (.ref h₃.objs.size) _
  have hp : IsPair (h₃.push { cls := .type "tuple", data := .seq #[x, y] }) h₃.objs.size x y := Heap.get?_push_size _ rfl
  have hz4 : (h₃.push { cls := .type "tuple", data := .seq #[x, y] }).objs.size = h₃.objs.size + 1 := Heap.size_push ..
  rw [hsz] at hp hz4 ⊢
  exact hQ _ tk₃ x y hx hy (Heap.get?_push_of_some _ hz₃) (P1 h1₃) (P2 h2₃) hp hz4 fun c o c1 c2 c3 e => Heap.get?_push_of_some _ (hk c o c1 c2 c3 e)
theorem zip_endH {Q : Fin → Shared → Prop} (hh : A.handled = none) (D : ZAp z TI TO i1 i2 d1 d2) (C1 : ItC i1 d1 n1 v1 t1) (C2 : ItC i2 d2 n2 v2 t2)
    (hz : IsZipHeld s.heap z TI TO T f) (hT : s.heap.get? T = some oT) (hTI : IsPair s.heap TI (.ref i1) (.ref i2)) (h1 : t1 k s.heap) (h2 : t2 k s.heap) (hend : k = n1 ∨ (k < n1 ∧ k = n2))
    (hE : ∀ h' tk e, (∀ c o, c ≠ z → c ≠ i1 → c ≠ i2 → s.heap.get? c = some o → h'.get? c = some o) → (∃ o, h'.get? e = some o ∧ o.cls = .type "StopIteration") → E (.ref e) { s with heap := h', toks := tk }) :
    wpAny (model prog w) A (Builtin.«zip.__next__» ⟨[.ref z], []⟩) Q E s := by
  have dd1 : ∀ b ∈ d1, b ≠ z ∧ b ≠ TO ∧ b ≠ i1 ∧ b ≠ i2 := fun b h => D.dz b (List.mem_append_left _ h)
  have dd2 : ∀ b ∈ d2, b ≠ z ∧ b ≠ TO ∧ b ≠ i1 ∧ b ≠ i2 := fun b h => D.dz b (List.mem_append_right _ h)
  have K1 : ∀ {i h h' c}, t1 i h → Heap.ExtBut c h h' → c = z ∨ c = i2 → t1 i h' := fun {i h h' c} st hs hc => C1.keep i h h' st fun b o hb e => hs b o (by
    rcases hb with rfl | hb
    · rcases hc with rfl | rfl
      · exact D.i1z
      · exact D.i12
    · rcases hc with rfl | rfl
      · exact (dd1 b hb).1
      · exact (dd1 b hb).2.2.2) e
  have K2 : ∀ {i h h' c}, t2 i h → Heap.ExtBut c h h' → c = z ∨ c = i1 → t2 i h' := fun {i h h' c} st hs hc => C2.keep i h h' st fun b o hb e => hs b o (by
    rcases hb with rfl | hb
    · rcases hc with rfl | rfl
      · exact D.i2z
      · exact D.i12.symm
    · rcases hc with rfl | rfl
      · exact (dd2 b hb).1
      · exact (dd2 b hb).2.2.1) e
  show wpAny _ _ (field (.ref z) 2 >>= _) _ _ _
  refine wpAny_bind (wpAny_field hz rfl (x := .bool false) rfl ?_)
  show wpAny _ _ (field (.ref z) 3 >>= _) _ _ _
  refine wpAny_bind (wpAny_field hz rfl (x := .ref TI) rfl ?_)
  refine wpAny_bind (wpAny_seqItems hTI rfl ?_)
  show wpAny _ _ (Builtin.SmallTypes.ownedTupleIsFree (.ref z) >>= _) _ _ _
  refine wpAny_bind (wpAny_tupleHeld_zip hz hT fun h₁ hz₁ hs₁ => ?_)
  simp only [Bool.false_eq_true, if_false]
  refine wpAny_bind ?_
  rw [← Array.forIn_toList]
  simp only [List.forIn_cons, List.forIn_nil]
  refine wpAny_bind (wpAny_bind (wpAny_holding ?_))
  show wpAny _ _ (Builtin.SmallTypes.nextOf (.ref i1) >>= _) _ _ _
  rcases hend with hk | ⟨l1, hk⟩
  · subst hk
    refine wpAny_bind (C1.stop prog w _ _ { s with heap := h₁ } _ hh (K1 h1 hs₁.extBut (.inl rfl)) fun h₂ e hs₂ he => ?_)
    exact hE h₂ s.toks e (fun c o c1 c2 _ x => hs₂ _ _ c2 (hs₁.extBut _ _ c1 x)) he
  · subst hk
    refine wpAny_bind (C1.item prog w _ _ { s with heap := h₁ } _ _ l1 (K1 h1 hs₁.extBut (.inl rfl)) fun x h₂ tk₂ hx h1₂ hs₂ => wpAny_pure ?_)
    refine wpAny_pure ?_
    refine wpAny_bind (wpAny_bind (wpAny_holding ?_))
    show wpAny _ _ (Builtin.SmallTypes.nextOf (.ref i2) >>= _) _ _ _
    refine wpAny_bind (C2.stop prog w _ _ { s with heap := h₂, toks := tk₂ } _ hh (K2 (K2 h2 hs₁.extBut (.inl rfl)) hs₂.extBut (.inr rfl)) fun h₃ e hs₃ he => ?_)
    exact hE h₃ tk₂ e (fun c o c1 c2 c3 x => hs₃ _ _ c3 (hs₂.extBut _ _ c2 (hs₁.extBut _ _ c1 x))) he
theorem pyNext_zipH {Q : Option Value → Shared → Prop} (D : ZAp z TI TO i1 i2 d1 d2) (C1 : ItC i1 d1 n1 v1 t1) (C2 : ItC i2 d2 n2 v2 t2)
    (hz : IsZipHeld s.heap z TI TO T f) (hT : s.heap.get? T = some oT) (hTI : IsPair s.heap TI (.ref i1) (.ref i2)) (h1 : t1 k s.heap) (h2 : t2 k s.heap) (l1 : k < n1) (l2 : k < n2)
    (hQ : ∀ h' tk x y, v1 k x → v2 k y → IsZipHeld h' z TI TO T true → t1 (k + 1) h' → t2 (k + 1) h' → IsPair h' s.heap.objs.size x y → h'.objs.size = s.heap.objs.size + 1 →
      (∀ c o, c ≠ z → c ≠ i1 → c ≠ i2 → s.heap.get? c = some o → h'.get? c = some o) → Q (some (.ref s.heap.objs.size)) { s with heap := h', toks := tk }) :
    wpAny (model prog w) A (pyNext (.ref z)) Q E s := by
  have hTy : s.TypeIs (.ref z) "zip" := ⟨_, hz, rfl⟩
  unfold pyNext
  exact wpAny_bind (wpAny_attempt (wpAny_callSpecial?_slot (name := Str.ofString "__next__") hTy F.slot_zip_next
    (wpAny_call_entry F.slot_zip_next hTy F.entry_zip_next
      (zip_itemH D C1 C2 hz hT hTI h1 h2 l1 l2 fun h' tk x y hx hy a1 a2 a3 a4 a5 a6 => wpAny_pure (hQ h' tk x y hx hy a1 a2 a3 a4 a5 a6)) (F.args_zip_next_1 _))))
theorem pyNext_zipH_end {Q : Option Value → Shared → Prop} (hh : A.handled = none) (D : ZAp z TI TO i1 i2 d1 d2) (C1 : ItC i1 d1 n1 v1 t1) (C2 : ItC i2 d2 n2 v2 t2)
    (hz : IsZipHeld s.heap z TI TO T f) (hT : s.heap.get? T = some oT) (hTI : IsPair s.heap TI (.ref i1) (.ref i2)) (h1 : t1 k s.heap) (h2 : t2 k s.heap) (hend : k = n1 ∨ (k < n1 ∧ k = n2))
    (hQ : ∀ h' tk, (∀ c o, c ≠ z → c ≠ i1 → c ≠ i2 → s.heap.get? c = some o → h'.get? c = some o) → Q none { s with heap := h', toks := tk }) : wpAny (model prog w) A (pyNext (.ref z)) Q E s := by
  have hTy : s.TypeIs (.ref z) "zip" := ⟨_, hz, rfl⟩
  unfold pyNext
  refine wpAny_bind (wpAny_attempt (wpAny_callSpecial?_slot (name := Str.ofString "__next__") hTy F.slot_zip_next
    (wpAny_call_entry F.slot_zip_next hTy F.entry_zip_next (zip_endH hh D C1 C2 hz hT hTI h1 h2 hend fun h' tk e hk he => ?_) (F.args_zip_next_1 _))))
  obtain ⟨o, ho, hc⟩ := he
  refine wpAny_bind (wpAny_isInstance (T := "StopIteration") (b := true) ⟨o, ho, hc⟩ isSubtype_stop ?_)
  exact wpAny_pure (hQ _ _ hk)
end
/-! ## list(zip(..)): what stands between two turns -/
theorem zip_no_len : typeLookup (.type "zip") "__len__" = pure none := am_miss_of_fast (by decide +kernel)
theorem zip_no_hint : typeLookup (.type "zip") "__length_hint__" = pure none := am_miss_of_fast (by decide +kernel)
structure LzAt (h0 : Heap) (S z TI TO i1 i2 : Addr) (v1 v2 : Nat → Value → Prop) (t1 t2 : Nat → Heap → Prop) (k : Nat) (h : Heap) (as : List Addr) : Prop where
  hzip : (IsZip h z TI TO .none ∧ (∃ x y, IsPair h TO x y) ∧ as = []) ∨ ∃ T f oT, IsZipHeld h z TI TO T f ∧ h.get? T = some oT ∧ T ≠ z ∧ T ≠ i1 ∧ T ≠ i2 ∧ T ≠ S
  hTI : IsPair h TI (.ref i1) (.ref i2)
  st1 : t1 k h
  st2 : t2 k h
  hS : ∃ (acc : Array Value) (c : Nat), h.get? S = some (lstObj acc c) ∧ acc.toList = as.map Value.ref
  len : as.length = k
  lTO : TO < h.objs.size
  prs : ∀ i a, as[i]? = some a → a ≠ z ∧ a ≠ TO ∧ a ≠ i1 ∧ a ≠ i2 ∧ a ≠ S ∧ ∃ x y, v1 i x ∧ v2 i y ∧ IsPair h a x y
  keep : ∀ c o, c ≠ z → c ≠ TO → c ≠ i1 → c ≠ i2 → c ≠ S → h0.get? c = some o → h.get? c = some o
structure SAp (S z TI TO i1 i2 : Addr) (d1 d2 : List Addr) : Prop where
  z : S ≠ z
  TI : S ≠ TI
  TO : S ≠ TO
  i1 : S ≠ i1
  i2 : S ≠ i2
  d : ∀ b ∈ d1 ++ d2, b ≠ S
section
variable {prog : Program} {w : World} {A : Around} {S z TI TO i1 i2 : Addr} {d1 d2 : List Addr} {n1 n2 : Nat} {v1 v2 : Nat → Value → Prop} {t1 t2 : Nat → Heap → Prop} {R : Result → Shared → Prop} {h0 : Heap}
theorem lz_push {k : Nat} {h h' : Heap} {as : List Addr} {x y : Value} {T : Addr} {f : Bool} {oT : Obj} (D : ZAp z TI TO i1 i2 d1 d2) (B : SAp S z TI TO i1 i2 d1 d2) (C1 : ItC i1 d1 n1 v1 t1) (C2 : ItC i2 d2 n2 v2 t2)
    (L : LzAt h0 S z TI TO i1 i2 v1 v2 t1 t2 k h as) (hx : v1 k x) (hy : v2 k y) (hz : IsZipHeld h' z TI TO T f) (hT : h'.get? T = some oT) (hTz : T ≠ z ∧ T ≠ i1 ∧ T ≠ i2 ∧ T ≠ S) (s1 : t1 (k + 1) h') (s2 : t2 (k + 1) h') (hp : IsPair h' h.objs.size x y)
    (kp : ∀ c o, c ≠ z → c ≠ TO → c ≠ i1 → c ≠ i2 → h.get? c = some o → h'.get? c = some o) :
    LzAt h0 S z TI TO i1 i2 v1 v2 t1 t2 (k + 1) (h'.update S (Obj.mapSeq (·.push (.ref h.objs.size)))) (as ++ [h.objs.size]) := by
  obtain ⟨acc, c, hS, ha⟩ := L.hS
  have hS' : h'.get? S = some (lstObj acc c) := kp S _ B.z B.TO B.i1 B.i2 hS
  have up : ∀ b o, b ≠ S → h'.get? b = some o → (h'.update S (Obj.mapSeq (·.push (.ref h.objs.size)))).get? b = some o := fun b o hb e => (Heap.get?_update_other _ _ (Ne.symm hb)).trans e
  have hSn := Heap.get?_update_self (Obj.mapSeq (·.push (Value.ref h.objs.size))) hS' rfl
  have lS : S < h.objs.size := Heap.lt_size hS
  have dd1 : ∀ b ∈ d1, b ≠ S := fun b hb => B.d b (List.mem_append_left _ hb)
  have dd2 : ∀ b ∈ d2, b ≠ S := fun b hb => B.d b (List.mem_append_right _ hb)
  have lz : z < h.objs.size := by
    rcases L.hzip with ⟨q, _⟩ | ⟨_, _, _, q, _⟩
    · exact Heap.lt_size q
    · exact Heap.lt_size q
  have l1 : i1 < h.objs.size := let ⟨o, e, _⟩ := C1.obj _ _ L.st1; Heap.lt_size e
  have l2 : i2 < h.objs.size := let ⟨o, e, _⟩ := C2.obj _ _ L.st2; Heap.lt_size e
  refine { hzip := .inr ⟨T, f, oT, up _ _ B.z.symm hz, up _ _ hTz.2.2.2 hT, hTz⟩, hTI := up _ _ B.TI.symm (kp _ _ D.TIz D.TITO D.TIi1 D.TIi2 L.hTI), st1 := C1.keep _ _ _ s1 fun b o hb e => up b o ?_ e, st2 := C2.keep _ _ _ s2 fun b o hb e => up b o ?_ e, hS := ⟨_, _, hSn, by simp [ha]⟩, len := by rw [List.length_append, L.len]; rfl, lTO := ?_, prs := fun i a e => ?_, keep := fun c o c1 c2 c3 c4 c5 e => up c o c5 (kp c o c1 c2 c3 c4 (L.keep c o c1 c2 c3 c4 c5 e)) }
  · rcases hb with rfl | hb
    · exact B.i1.symm
    · exact dd1 b hb
  · rcases hb with rfl | hb
    · exact B.i2.symm
    · exact dd2 b hb
  · exact Nat.lt_of_lt_of_le (Nat.lt_trans L.lTO (Heap.lt_size hp)) (Nat.le_of_eq (Heap.size_update ..).symm)
  · by_cases hi : i < as.length
    · rw [List.getElem?_append_left hi] at e
      obtain ⟨a1, a0, a2, a3, a4, x', y', q1, q2, q3⟩ := L.prs i a e
      exact ⟨a1, a0, a2, a3, a4, x', y', q1, q2, up _ _ a4 (kp _ _ a1 a0 a2 a3 q3)⟩
    · have hi' : i = as.length := by
        rcases Nat.lt_or_ge i (as.length + 1) with q | q
        · omega
        · rw [List.getElem?_eq_none (by simp; omega)] at e
          cases e
      subst hi'
      rw [List.getElem?_append_right (Nat.le_refl _), Nat.sub_self] at e
      cases (Option.some.inj e : h.objs.size = a)
      exact ⟨Nat.ne_of_gt lz, Nat.ne_of_gt L.lTO, Nat.ne_of_gt l1, Nat.ne_of_gt l2, Nat.ne_of_gt lS, x, y, by rw [L.len]; exact hx, by rw [L.len]; exact hy, up _ _ (Nat.ne_of_gt lS) hp⟩
theorem lz_drain {s0 : Shared} (hh : A.handled = none) (D : ZAp z TI TO i1 i2 d1 d2) (B : SAp S z TI TO i1 i2 d1 d2) (C1 : ItC i1 d1 n1 v1 t1) (C2 : ItC i2 d2 n2 v2 t2) (hn : n1 ≤ 1000)
    (hend : ∀ (h : Heap) (as : List Addr), LzAt h0 S z TI TO i1 i2 v1 v2 t1 t2 (min n1 n2) h as → ∀ (h' : Heap) (tk : Nat), (∀ c o, c ≠ z → c ≠ TO → c ≠ i1 → c ≠ i2 → h.get? c = some o → h'.get? c = some o) → R (.ok (.ret .none)) { s0 with heap := h', toks := tk }) :
    ∀ (m k : Nat) (h : Heap) (tk : Nat) (as : List Addr), k + m = min n1 n2 → LzAt h0 S z TI TO i1 i2 v1 v2 t1 t2 k h as → codeAny (model prog w) A (.builtin "list.extend.loop" ⟨[.ref S, .ref z, .none], []⟩) R { s0 with heap := h, toks := tk } := by
  intro m
  induction m with
  | zero =>
    intro k h tk0 as hk L
    have hk' : k = n1 ∨ (k < n1 ∧ k = n2) := by omega
    have hkm : k = min n1 n2 := by omega
    refine codeAny_builtin F.entry_extend_loop ?_
    rw [Around.under_plainId F.plain_extend_loop _]
    show wpAny _ A.in1 (pyNext (.ref z) >>= _) _ _ _
    rcases L.hzip with ⟨hz, ⟨x, y, hTO⟩, he⟩ | ⟨T, f, oT, hz, hT, _⟩
    · refine wpAny_bind (pyNext_zipG_end (s := { s0 with heap := h, toks := tk0 }) (A := A.in1) hh D C1 C2 hz L.hTI hTO L.st1 L.st2 hk' fun h' tk kp => ?_)
      exact wpAny_pure (hend h as (hkm ▸ L) h' tk kp)
    · refine wpAny_bind (pyNext_zipH_end (s := { s0 with heap := h, toks := tk0 }) (A := A.in1) hh D C1 C2 hz hT L.hTI L.st1 L.st2 hk' fun h' tk kp => ?_)
      exact wpAny_pure (hend h as (hkm ▸ L) h' tk (fun c o c1 _ c3 c4 e => kp c o c1 c3 c4 e))
  | succ m ih =>
    intro k h tk0 as hk L
    have l1 : k < n1 := by omega
    have l2 : k < n2 := by omega
    obtain ⟨acc, c, hS, ha⟩ := L.hS
    have hsz : acc.size = k := by
      have := congrArg List.length ha
      rw [List.length_map, L.len] at this
      simpa using this
    have lS : S < h.objs.size := Heap.lt_size hS
    have lz : z < h.objs.size := by
      rcases L.hzip with ⟨q, _⟩ | ⟨_, _, _, q, _⟩
      · exact Heap.lt_size q
      · exact Heap.lt_size q
    have li1 : i1 < h.objs.size := let ⟨o, e, _⟩ := C1.obj _ _ L.st1; Heap.lt_size e
    have li2 : i2 < h.objs.size := let ⟨o, e, _⟩ := C2.obj _ _ L.st2; Heap.lt_size e
    have hl : sizeLine = 16777216 := by decide
    refine codeAny_builtin F.entry_extend_loop ?_
    rw [Around.under_plainId F.plain_extend_loop _]
    show wpAny _ A.in1 (pyNext (.ref z) >>= _) _ _ _
    rcases L.hzip with ⟨hz, ⟨x0, y0, hTO⟩, he⟩ | ⟨T, f, oT, hz, hT, hTz⟩
    · refine wpAny_bind (pyNext_zipG (s := { s0 with heap := h, toks := tk0 }) (A := A.in1) D C1 C2 hz L.hTI hTO L.st1 L.st2 l1 l2 fun h' tk x y hx hy a1 a2 a3 a4 a5 a6 a7 => ?_)
      have hS' : h'.get? S = some (lstObj acc c) := a7 S _ B.z B.TO B.i1 B.i2 hS
      show wpAny _ A.in1 (updateSeq S (·.push (.ref h.objs.size)) >>= _) _ _ _
      refine wpAny_bind ?_
      refine wpAny_updateSeq (s := { s0 with heap := h', toks := tk }) hS' rfl (wpAny_pure ⟨plainId_quiet F.plain_extend_loop _, ?_⟩) (by omega) (by show (acc.push _).size ≤ sizeLine + 1; rw [Array.size_push]; omega)
      exact ih (k + 1) _ _ _ (by omega) (lz_push D B C1 C2 L hx hy a1 a5 ⟨Nat.ne_of_gt lz, Nat.ne_of_gt li1, Nat.ne_of_gt li2, Nat.ne_of_gt lS⟩ a3 a4 a5 a7)
    · refine wpAny_bind (pyNext_zipH (s := { s0 with heap := h, toks := tk0 }) (A := A.in1) D C1 C2 hz hT L.hTI L.st1 L.st2 l1 l2 fun h' tk x y hx hy a1 a3 a4 a5 a6 a7 => ?_)
      have hS' : h'.get? S = some (lstObj acc c) := a7 S _ B.z B.i1 B.i2 hS
      show wpAny _ A.in1 (updateSeq S (·.push (.ref h.objs.size)) >>= _) _ _ _
      refine wpAny_bind ?_
      refine wpAny_updateSeq (s := { s0 with heap := h', toks := tk }) hS' rfl (wpAny_pure ⟨plainId_quiet F.plain_extend_loop _, ?_⟩) (by omega) (by show (acc.push _).size ≤ sizeLine + 1; rw [Array.size_push]; omega)
      exact ih (k + 1) _ _ _ (by omega) (lz_push D B C1 C2 L hx hy a1 (a7 T _ hTz.1 hTz.2.1 hTz.2.2.1 hT) hTz a3 a4 a5 fun c o c1 _ c3 c4 e => a7 c o c1 c3 c4 e)
/-- list(z), z a new zip -/
theorem call_list_zip {s : Shared} {Q' : Value → Shared → Prop} {E : Value → Shared → Prop} {x0 y0 : Value} (hh : A.handled = none) (D : ZAp z TI TO i1 i2 d1 d2) (C1 : ItC i1 d1 n1 v1 t1) (C2 : ItC i2 d2 n2 v2 t2) (hn : n1 ≤ 1000)
    (hz : IsZip s.heap z TI TO .none) (hTI : IsPair s.heap TI (.ref i1) (.ref i2)) (hTO : IsPair s.heap TO x0 y0) (h1 : t1 0 s.heap) (h2 : t2 0 s.heap) (hd : ∀ b ∈ d1 ++ d2, b < s.heap.objs.size)
    (hQ : ∀ (h' : Heap) (tk : Nat) (acc : Array Value) (c : Nat) (as : List Addr), h'.get? s.heap.objs.size = some (lstObj acc c) → acc.toList = as.map Value.ref → as.length = min n1 n2 → (∀ i a, as[i]? = some a → ∃ x y, v1 i x ∧ v2 i y ∧ IsPair h' a x y) →
      (∀ c o, c ≠ z → c ≠ TO → c ≠ i1 → c ≠ i2 → s.heap.get? c = some o → h'.get? c = some o) → Q' (.ref s.heap.objs.size) { s with heap := h', toks := tk }) :
    wpAny (model prog w) A (call (.type "list") [.ref z]) Q' E s := by
  have lz : z < s.heap.objs.size := Heap.lt_size hz
  have li1 : i1 < s.heap.objs.size := let ⟨o, e, _⟩ := C1.obj _ _ h1; Heap.lt_size e
  have li2 : i2 < s.heap.objs.size := let ⟨o, e, _⟩ := C2.obj _ _ h2; Heap.lt_size e
  have lTI : TI < s.heap.objs.size := Heap.lt_size hTI
  have lTO : TO < s.heap.objs.size := Heap.lt_size hTO
  have B : SAp s.heap.objs.size z TI TO i1 i2 d1 d2 := ⟨Nat.ne_of_gt lz, Nat.ne_of_gt lTI, Nat.ne_of_gt lTO, Nat.ne_of_gt li1, Nat.ne_of_gt li2, fun b hb => Nat.ne_of_lt (hd b hb)⟩
  refine callType_codes (Q₁ := fun obj s₁ => obj = .ref s.heap.objs.size ∧ s₁ = { s with heap := s.heap.push { cls := .type "list", data := .seq #[] } }) F.called_list (F.typeCall_list_1 _) F.entry_list_init
    (code_list_new _ ⟨rfl, rfl⟩) fun obj s₁ h₁ => ?_
  obtain ⟨rfl, rfl⟩ := h₁
  have hS : (s.heap.push { cls := .type "list", data := .seq #[] }).get? s.heap.objs.size = some { cls := .type "list", data := .seq #[] } := Heap.get?_push_size _ rfl
  refine ⟨⟨_, hS, rfl⟩, F.args_list_init_2 _ _, ?_⟩
  show wpAny _ A.in1.in1 (do let old ← Builtin.List.listItems (.ref s.heap.objs.size); Builtin.List.listUpdate (.ref s.heap.objs.size) (fun _ => #[]); letGo old.toList.reverse; Builtin.List.listExtendWith (.ref s.heap.objs.size) (.ref z) .none) _ _ _
  refine wpAny_bind ?_
  unfold Builtin.List.listItems
  refine wpAny_bind (wpAny_seqItems hS rfl (wpAny_pure ?_))
  show wpAny _ A.in1.in1 (updateSeq s.heap.objs.size (fun _ => #[]) >>= fun _ => letGo (#[] : Array Value).toList.reverse >>= fun _ => Builtin.List.listExtendWith (.ref s.heap.objs.size) (.ref z) .none) _ _ _
  refine wpAny_bind (wpAny_updateSeq hS rfl ?_)
  have hS2 := Heap.get?_update_self (Obj.mapSeq (fun _ => (#[] : Array Value))) hS rfl
  refine wpAny_bind (wpAny_letGo ?_)
  unfold Builtin.List.listExtendWith
  have up : ∀ (h : Heap) (f : Obj → Obj), (∀ b o, s.heap.get? b = some o → h.get? b = some o) → ∀ b o, s.heap.get? b = some o → (h.update s.heap.objs.size f).get? b = some o := fun h f q b o e =>
    (Heap.get?_update_other _ _ (Ne.symm (Nat.ne_of_lt (Heap.lt_size e)))).trans (q b o e)
  have k1 : ∀ b o, s.heap.get? b = some o → (s.heap.push { cls := .type "list", data := .seq #[] }).get? b = some o := fun b o e => Heap.get?_push_of_some _ e
  have k2 := up _ (Obj.mapSeq (fun _ => (#[] : Array Value))) k1
  have gty : ∀ {h : Heap}, (∀ b o, s.heap.get? b = some o → h.get? b = some o) → (⟨h, s.gens, s.drawn, s.toks, s.os⟩ : Shared).TypeIs (.ref z) "zip" := fun {h} q => ⟨_, q _ _ hz, rfl⟩
  refine wpAny_bind (wpAny_typeOf (gty k2) ?_)
  have q1 : Builtin.List.listSameRef (.ref s.heap.objs.size) (.ref z) = false := by simp [Builtin.List.listSameRef, Nat.ne_of_gt lz]
  have q2 : (Value.type "zip" == Value.type "list") = false := by decide
  have q3 : (Value.type "zip" == Value.type "tuple") = false := by decide
  simp only [q1, q2, q3, Bool.or_false, Bool.false_eq_true, if_false]
  refine wpAny_bind (wpAny_pyIter_zip (s := { s with heap := _ }) (k2 _ _ hz) ?_)
  refine wpAny_bind (wpAny_holding ?_)
  unfold Builtin.List.listLengthHint
  refine wpAny_bind (wpAny_specialOf (gty k2) zip_no_len ?_)
  show wpAny _ A.in1.in1 (specialOf (Value.ref z) (Str.ofString "__length_hint__") >>= _) _ _ _
  refine wpAny_bind (wpAny_specialOf (gty k2) zip_no_hint ?_)
  refine wpAny_pure ?_
  show wpAny _ A.in1.in1 (rule "list.extend.makes-room" >>= fun _ => Builtin.List.listTouch (.ref s.heap.objs.size) >>= fun _ =>
    again (.builtin "list.extend.loop" ⟨[.ref s.heap.objs.size, .ref z, .none], []⟩)) _ _ _
  refine wpAny_bind (wpAny_rule ?_)
  refine wpAny_bind ?_
  show wpAny _ A.in1.in1 (updateSeq s.heap.objs.size (·.push .none) >>= fun _ => updateSeq s.heap.objs.size (·.pop)) _ _ _
  refine wpAny_bind (wpAny_updateSeq hS2 rfl ?_)
  have hS3 := Heap.get?_update_self (Obj.mapSeq (·.push Value.none)) hS2 rfl
  refine wpAny_updateSeq (hz := by seq_fits) hS3 rfl ?_
  have hS4 := Heap.get?_update_self (Obj.mapSeq (·.pop)) hS3 rfl
  have k4 := up _ (Obj.mapSeq (·.pop)) (up _ (Obj.mapSeq (·.push Value.none)) k2)
  refine wpAny_pure ⟨plainId_quiet F.plain_extend_loop _, ?_⟩
  refine lz_drain (h0 := s.heap) (S := s.heap.objs.size) (s0 := s) (A := A.in1) hh D B C1 C2 hn (fun h as L h' tk kp => ?_) (min n1 n2) 0 _ _ [] (Nat.zero_add _) ?_
  · obtain ⟨acc, c, e1, e2⟩ := L.hS
    exact ⟨rfl, hQ h' tk acc c as (kp _ _ B.z B.TO B.i1 B.i2 e1) e2 L.len (fun i a e => by
      obtain ⟨a1, a2, a3, a4, a5, x, y, r1, r2, r3⟩ := L.prs i a e
      exact ⟨x, y, r1, r2, kp _ _ a1 a2 a3 a4 r3⟩) fun c o c1 c2 c3 c4 e => kp c o c1 c2 c3 c4 (L.keep c o c1 c2 c3 c4 (Nat.ne_of_lt (Heap.lt_size e)) e)⟩
  · exact { hzip := .inl ⟨k4 _ _ hz, ⟨_, _, k4 _ _ hTO⟩, rfl⟩, hTI := k4 _ _ hTI, st1 := C1.keep _ _ _ h1 fun b o _ e => k4 b o e, st2 := C2.keep _ _ _ h2 fun b o _ e => k4 b o e, hS := ⟨_, _, hS4, rfl⟩, len := rfl, lTO := Heap.lt_size (k4 _ _ hTO), prs := fun i a e => by simp at e, keep := fun c o _ _ _ _ _ e => k4 c o e }
end
end Dl

set_option Elab.async false
set_option linter.all false
set_option maxRecDepth 100000
set_option maxHeartbeats 4000000
set_option autoImplicit false
namespace Dl
open PySem PySem.Spec PyProof.Rows L2
/-! ## dict(list(zip(ints, text))), d.get(i, c), list(xs) as a list that changes -/
theorem merge_new : ∀ (more acc : List (Key × V)), ((acc ++ more).map (·.1)).Nodup → mergeK acc more = acc ++ more
  | [], acc, _ => by rw [List.append_nil]; rfl
  | p :: more, acc, h => by
    have hp : ¬ ((acc.any fun kv => decide (kv.1 = p.1)) = true) := fun z => by
      obtain ⟨q, hq, e⟩ := List.any_eq_true.mp z
      have e' : q.1 = p.1 := of_decide_eq_true e
      rw [List.map_append, List.map_cons, List.nodup_append] at h
      exact h.2.2 q.1 (List.mem_map.mpr ⟨q, hq, rfl⟩) p.1 List.mem_cons_self e'
    show mergeK (putK acc p.1 p.2) more = _
    unfold putK
    rw [if_neg hp, show (p.1, p.2) = p from rfl, merge_new more (acc ++ [p]) (by rw [List.append_assoc]; exact h), List.append_assoc]
    rfl
def chV (c : Nat) : V := .str ⟨#[c]⟩
def chD (c : Nat) : D := .str ⟨#[c]⟩
def kvZ (ns : List Int) (L : List Nat) : List (Key × V) := (ns.zip L).map fun p => (.inl p.1, chV p.2)
theorem kvZ_keys : ∀ {ns : List Int} {L : List Nat}, ns.length = L.length → (kvZ ns L).map (·.1) = ns.map Sum.inl
  | [], [], _ => rfl
  | n :: ns, c :: L, h => by
    have ih := kvZ_keys (ns := ns) (L := L) (by simpa using h)
    show Sum.inl n :: (kvZ ns L).map (·.1) = _
    rw [ih]
    rfl
theorem kvZ_reps {K : PySem.W.Frag} {F : Hp} : ∀ {ns : List Int} {L : List Nat}, ns.length = L.length → Reps K F ((kvZ ns L).map (·.2)) (L.map chD)
  | [], [], _ => .nil
  | n :: ns, c :: L, h => .cons (.str _) (kvZ_reps (ns := ns) (L := L) (by simpa using h))
def atZ (ns : List Int) (L : List Nat) (i : Int) : Nat := (((ns.zip L).find? fun p => decide (p.1 = i)).map (·.2)).getD 73
theorem kvZ_at (i : Int) : ∀ {ns : List Int} {L : List Nat}, (valV (kvZ ns L) (Sum.inl i : Key)).getD (chV 73) = chV (atZ ns L i)
  | [], _ => rfl
  | _ :: _, [] => rfl
  | n :: ns, c :: L => by
    by_cases h : n = i
    · subst h
      simp [kvZ, atZ, valV]
    · have ih := kvZ_at i (ns := ns) (L := L)
      have e1 : valV (kvZ (n :: ns) (c :: L)) (Sum.inl i : Key) = valV (kvZ ns L) (Sum.inl i : Key) := by
        show valV ((Sum.inl n, chV c) :: kvZ ns L) _ = _
        exact valV_neg (fun z => h (Sum.inl.inj z))
      have e2 : atZ (n :: ns) (c :: L) i = atZ ns L i := by
        simp [atZ, h]
      rw [e1, e2, ih]
theorem kvZ_inj {ns : List Int} {L : List Nat} (hl : ns.length = L.length) (hn : ns.Nodup) : mergeK [] (kvZ ns L) = kvZ ns L := by
  have h := merge_new (kvZ ns L) [] (by
    rw [List.nil_append, kvZ_keys hl]
    exact List.Pairwise.map _ (fun a b h z => h (Sum.inl.inj z)) hn)
  rw [h, List.nil_append]
/-- what call_dict_pairs is told -/
theorem kv_pairs : ∀ {ns : List Int} {L : List Nat} {prs : List (Key × Value)}, Paired (fun (p : Key × V) (q : Key × Value) => p.1 = q.1 ∧ RelV p.2 q.2) (kvZ ns L) prs → KV (kvZ ns L) prs := fun h => h
theorem kv_build {h : Heap} : ∀ (ns : List Int) (L : List Nat) (as : List Addr), ns.length = L.length → as.length = ns.length → (∀ (i : Nat) (a : Addr), as[i]? = some a → ∃ (x y : Value) (n : Int) (c : Nat), ns[i]? = some n ∧ L[i]? = some c ∧ RelV (.int n) x ∧ RelV (chV c) y ∧ IsPair h a x y) →
    ∃ prs : List (Key × Value), KV (kvZ ns L) prs ∧ prs.length = as.length ∧ ∀ (j : Nat) (q : Key × Value), prs[j]? = some q → ∃ (b : Addr) (u : Value), as[j]? = some b ∧ IsTup h b #[u, q.2] ∧ keyIs q.1 u = true
  | [], [], [], _, _, _ => ⟨[], .nil, rfl, fun j q e => by simp at e⟩
  | n :: ns, c :: L, a :: as, h1, h2, hp => by
    obtain ⟨prs, r, hl, hq⟩ := kv_build ns L as (by simpa using h1) (by simpa using h2) fun i a ea => by
      obtain ⟨x, y, n', c', q1, q2, q3⟩ := hp (i + 1) a (by simpa using ea)
      exact ⟨x, y, n', c', by simpa using q1, by simpa using q2, q3⟩
    obtain ⟨x, y, n', c', q1, q2, q3, q4, q5⟩ := hp 0 a rfl
    cases (Option.some.inj q1 : n = n')
    cases (Option.some.inj q2 : c = c')
    obtain ⟨t, rfl⟩ := q3
    refine ⟨(.inl n, y) :: prs, .cons ⟨rfl, q4⟩ r, by rw [List.length_cons, List.length_cons, hl], fun j q e => ?_⟩
    cases j with
    | zero =>
      have e' : ((.inl n : Key), y) = q := Option.some.inj e
      subst e'
      exact ⟨a, _, rfl, ⟨_, q5, rfl, _, rfl⟩, by simp [keyIs, Value.isInt]⟩
    | succ j =>
      obtain ⟨b, u', e1, e2, e3⟩ := hq j q (by simpa using e)
      exact ⟨b, u', by simpa using e1, e2, e3⟩
section
variable {X : Cx} {N : En} {W : WX} {n : Nat} {δ : List (Option S)} {μ μ1 μ2 : List M} {e e2 a b o : Expr} {p1 p2 p3 q1 q2 q3 pos apos : Pos} {ns : List Int} {L : List Nat} {i : Int}
theorem de_dzip (g : Go X N W n) (ha : DA X N W δ μ [e, e2] [.p (.lst (ns.map D.int)), .p (.str (Dl.st L))] μ1) (hl : ns.length = L.length) (hn : ns.Nodup) (hs4 : ns.length ≤ 100) (mz : X.mg "zip" = none) (ml : X.mg "list" = none) (md : X.mg "dict" = none) (gz : Gl X "zip" := by rfl) (gl : Gl X "list" := by rfl) (gdd : Gl X "dict" := by rfl)
    (hs : starEach [e, e2] X.env = (false, eval e X.env) :: starEach [e2] X.env := by rfl) (hpl : (backTo q3 (starEach [e2] X.env)).any (·.1) = false := by rfl)
    (hs2 : starEach [.Call (.Name "zip" p3) [e, e2] [] q3] X.env = (false, eval (.Call (.Name "zip" p3) [e, e2] [] q3) X.env) :: starEach [] X.env := by rfl)
    (hs3 : starEach [.Call (.Name "list" p2) [.Call (.Name "zip" p3) [e, e2] [] q3] [] q2] X.env = (false, eval (.Call (.Name "list" p2) [.Call (.Name "zip" p3) [e, e2] [] q3] [] q2) X.env) :: starEach [] X.env := by rfl) :
    DE X N W δ μ (.Call (.Name "dict" p1) [.Call (.Name "list" p2) [.Call (.Name "zip" p3) [e, e2] [] q3] [] q2] [] q1) (.v (.p (.dic (ns.map Sum.inl) (L.map chD)))) μ1 := by
  refine ⟨fun pins s σ H Q I ⟨F, A, R0, k⟩ => ?_⟩
  refine wpAny_Call_Name_kw (ld_blt (u := .type "dict") I gdd md (by decide +kernel) ?_)
  refine PyProof.Rows.callWith_type1 ?_ hs3 rfl
  rw [hs3]
  show wpAny _ _ (spliced ((false, eval (.Call (.Name "list" p2) [.Call (.Name "zip" p3) [e, e2] [] q3] [] q2) X.env) :: backTo q1 (starEach [] X.env))) _ _ s
  refine Calls.spliced_cons ?_
  refine wpAny_Call_Name_kw (ld_blt (u := .type "list") I gl ml (by decide +kernel) ?_)
  refine PyProof.Rows.callWith_type1 ?_ hs2 rfl
  rw [hs2]
  show wpAny _ _ (spliced ((false, eval (.Call (.Name "zip" p3) [e, e2] [] q3) X.env) :: backTo q2 (starEach [] X.env))) _ _ s
  refine Calls.spliced_cons ?_
  refine wpAny_Call_Name_kw (ld_blt I gz mz PyProof.Rows.boot_zip (PyProof.Rows.callWith_type1 (thn (ha.run q3 pins s σ H (fun vs H' => ∃ F' A', Same F F' ∧ A <+: A' ∧ Rl N F' A' H' σ δ μ1 ∧ RepSs N.K F' A' vs [.p (.lst (ns.map D.int)), .p (.str (Dl.st L))]) I ⟨F, A, R0, fun vs F' A' H' h1 h2 h3 h4 => ⟨F', A', h1, h2, h3, h4⟩⟩) fun us s1 ⟨vs, H1, I1, r1, F1, A1, e1, pp1, R1, rv⟩ => ?_) hs hpl))
  obtain ⟨v, u, rfl, rp1, rp2⟩ := two_of rv
  have hK := g.hK
  rw [hK] at rp1 rp2
  cases r1 with
  | cons ru1 rr =>
    cases rr with
    | cons ru2 rr =>
      cases rr
      obtain ⟨o1, c1, m1, h1, qq1⟩ := zsrc_here (.lst _) I1 R1.rc.sub (show Rep X.K F1 v (.lst (ns.map D.int)) from rp1) ru1
      obtain ⟨o2, c2, m2, h2, qq2⟩ := zsrc_here (.str _) I1 R1.rc.sub (show Rep X.K F1 u (.str (Dl.st L)) from rp2) ru2
      refine call_zipG m1 m2 h1 h2 fun h' hz hTI hTO f1 f2 hsz hk => Calls.spliced_nil ?_
      have I2 : Inv X pins σ H1 { s1 with heap := h' } := I1.kept (t' := s1.toks) hk
      obtain ⟨st1, S1, b1⟩ := qq1 s1.heap.objs.size
      obtain ⟨st2, S2, b2⟩ := qq2 (s1.heap.objs.size + 1)
      have st10 := b1 h' (f1 m1.nf)
      have st20 := b2 h' (f2 m2.nf)
      obtain ⟨dep1, val1, cc1, hc1, C1, nn1, rr1⟩ := S1.here X pins σ H1 _ rfl I2 R1.rc.sub
      obtain ⟨dep2, val2, cc2, hc2, C2, nn2, rr2⟩ := S2.here X pins σ H1 _ rfl I2 R1.rc.sub
      have fp : ∀ c, s1.heap.objs.size ≤ c → FpOk X pins H1 c := fun c hle => I1.fpOk hle (I1.hok.fresh hle)
      have Dz : ZAp (s1.heap.objs.size + 4) (s1.heap.objs.size + 2) (s1.heap.objs.size + 3) s1.heap.objs.size (s1.heap.objs.size + 1) dep1 dep2 :=
        ⟨nn (by decide), nn (by decide), n0 (by decide), nn (by decide), nn (by decide), (n0 (by decide)).symm, nn (by decide), (n0 (by decide)).symm, nn (by decide), n0 (by decide), fun b hb => by
          have key : ∀ b', FpOk X pins H1 b' → b ≠ b' := fun b' hf' => (List.mem_append.mp hb).elim (fun q => nn1 b q b' hf') fun q => nn2 b q b' hf'
          exact ⟨key _ (fp _ (Nat.le_add_right _ _)), key _ (fp _ (Nat.le_add_right _ _)), key _ (fp _ (Nat.le_refl _)), key _ (fp _ (Nat.le_add_right _ _))⟩⟩
      have hlen : (chars (Dl.st L)).length = L.length := by rw [chars_st, List.length_map]
      have hcalm := I1.ok.hd g.calm
      refine call_list_zip (s := { s1 with heap := h' }) hcalm Dz C1 C2 (by rw [List.length_map]; omega) hz hTI hTO ⟨st10, hc1⟩ ⟨st20, hc2⟩ (fun b hb => ?_) fun h'' tk acc c as hS hacc hal hpr hkp => Calls.spliced_nil ?_
      · refine Nat.lt_of_not_le fun hle => ?_
        have f := I2.fpOk hle (I2.hok.fresh hle)
        rcases List.mem_append.mp hb with q | q
        · exact nn1 b q b f rfl
        · exact nn2 b q b f rfl
      have hal' : as.length = ns.length := by rw [hal, List.length_map, hlen, ← hl, Nat.min_self]
      have k2 : ∀ b o, s1.heap.get? b = some o → h''.get? b = some o := fun b o e => by
        have lt := Heap.lt_size e
        refine hkp b o ?_ ?_ ?_ ?_ (hk b o e) <;> intro z <;> subst z
        · exact absurd lt (Nat.not_lt.mpr (Nat.le_add_right _ _))
        · exact absurd lt (Nat.not_lt.mpr (Nat.le_add_right _ _))
        · exact absurd lt (Nat.lt_irrefl _)
        · exact absurd lt (Nat.not_lt.mpr (Nat.le_add_right _ _))
      obtain ⟨prs, hkv, hpl2, hprs⟩ := kv_build (h := h'') ns L as hl hal' (fun i a ea => by
        obtain ⟨x, y, hx, hy, hp⟩ := hpr i a ea
        obtain ⟨v1, d1, w1, w2, w3⟩ := rr1 i x hx
        obtain ⟨v2, d2, z1, z2, z3⟩ := rr2 i y hy
        rw [List.getElem?_map] at w2
        obtain ⟨m, w4, rfl⟩ := Option.map_eq_some_iff.mp w2
        rw [chars_st, List.getElem?_map] at z2
        obtain ⟨c', z4, rfl⟩ := Option.map_eq_some_iff.mp z2
        cases w3
        cases z3
        exact ⟨x, y, m, c', w4, z4, w1, z1, hp⟩)
      have hacs : acc.size = prs.length := by
        have := congrArg List.length hacc
        rw [List.length_map] at this
        rw [hpl2, ← this]
        simp
      have hsl : sizeLine = 16777216 := by decide
      refine call_dict_pairs (s := { s1 with heap := h'', toks := tk }) (prs := prs) hcalm hS rfl rfl rfl hacs (by rw [hpl2, hal']; omega) (fun j q' ej => ?_) fun h3 tk3 hd3 k3 => ?_
      · obtain ⟨b, u', e5, e6, e7⟩ := hprs j q' ej
        refine ⟨b, u', ?_, e6, e7⟩
        rw [← Array.getElem?_toList, hacc, List.getElem?_map, e5]
        rfl
      · have hle : s1.heap.objs.size ≤ h''.objs.size := by
          have l1 : h'.objs.size < h''.objs.size := Heap.lt_size hS
          omega
        have hm : (h''.objs.size == sysModules) = false := beq_eq_false_iff_ne.mpr (Nat.ne_of_gt (Nat.lt_of_lt_of_le I1.big hle))
        have kl : (kvZ ns L).length ≤ sizeLine := by
          unfold kvZ
          rw [List.length_map, List.length_zip]
          omega
        have np : H1 h''.objs.size = none := I1.hok.fresh hle
        have sm := same_updN (o := .dK (kvZ ns L)) (R1.rc.fresh np).2.1
        have J : Inv X pins σ (upd H1 h''.objs.size (.dK (kvZ ns L))) { s1 with heap := h3, toks := tk3 } := I1.laid (t' := tk3) (fun b o e => k3 b o (k2 b o e)) hle (show ObjOk X.prog X.w _ _ _ (.dK (kvZ ns L)) from ⟨kl, hm, merged [] prs, by
          have := KV.merge hkv (kvs := []) (vs := []) .nil
          rw [kvZ_inj hl hn] at this
          exact this, hd3⟩)
        have rep : Rep N.K (upd F1 h''.objs.size (.dK (kvZ ns L))) (.ref h''.objs.size) (.dic ((kvZ ns L).map (·.1)) (L.map chD)) := .dic (kvs := kvZ ns L) upd_same (kvZ_reps hl)
        rw [kvZ_keys hl] at rep
        exact ⟨.ref h''.objs.size, _, J, rfl, k (.ref h''.objs.size) _ A1 _ (e1.trans sm) pp1 (R1.to sm (List.prefix_refl _) (R1.rc.frozen np _)) rep⟩
theorem kvs_is {K : PySem.W.Frag} {F : Hp} : ∀ {kvs : List (Key × V)} {ns : List Int} {L : List Nat}, kvs.map (·.1) = ns.map Sum.inl → Reps K F (kvs.map (·.2)) (L.map chD) → kvs = kvZ ns L
  | [], [], [], _, _ => rfl
  | [], [], _ :: _, _, r => by cases r
  | [], _ :: _, _, h, _ => by cases h
  | _ :: _, [], _, h, _ => by cases h
  | _ :: _, _ :: _, [], _, r => by cases r
  | p :: kvs, n :: ns, c :: L, h, r => by
    rw [List.map_cons, List.map_cons] at h
    injection h with h1 h2
    cases r with
    | cons r1 r2 =>
      have ih := kvs_is (K := K) (F := F) h2 r2
      obtain ⟨k, v⟩ := p
      cases (show k = Sum.inl n from h1)
      have r1' : Rep K F v (.str ⟨#[c]⟩) := r1
      cases r1'
      rw [ih]
      rfl
theorem de_dget2 {cpos : Pos} (g : Go X N W n) (ho : DE X N W δ μ o (.v (.p (.dic (ns.map Sum.inl) (L.map chD)))) μ) (ha : DE X N W δ μ a (.v (.p (.int i))) μ) (hb : DE X N W δ μ b (.v (.p (.str ⟨#[73]⟩))) μ)
    (m : M2 X o "get" apos a b cpos := by exact ⟨rfl, rfl, rfl, rfl⟩) : DE X N W δ μ (.Call (.Attribute o "get" apos) [a, b] [] cpos) (.v (.p (.str ⟨#[atZ ns L i]⟩))) μ :=
  PE.imp (pe_dget2 (by have := g.room.un; omega) ho ha hb m) fun σ H Q ⟨F, A, R0, k⟩ => ⟨F, A, R0, fun v F1 A1 H1 e1 p1 R1 rv => by
    have rv' : Rep N.K F1 v (.dic (ns.map Sum.inl) (L.map chD)) := rv
    generalize hd : D.dic (ns.map Sum.inl) (L.map chD) = d at rv'
    cases rv' with
    | @dic ad kvs ds h1 h2 =>
      injection hd with q1 q2
      subst q2
      have hk : kvs = kvZ ns L := kvs_is q1.symm h2
      subst hk
      refine ⟨ad, rfl, .inl ⟨_, .inl (R1.rc.sub _ _ h1)⟩, F1, A1, R1, fun y F2 A2 H2 e2 p2 R2 ry => ?_⟩
      cases (show Rep N.K F2 y (.int i) from ry)
      refine ⟨F2, A2, R2, fun z F3 A3 H3 e3 p3 R3 rz => ?_⟩
      cases (show Rep N.K F3 z (.str ⟨#[73]⟩) from rz)
      refine ⟨valV (kvZ ns L) (Sum.inl i : Key), DGet.k (k := Sum.inl i) (R3.rc.sub _ _ (e3 _ _ (e2 _ _ h1))), ?_⟩
      have e := kvZ_at i (ns := ns) (L := L)
      rw [show (V.str ⟨#[73]⟩) = chV 73 from rfl, e]
      exact k _ F3 A3 H3 ((e1.trans e2).trans e3) ((p1.trans p2).trans p3) R3 (.str _)
    | _ => cases hd⟩
theorem c_listM {ds : List D} : CallOk X N W (.type "list") μ [.p (.lst ds)] (.v (.l μ.length)) (μ ++ [.lst ds]) :=
  ⟨_, call_list_of, fun σ δ F A H vs Q R rv k => by
    obtain ⟨v, rfl, h⟩ := one_of rv
    obtain ⟨a, ws, rfl, h1, h2⟩ := rep_lst (show Rep N.K F v (.lst ds) from h)
    refine ⟨a, ws, rfl, .inl (SqL.of (R.rc.sub _ _ h1)), fun p np => ?_⟩
    have pp : A <+: A ++ [p] := List.prefix_append _ _
    refine k (.ref p) _ (A ++ [p]) _ (Same.refl _) pp (R.to (Same.refl _) pp (R.rc.newM np ⟨ws, upd_same, h2⟩)) ⟨p, rfl, ?_⟩
    rw [← R.rc.len]; simp⟩
end
end Dl

set_option Elab.async false
set_option linter.all false
set_option maxRecDepth 100000
set_option maxHeartbeats 4000000
set_option autoImplicit false
namespace K9
open PySem PySem.Spec PyProof.Rows L2 Dl
def top (i : Nat) : Stmt := PySem.Challenge.pw_looseknobs_k09_words_by_hand.main.body.getD i (.Pass ⟨0, 0, 0, 0⟩)
abbrev sErr : Stmt := inClass (top 1) 0
abbrev sInit : Stmt := inClass (top 11) 0
abbrev sLen : Stmt := inClass (top 11) 2
abbrev sEq : Stmt := inClass (top 11) 3
abbrev sNeg : Stmt := inClass (top 11) 4
abbrev sMul : Stmt := inClass (top 11) 5
abbrev sBent : Stmt := inClass (top 11) 6
abbrev sPasses : Stmt := inClass (top 11) 7
abbrev sBeside : Stmt := inClass (top 11) 8
abbrev sNeed : Stmt := top 12
abbrev sAre : Stmt := top 13
abbrev sSigned : Stmt := top 14
abbrev sQuarters : Stmt := top 15
abbrev sMade : Stmt := top 16
abbrev sLetter : Stmt := top 17
def rAre : Rel := fun ss μ r μ' => ∃ L, okL L ∧ ss = [.p (.str (st L))] ∧ r = .v (.p (.bl true)) ∧ μ' = μ
def rSigned : Rel := fun ss μ r μ' => ∃ (L : List Nat) (s : Int), L.length ≤ 4 ∧ ss = [.p (.str (st L)), .p (.int s)] ∧ r = .v (.p (.str (sgn L s))) ∧ μ' = μ
def rQuarters : Rel := fun ss μ r μ' => ∃ (A B : List Nat), okL A ∧ okL B ∧ A.length = B.length ∧ ss = [.p (.str (st A)), .p (.str (st B))] ∧ r = .v (.p (.int (qs A B))) ∧ μ' = μ
def rLetter : Rel := fun ss μ r μ' => ∃ a b : Nat, a ∈ IXYZ ∧ b ∈ IXYZ ∧ ss = [.p (.str ⟨#[a]⟩), .p (.str ⟨#[b]⟩)] ∧ r = .v (.p (.str ⟨#[third a b]⟩)) ∧ μ' = μ
def rMade : Rel := fun ss μ r μ' => ∃ (A B : List Nat), okL A ∧ okL B ∧ A.length = B.length ∧ ss = [.p (.str (st A)), .p (.str (st B))] ∧ r = .v (.p (.str (st (mk A B)))) ∧ μ' = μ
structure TW (w : World) (K : PySem.W.Frag) (mg : Str → Option Value) (qa ta : Addr) : Prop where
  len : mg "len" = none
  all : mg "all" = none
  sum : mg "sum" = none
  zip : mg "zip" = none
  isi : mg "isinstance" = none
  str : mg "str" = none
  lets : ∃ u, mg "LETTERS" = some u ∧ RelV (.str (st IXYZ)) u
  most : ∃ u, mg "MOST_WIRES" = some u ∧ RelV (.int 4) u
  mq : mg "QUARTER" = some (.ref qa)
  mt : mg "THIRD" = some (.ref ta)
  kq : ∃ es m, KDict K w qa es m
  kt : ∃ es m, KDict K w ta es m
  dq : ∀ a b, a ∈ IXYZ → b ∈ IXYZ → ∃ u, PySem.W.nsIn K qa (st [a, b]) = some u ∧ match u with | some u => ∃ v, RelV v u ∧ ∀ K F, Rep K F v (.int (qt a b)) | none => D.int (qt a b) = .int 0
  dt : ∀ a b, a ∈ IXYZ → b ∈ IXYZ → a ≠ b → a ≠ 73 → b ≠ 73 → ∃ u, PySem.W.nsIn K ta (st [a, b]) = some (some u) ∧ RelV (.str ⟨#[third a b]⟩) u
theorem scAre : FnScope ["text", "letter"] ["text"] (defScope sAre) := ⟨rfl, rfl, rfl, by decide +kernel, rfl, by decide +kernel, by decide +kernel⟩
theorem scSigned : FnScope ["letters", "sign"] ["letters", "sign"] (defScope sSigned) := ⟨rfl, rfl, rfl, by decide +kernel, rfl, by decide +kernel, by decide +kernel⟩
theorem scQuarters : FnScope ["one", "other", "a", "b"] ["one", "other"] (defScope sQuarters) := ⟨rfl, rfl, rfl, by decide +kernel, rfl, by decide +kernel, by decide +kernel⟩
theorem scMade : FnScope ["one", "other", "a", "b"] ["one", "other"] (defScope sMade) := ⟨rfl, rfl, rfl, by decide +kernel, rfl, by decide +kernel, by decide +kernel⟩
theorem scLetter : FnScope ["one", "other"] ["one", "other"] (defScope sLetter) := ⟨rfl, rfl, rfl, by decide +kernel, rfl, by decide +kernel, by decide +kernel⟩
section
variable {P : Program} {w : World} {K : PySem.W.Frag} {mg : Str → Option Value} {base : Heap} {qa ta f : Addr} {fd : FuncData}
theorem ok_are (F : Fun K "are_letters" "are_letters" sAre f fd) (T : TW w K mg qa ta) : FnOk P w K mg base (L2.CX P w) 1 f fd ["text"] (spD K rAre) := by
  refine fn_D (k := 0) F scAre (fun ss μ r μ' h => by obtain ⟨L, _, rfl, _⟩ := h; rfl) ?_
  intro cdv A outer s H E N W ss μ r μ' g hA hR
  obtain ⟨L, hL, rfl, rfl, rfl⟩ := hR
  obtain ⟨u1, hu1, ru1⟩ := T.lets
  obtain ⟨u2, hu2, ru2⟩ := T.most
  have h4 := hL.four
  have h1 := hL.one
  refine ⟨_, dss_ret (de_of (de_and (de_chn de_int (de_callB (da_cons (de_var 0) da_nil) (c_lenS (by rw [st_len]; exact size4 (by omega))) T.len (by decide +kernel)) o_le (fun _ => de_glob hu2 ru2 (fun _ _ => .int 4)) (fun _ => o_le))
    (fun _ => de_one (de_callB (id := "all") (da_cons (de_lc g [("letter", 1)] (di_of (di_str (de_var 0)) (chars_st L)) (fun s H C cl fp => dg_name 1 g.nd)
      (of_maps (fy := fun c => .bl (decide (c ∈ IXYZ))) fun c hc => ⟨_, rfl, fun s H C cl fp N' hK g' => de_cmp (de_var 1) (de_glob hu1 ru1 (fun _ _ => .str _)) o_inS⟩) (ok := blkOk_by (by rfl)) (hds := by rw [List.length_map]; exact size4' (by omega))) da_nil) (c_allm g) T.all (by decide +kernel)))) ?_), .rt⟩
  rw [st_len, decide_eq_true (show (1 : Int) ≤ (L.length : Int) by omega), decide_eq_true (show (L.length : Int) ≤ 4 by omega), show (L.all fun c => decide (c ∈ IXYZ)) = true by simpa using hL.all]
  rfl
theorem sgn_neg {L : List Nat} {s : Int} (h : s < 0) : Str.ofString "-" ++ st L = sgn L s := by
  unfold sgn
  rw [if_pos h]
  exact st_app [45] L
theorem sgn_pos {L : List Nat} {s : Int} (h : ¬ s < 0) : st L = sgn L s := by
  unfold sgn
  rw [if_neg h]
theorem ok_signed (F : Fun K "signed_text" "signed_text" sSigned f fd) : FnOk P w K mg base (L2.CX P w) 1 f fd ["letters", "sign"] (spD K rSigned) := by
  refine fn_D (k := 0) F scSigned (fun ss μ r μ' h => by obtain ⟨L, s, _, rfl, _⟩ := h; rfl) ?_
  intro cdv A outer s H E N W ss μ r μ' g hA hR
  obtain ⟨L, i, hL, rfl, rfl, rfl⟩ := hR
  by_cases hi : i < 0
  · exact ⟨_, dss_ifT (dt_of (dt_cmp (de_var 1) de_int o_lt) (decide_eq_true hi)) (dss_ret (de_of (de_bin de_str (de_var 0) (o_addS (by rw [st_len]; show 1 + _ ≤ _; exact size4 (by omega)))) (congrArg D.str (sgn_neg hi)))) cr, .rt⟩
  · exact ⟨_, dss_skip (dt_of (dt_cmp (de_var 1) de_int o_lt) (decide_eq_false hi)) (dss_ret (de_of (de_var 0) (congrArg D.str (sgn_pos hi)))), .rt⟩
theorem zip_chars (A B : List Nat) : (chars (st A)).zipWith (fun a b => D.tup [a, b]) (chars (st B)) = (A.zip B).map fun p => .tup [.str ⟨#[p.1]⟩, .str ⟨#[p.2]⟩] := by
  rw [chars_st, chars_st, List.zipWith_map, List.zip, List.map_zipWith]
theorem zip_mem {A B : List Nat} {p : Nat × Nat} (h : p ∈ A.zip B) : p.1 ∈ A ∧ p.2 ∈ B := by
  obtain ⟨a, b⟩ := p
  exact List.of_mem_zip h
theorem two_st (a b : Nat) : (⟨#[a]⟩ : Str) ++ ⟨#[b]⟩ = st [a, b] := st_app [a] [b]
theorem ok_quarters (F : Fun K "quarters" "quarters" sQuarters f fd) (T : TW w K mg qa ta) : FnOk P w K mg base (L2.CX P w) 1 f fd ["one", "other"] (spD K rQuarters) := by
  refine fn_D (k := 0) F scQuarters (fun ss μ r μ' h => by obtain ⟨A, B, _, _, _, rfl, _⟩ := h; rfl) ?_
  intro cdv A0 outer s H E N W ss μ r μ' g hA hR
  obtain ⟨A, B, hLA, hLB, hl, rfl, rfl, rfl⟩ := hR
  obtain ⟨es, m, kq⟩ := T.kq
  have h4 := hLA.four
  refine ⟨_, dss_ret (de_of (de_callB (id := "sum") (da_cons (de_lc g [("a", 2), ("b", 3)] (di_of (di_zip g (da_cons (de_var 0) (da_cons (de_var 1) da_nil)) (.str _) (.str _) T.zip) (zip_chars A B))
    (fun s H C cl fp => dg_tup (dgs_cons (dg_name 2 g.nd) (dgs_cons (dg_name 3 g.nd) dgs_nil)) g.hK g.calm)
    (of_maps (fy := fun p => .int (qt p.1 p.2)) fun p hp => ⟨_, rfl, fun s H C cl fp N' hK g' => ?_⟩) (ok := blkOk_by (by rfl)) (hds := by rw [List.length_map, List.length_zip]; exact size4' (by omega))) da_nil) (c_summ g) T.sum (by decide +kernel)) ?_), .rt⟩
  · obtain ⟨hp1, hp2⟩ := zip_mem hp
    obtain ⟨u, h1, h2⟩ := T.dq p.1 p.2 (hLA.all _ hp1) (hLB.all _ hp2)
    cases u <;> exact de_kdGet kq (de_glob (v := .ref qa) T.mq rfl (fun _ _ => .adr _)) (de_of (de_bin (de_var 2) (de_var 3) (o_addS (by show 1 + 1 ≤ _; exact size4 (by omega)))) (congrArg D.str (two_st _ _))) de_int h1 h2 ⟨rfl, rfl, rfl, rfl⟩
  · rw [List.zip, List.map_zipWith]
    rfl
theorem ch_eq (a b : Nat) : decide ((⟨#[a]⟩ : Str) = ⟨#[b]⟩) = decide (a = b) := by simp
theorem ok_letter (F : Fun K "_made_letter" "_made_letter" sLetter f fd) (T : TW w K mg qa ta) : FnOk P w K mg base (L2.CX P w) 1 f fd ["one", "other"] (spD K rLetter) := by
  refine fn_D (k := 0) F scLetter (fun ss μ r μ' h => by obtain ⟨A, B, _, _, rfl, _⟩ := h; rfl) ?_
  intro cdv A0 outer s H E N W ss μ r μ' g hA hR
  obtain ⟨a, b, ha, hb, rfl, rfl, rfl⟩ := hR
  obtain ⟨es, m, kt⟩ := T.kt
  by_cases h1 : a = b
  · exact ⟨_, dss_ifT (dt_of (dt_cmp (de_var 0) (de_var 1) o_eqS) ((ch_eq a b).trans (decide_eq_true h1))) (dss_ret (de_of de_str (congrArg D.str (by rw [third, if_pos h1] <;> rfl)))) cr, .rt⟩
  by_cases h2 : a = 73
  · exact ⟨_, dss_skip (dt_of (dt_cmp (de_var 0) (de_var 1) o_eqS) ((ch_eq a b).trans (decide_eq_false h1))) (dss_ifT (dt_of (dt_cmp (de_var 0) de_str o_eqS) ((ch_eq a 73).trans (decide_eq_true h2))) (dss_ret (de_of (de_var 1) (congrArg D.str (by rw [third, if_neg h1, if_pos h2] <;> rfl)))) cr), .rt⟩
  by_cases h3 : b = 73
  · exact ⟨_, dss_skip (dt_of (dt_cmp (de_var 0) (de_var 1) o_eqS) ((ch_eq a b).trans (decide_eq_false h1))) (dss_skip (dt_of (dt_cmp (de_var 0) de_str o_eqS) ((ch_eq a 73).trans (decide_eq_false h2)))
      (dss_ifT (dt_of (dt_cmp (de_var 1) de_str o_eqS) ((ch_eq b 73).trans (decide_eq_true h3))) (dss_ret (de_of (de_var 0) (congrArg D.str (by rw [third, if_neg h1, if_neg h2, if_pos h3] <;> rfl)))) cr)), .rt⟩
  obtain ⟨u, h4, h5⟩ := T.dt a b ha hb h1 h2 h3
  exact ⟨_, dss_skip (dt_of (dt_cmp (de_var 0) (de_var 1) o_eqS) ((ch_eq a b).trans (decide_eq_false h1))) (dss_skip (dt_of (dt_cmp (de_var 0) de_str o_eqS) ((ch_eq a 73).trans (decide_eq_false h2)))
      (dss_skip (dt_of (dt_cmp (de_var 1) de_str o_eqS) ((ch_eq b 73).trans (decide_eq_false h3))) (dss_ret (de_kdIx kt (de_glob (v := .ref ta) T.mt rfl (fun _ _ => .adr _)) (de_of (de_bin (de_var 0) (de_var 1) (o_addS (by show 1 + 1 ≤ _; exact size4 (by omega)))) (congrArg D.str (two_st _ _))) h4 h5 (fun _ _ => .str _))))), .rt⟩
theorem ok_made (F : Fun K "made_letters" "made_letters" sMade f fd) (T : TW w K mg qa ta) (cl : Cf P w K mg base 1 "_made_letter" [] rLetter) : FnOk P w K mg base (L2.CX P w) 2 f fd ["one", "other"] (spD K rMade) := by
  refine fn_D (k := 1) F scMade (fun ss μ r μ' h => by obtain ⟨A, B, _, _, _, rfl, _⟩ := h; rfl) ?_
  intro cdv A0 outer s H E N W ss μ r μ' g hA hR
  obtain ⟨A, B, hLA, hLB, hl, rfl, rfl, rfl⟩ := hR
  have h4 := hLA.four
  refine ⟨_, dss_ret (de_of (de_bm PySem.F.plainAttrs_str PySem.F.slot_str_join PySem.F.type_str_join de_str (da_cons (de_lc g [("a", 2), ("b", 3)] (di_of (di_zip g (da_cons (de_var 0) (da_cons (de_var 1) da_nil)) (.str _) (.str _) T.zip) (zip_chars A B))
    (fun s H C cl fp => dg_tup (dgs_cons (dg_name 2 g.nd) (dgs_cons (dg_name 3 g.nd) dgs_nil)) g.hK g.calm)
    (of_maps (fy := fun p => .str ⟨#[third p.1 p.2]⟩) fun p hp => ⟨_, rfl, fun s H C cl' fp N' hK g' => ?_⟩) (ok := blkOk_by (by rfl)) (hds := by rw [List.length_map, List.length_zip]; exact size4' (by omega))) da_nil) (m_joinm (by rw [List.length_zip]; omega))) ?_), .rt⟩
  · obtain ⟨hp1, hp2⟩ := zip_mem hp
    exact de_call g' cl (da_cons (de_var 2) (da_cons (de_var 3) da_nil)) ⟨p.1, p.2, hLA.all _ hp1, hLB.all _ hp2, rfl, rfl, rfl⟩
  · rw [List.zip, List.map_zipWith]
    rfl
end
end K9

set_option Elab.async false
set_option linter.all false
set_option maxRecDepth 100000
set_option maxHeartbeats 4000000
set_option autoImplicit false
namespace K9
open PySem PySem.Spec PyProof.Rows L2 Dl
structure TC (K : PySem.W.Frag) (mg : Str → Option Value) (C : Addr) : Prop where
  ci : ClsI K C
  nL : NoAttr K C "letters"
  nS : NoAttr K C "sign"
  at_ : mg "Word" = some (.ref C)
  sf : PySem.W.selfFirst K C = true
  nf : PySem.W.notFirst K C (.ref C) = true
  ne : NeOk K C
def pm (s : Int) : Prop := s = 1 ∨ s = -1
def wF : List Str := ["letters", "sign"]
def rInit (C : Addr) : Rel := fun ss μ r μ' => ∃ (j : Nat) (L : List Nat) (s : Int), okL L ∧ pm s ∧ ss = [.l j, .p (.str (sgn L s))] ∧ μ[j]? = some (.obj C [] []) ∧ r = .v (.p .non) ∧ μ' = μ.set j (.obj C wF [.str (st L), .int s])
def rLen (C : Addr) : Rel := fun ss μ r μ' => ∃ (L : List Nat) (s : Int), okL L ∧ ss = [.p (wd C L s)] ∧ r = .v (.p (.int L.length)) ∧ μ' = μ
def rEq (C : Addr) : Rel := fun ss μ r μ' => ∃ (L M : List Nat) (s t : Int), ss = [.p (wd C L s), .p (wd C M t)] ∧ r = .v (.p (.bl (decide (L = M) && decide (s = t)))) ∧ μ' = μ
def rNeg (C : Addr) : Rel := fun ss μ r μ' => ∃ (L : List Nat) (s : Int), okL L ∧ pm s ∧ ss = [.p (wd C L s)] ∧ r = .v (.p (wd C L (-s))) ∧ μ' = μ
def rMul (C : Addr) : Rel := fun ss μ r μ' => ∃ (A B : List Nat) (s t : Int), okL A ∧ okL B ∧ A.length = B.length ∧ pm s ∧ pm t ∧ qs A B % 2 = 0 ∧ ss = [.p (wd C A s), .p (wd C B t)] ∧ r = .v (.p (wd C (mk A B) (bes s t (qs A B)))) ∧ μ' = μ
def rBent (C : Addr) : Rel := fun ss μ r μ' => ∃ (A B : List Nat) (s t : Int), okL A ∧ okL B ∧ A.length = B.length ∧ pm s ∧ pm t ∧ qs A B % 2 ≠ 0 ∧ ss = [.p (wd C A s), .p (wd C B t)] ∧ r = .v (.p (wd C (mk A B) (bes s t (qs A B + 1)))) ∧ μ' = μ
def rPasses (C : Addr) : Rel := fun ss μ r μ' => ∃ (A B : List Nat) (s t : Int), okL A ∧ okL B ∧ A.length = B.length ∧ ss = [.p (wd C A s), .p (wd C B t)] ∧ r = .v (.p (.bl (decide (qs A B % 2 = 0)))) ∧ μ' = μ
def rBeside (C : Addr) : Rel := fun ss μ r μ' => ∃ (A B : List Nat) (s t q : Int), okL A ∧ okL B ∧ A.length = B.length ∧ pm s ∧ pm t ∧ ss = [.p (wd C A s), .p (wd C B t), .p (.int q)] ∧ r = .v (.p (wd C (mk A B) (bes s t q))) ∧ μ' = μ
theorem scInit : FnScope ["self", "text", "letters"] ["self", "text"] (defScope sInit) := ⟨rfl, rfl, rfl, by decide +kernel, rfl, by decide +kernel, by decide +kernel⟩
theorem scLen : FnScope ["self"] ["self"] (defScope sLen) := ⟨rfl, rfl, rfl, by decide +kernel, rfl, by decide +kernel, by decide +kernel⟩
theorem scEq : FnScope ["self", "other"] ["self", "other"] (defScope sEq) := ⟨rfl, rfl, rfl, by decide +kernel, rfl, by decide +kernel, by decide +kernel⟩
theorem scNeg : FnScope ["self"] ["self"] (defScope sNeg) := ⟨rfl, rfl, rfl, by decide +kernel, rfl, by decide +kernel, by decide +kernel⟩
theorem scMul : FnScope ["self", "other", "turned"] ["self", "other"] (defScope sMul) := ⟨rfl, rfl, rfl, by decide +kernel, rfl, by decide +kernel, by decide +kernel⟩
theorem scBent : FnScope ["self", "other"] ["self", "other"] (defScope sBent) := ⟨rfl, rfl, rfl, by decide +kernel, rfl, by decide +kernel, by decide +kernel⟩
theorem scPasses : FnScope ["self", "other"] ["self", "other"] (defScope sPasses) := ⟨rfl, rfl, rfl, by decide +kernel, rfl, by decide +kernel, by decide +kernel⟩
theorem scBeside : FnScope ["self", "other", "turned", "sign"] ["self", "other", "turned"] (defScope sBeside) := ⟨rfl, rfl, rfl, by decide +kernel, rfl, by decide +kernel, by decide +kernel⟩
theorem kit_same {K : PySem.W.Frag} {t : Value} : PySem.W.kitOne K t t = some true := by
  unfold PySem.W.kitOne
  rw [if_pos (by simp)]
theorem sgn_prefix {L : List Nat} {s : Int} (h : okL L) : Txt.removeprefix (sgn L s) (Str.ofString "-") = st L := by
  obtain ⟨h1, h4, ha⟩ := h
  unfold sgn
  split
  · match L, h1, h4 with
    | [a], _, _ => rfl
    | [a, b], _, _ => rfl
    | [a, b, c], _, _ => rfl
    | [a, b, c, d], _, _ => rfl
  · match L, h1, h4, ha with
    | a :: l, _, h4, ha =>
      have hm := ha a (by simp)
      clear ha
      simp only [IXYZ, List.mem_cons, List.not_mem_nil, or_false] at hm
      rcases hm with rfl | rfl | rfl | rfl <;> (match l, h4 with
        | [], _ => rfl
        | [b], _ => rfl
        | [b, c], _ => rfl
        | [b, c, d], _ => rfl)
theorem sgn_starts {L : List Nat} {s : Int} (h : okL L) : Txt.startswith (sgn L s) (Str.ofString "-") = decide (s < 0) := by
  obtain ⟨h1, h4, ha⟩ := h
  unfold sgn
  split
  · rename_i hs
    rw [decide_eq_true hs]
    match L, h1, h4 with
    | [a], _, _ => rfl
    | [a, b], _, _ => rfl
    | [a, b, c], _, _ => rfl
    | [a, b, c, d], _, _ => rfl
  · rename_i hs
    rw [decide_eq_false hs]
    match L, h1, h4, ha with
    | a :: l, _, h4, ha =>
      have hm := ha a (by simp)
      clear ha
      simp only [IXYZ, List.mem_cons, List.not_mem_nil, or_false] at hm
      rcases hm with rfl | rfl | rfl | rfl <;> (match l, h4 with
        | [], _ => rfl
        | [b], _ => rfl
        | [b, c], _ => rfl
        | [b, c, d], _ => rfl)
section
variable {P : Program} {w : World} {K : PySem.W.Frag} {mg : Str → Option Value} {base : Heap} {qa ta f C : Addr} {fd : FuncData}
theorem ok_init (F : Fun K "__init__" "Word.__init__" sInit f fd) (T : TW w K mg qa ta) (T2 : TC K mg C) (ca : Cf P w K mg base 1 "are_letters" [] rAre) : FnOk P w K mg base (L2.CX P w) 2 f fd ["self", "text"] (spD K (rInit C)) := by
  refine fn_D (k := 1) F scInit (fun ss μ r μ' h => by obtain ⟨j, L, s, _, _, rfl, _⟩ := h; rfl) ?_
  intro cdv A0 outer s0 H E N W ss μ r μ' g hA hR
  obtain ⟨j, L, s, hL, hs, rfl, hj, rfl, rfl⟩ := hR
  have h4 := hL.four
  have hlen : (sgn L s).length ≤ sizeLine := by
    unfold sgn
    rw [st_len]
    split
    · exact size4 (by rw [List.length_cons]; omega)
    · exact size4 (by omega)
  refine ⟨_, dss_skip (dt_not (dt_val (de_callB (id := "isinstance") (da_cons (de_var 1) (da_cons (de_ty T.str (by decide +kernel)) da_nil)) (c_isi g (.str _) (.ty _) kit_same) T.isi (by decide +kernel))))
    (dss_cons (ds_set 2 (de_of (de_bm PySem.F.plainAttrs_str PySem.F.slot_str_removeprefix PySem.F.type_str_removeprefix (de_var 1) (da_cons de_str da_nil) (m_removeprefix hlen)) (congrArg D.str (sgn_prefix hL))) g.nd) (cn
    (dss_skip (dt_not (dt_val (de_call g ca (da_cons (de_var 2) da_nil) ⟨L, hL, rfl, rfl, rfl⟩)))
    (dss_cons (ds_fldNew (de_var 2) (de_var 0) T2.ci.cl T2.nL hj) (cn
    (dss_cons (ds_fldNew (de_if (r := .v (.p (.int s))) (k := decide (s < 0)) (dt_of (dt_val (de_bm PySem.F.plainAttrs_str PySem.F.slot_str_startswith PySem.F.type_str_startswith (de_var 1) (da_cons de_str da_nil) m_startswith)) (sgn_starts hL)) (fun h => de_of (de_un de_int u_neg) (congrArg D.int ?_)) (fun h => de_of de_int (congrArg D.int ?_))) (de_var 0) T2.ci.cl T2.nS (List.getElem?_set_self (List.getElem?_eq_some_iff.mp hj).1)) (cn dss_nil))))))), ?_⟩
  · rcases hs with rfl | rfl
    · simp at h
    · rfl
  · rcases hs with rfl | rfl
    · rfl
    · simp at h
  · rw [List.set_set]
    exact .nx
theorem ok_len (F : Fun K "__len__" "Word.__len__" sLen f fd) (T : TW w K mg qa ta) (T2 : TC K mg C) : FnOk P w K mg base (L2.CX P w) 1 f fd ["self"] (spD K (rLen C)) := by
  refine fn_D (k := 0) F scLen (fun ss μ r μ' h => by obtain ⟨L, s, _, rfl, _⟩ := h; rfl) ?_
  intro cdv A0 outer s0 H E N W ss μ r μ' g hA hR
  obtain ⟨L, s, hL, rfl, rfl, rfl⟩ := hR
  have h4 := hL.four
  exact ⟨_, dss_ret (de_of (de_callB (id := "len") (da_cons (de_fld (de_var 0) g T2.ci.cl T2.nL) da_nil) (c_lenS (by rw [st_len]; exact size4 (by omega))) T.len (by decide +kernel)) (by rw [st_len])), .rt⟩
theorem ok_eq (F : Fun K "__eq__" "Word.__eq__" sEq f fd) (T : TW w K mg qa ta) (T2 : TC K mg C) : FnOk P w K mg base (L2.CX P w) 1 f fd ["self", "other"] (spD K (rEq C)) := by
  refine fn_D (k := 0) F scEq (fun ss μ r μ' h => by obtain ⟨L, M, s, t, rfl, _⟩ := h; rfl) ?_
  intro cdv A0 outer s0 H E N W ss μ r μ' g hA hR
  obtain ⟨L, M, s, t, rfl, rfl, rfl⟩ := hR
  refine ⟨_, dss_ret (de_of (de_and (de_callB (id := "isinstance") (da_cons (de_var 1) (da_cons (de_glob (v := .ref C) T2.at_ rfl (fun _ _ => .adr _)) da_nil)) (c_isi g (.ins _ _ _ T2.ci) (.adr C) kit_same) T.isi (by decide +kernel))
    (fun _ => de_and (de_cmp (de_fld (de_var 0) g T2.ci.cl T2.nL) (de_fld (de_var 1) g T2.ci.cl T2.nL) o_eqS) (fun _ => de_one (de_cmp (de_fld (de_var 0) g T2.ci.cl T2.nS) (de_fld (de_var 1) g T2.ci.cl T2.nS) o_eqI)))) ?_), .rt⟩
  rw [Bool.true_and]
  simp only [st_inj]
end
section
variable {X : Cx} {N : En} {W : WX} {n : Nat} {δ : List (Option S)} {μ μ1 μ2 : List M} {e o a b : Expr} {p pos apos : Pos} {C : Addr} {L A B : List Nat} {s t : Int}
theorem de_word (g : Go X N W n) (ci : Ci X.prog X.w X.K X.mg X.base 2 C "Word" [] (rInit C)) (hL : okL L) (hs : pm s) (h : DE X N W δ μ e (.v (.p (.str (sgn L s)))) μ1) (hk : 2 + 1 ≤ n := by decide) (hg : Gl X "Word" := by rfl)
    (he : starEach [e] X.env = (false, eval e X.env) :: starEach [] X.env := by rfl) (hpl : (backTo pos (starEach [] X.env)).any (·.1) = false := by rfl) : DE X N W δ μ (.Call (.Name "Word" p) [e] [] pos) (.v (.p (wd C L s))) μ1 := by
  refine de_make g ci (da_cons h da_nil he) (μ0 := (μ1 ++ [M.obj C [] []]).set μ1.length (M.obj C wF [.str (st L), .int s])) ⟨μ1.length, L, s, hL, hs, rfl, by simp, rfl, rfl⟩ (List.getElem?_set_self (by simp)) ?_ hk hg (by decide) he hpl
  rw [List.set_append_right _ _ (Nat.le_refl _)]
  simp
end
section
variable {P : Program} {w : World} {K : PySem.W.Frag} {mg : Str → Option Value} {base : Heap} {qa ta f C : Addr} {fd : FuncData}
theorem pm_neg {s : Int} (h : pm s) : pm (-s) := by
  rcases h with rfl | rfl
  · exact .inr rfl
  · exact .inl rfl
theorem ok_neg (F : Fun K "__neg__" "Word.__neg__" sNeg f fd) (T2 : TC K mg C) (cs : Cf P w K mg base 1 "signed_text" [] rSigned) (ci : Ci P w K mg base 2 C "Word" [] (rInit C)) : FnOk P w K mg base (L2.CX P w) 4 f fd ["self"] (spD K (rNeg C)) := by
  refine fn_D (k := 3) F scNeg (fun ss μ r μ' h => by obtain ⟨L, s, _, _, rfl, _⟩ := h; rfl) ?_
  intro cdv A0 outer s0 H E N W ss μ r μ' g hA hR
  obtain ⟨L, s, hL, hs, rfl, rfl, rfl⟩ := hR
  exact ⟨_, dss_ret (de_word g ci hL (pm_neg hs) (de_call g cs (da_cons (de_fld (de_var 0) g T2.ci.cl T2.nL) (da_cons (de_un (de_fld (de_var 0) g T2.ci.cl T2.nS) u_neg) da_nil)) ⟨L, -s, hL.four, rfl, rfl, rfl⟩)), .rt⟩
theorem pm_small {s : Int} (h : pm s) : -(2 ^ 64) < s ∧ s < 2 ^ 64 := by
  rcases h with rfl | rfl <;> decide
theorem ok_beside (F : Fun K "_beside" "Word._beside" sBeside f fd) (T2 : TC K mg C) (cs : Cf P w K mg base 1 "signed_text" [] rSigned) (cm : Cf P w K mg base 2 "made_letters" [] rMade) (ci : Ci P w K mg base 2 C "Word" [] (rInit C)) : FnOk P w K mg base (L2.CX P w) 4 f fd ["self", "other", "turned"] (spD K (rBeside C)) := by
  refine fn_D (k := 3) F scBeside (fun ss μ r μ' h => by obtain ⟨A, B, s, t, q, _, _, _, _, _, rfl, _⟩ := h; rfl) ?_
  intro cdv A0 outer s0 H E N W ss μ r μ' g hA hR
  obtain ⟨A, B, s, t, q, hLA, hLB, hl, hs, ht, rfl, rfl, rfl⟩ := hR
  have hm := mk_ok hLA hLB hl
  by_cases hq : q % 4 = 0
  · have e : bes s t q = s * t := if_neg (fun z => z hq)
    rw [e]
    exact ⟨_, dss_cons (ds_set 3 (de_bin (de_fld (de_var 0) g T2.ci.cl T2.nS) (de_fld (de_var 1) g T2.ci.cl T2.nS) (o_mul (.inl (pm_small hs)))) g.nd) (cn
      (dss_skip (dt_of (dt_cmp (de_bin (de_var 2) de_int (o_mod (by decide))) de_int o_neI) (by rw [decide_eq_true hq] <;> rfl))
      (dss_ret (de_word g ci hm (e ▸ bes_pm hs ht) (de_call g cs (da_cons (de_call g cm (da_cons (de_fld (de_var 0) g T2.ci.cl T2.nL) (da_cons (de_fld (de_var 1) g T2.ci.cl T2.nL) da_nil)) ⟨A, B, hLA, hLB, hl, rfl, rfl, rfl⟩) (da_cons (de_var 3) da_nil)) ⟨_, _, hm.four, rfl, rfl, rfl⟩))))), .rt⟩
  · have e : bes s t q = -(s * t) := if_pos hq
    rw [e]
    exact ⟨_, dss_cons (ds_set 3 (de_bin (de_fld (de_var 0) g T2.ci.cl T2.nS) (de_fld (de_var 1) g T2.ci.cl T2.nS) (o_mul (.inl (pm_small hs)))) g.nd) (cn
      (dss_ifT (dt_of (dt_cmp (de_bin (de_var 2) de_int (o_mod (by decide))) de_int o_neI) (by rw [decide_eq_false hq] <;> rfl)) (dss_cons (ds_set 3 (de_un (de_var 3) u_neg) g.nd) (cn dss_nil)) (cn
      (dss_ret (de_word g ci hm (e ▸ bes_pm hs ht) (de_call g cs (da_cons (de_call g cm (da_cons (de_fld (de_var 0) g T2.ci.cl T2.nL) (da_cons (de_fld (de_var 1) g T2.ci.cl T2.nL) da_nil)) ⟨A, B, hLA, hLB, hl, rfl, rfl, rfl⟩) (da_cons (de_var 3) da_nil)) ⟨_, _, hm.four, rfl, rfl, rfl⟩)))))), .rt⟩
theorem len_ne {A B : List Nat} (hl : A.length = B.length) : (!decide (((st B).length : Int) = ((st A).length : Int))) = false := by
  rw [st_len, st_len, hl]
  simp
theorem scNeed : FnScope ["value", "wires"] ["value", "wires"] (defScope sNeed) := ⟨rfl, rfl, rfl, by decide +kernel, rfl, by decide +kernel, by decide +kernel⟩
def rNeed (C : Addr) : Rel := fun ss μ r μ' => ∃ (B : List Nat) (t : Int), okL B ∧ ss = [.p (wd C B t), .p (.int (B.length : Int))] ∧ r = .v (.p .non) ∧ μ' = μ
theorem ok_need (F : Fun K "need_word" "need_word" sNeed f fd) (T : TW w K mg qa ta) (T2 : TC K mg C) : FnOk P w K mg base (L2.CX P w) 1 f fd ["value", "wires"] (spD K (rNeed C)) := by
  refine fn_D (k := 0) F scNeed (fun ss μ r μ' h => by obtain ⟨B, t, _, rfl, _⟩ := h; rfl) ?_
  intro cdv A0 outer s0 H E N W ss μ r μ' g hA hR
  obtain ⟨B, t, hLB, rfl, rfl, rfl⟩ := hR
  have h5 := hLB.four
  exact ⟨_, dss_skip (dt_not (dt_val (de_callB (id := "isinstance") (da_cons (de_var 0) (da_cons (de_glob (v := .ref C) T2.at_ rfl (fun _ _ => .adr _)) da_nil)) (c_isi g (.ins _ _ _ T2.ci) (.adr C) kit_same) T.isi (by decide +kernel)))) (dss_skip (dt_of (dt_cmp (de_callB (id := "len") (da_cons (de_fld (de_var 0) g T2.ci.cl T2.nL) da_nil) (c_lenS (by rw [st_len]; exact size4 (by omega))) T.len (by decide +kernel)) (de_var 1) o_neI) (by rw [st_len]; simp)) dss_nil), .nx⟩
theorem ok_passes (F : Fun K "passes" "Word.passes" sPasses f fd) (T : TW w K mg qa ta) (T2 : TC K mg C) (cn_ : Cf P w K mg base 1 "need_word" [] (rNeed C)) (cq : Cf P w K mg base 1 "quarters" [] rQuarters) : FnOk P w K mg base (L2.CX P w) 2 f fd ["self", "other"] (spD K (rPasses C)) := by
  refine fn_D (k := 1) F scPasses (fun ss μ r μ' h => by obtain ⟨A, B, s, t, _, _, _, rfl, _⟩ := h; rfl) ?_
  intro cdv A0 outer s0 H E N W ss μ r μ' g hA hR
  obtain ⟨A, B, s, t, hLA, hLB, hl, rfl, rfl, rfl⟩ := hR
  have h4 := hLA.four
  have h5 := hLB.four
  exact ⟨_, dss_cons (ds_expr (de_call g cn_ (da_cons (de_var 1) (da_cons (de_of (d' := .int (B.length : Int)) (de_callB (id := "len") (da_cons (de_fld (de_var 0) g T2.ci.cl T2.nL) da_nil) (c_lenS (by rw [st_len]; exact size4 (by omega))) T.len (by decide +kernel)) (by rw [st_len, hl])) da_nil)) ⟨B, t, hLB, rfl, rfl, rfl⟩)) (cn
    (dss_ret (de_cmp (de_bin (de_call g cq (da_cons (de_fld (de_var 0) g T2.ci.cl T2.nL) (da_cons (de_fld (de_var 1) g T2.ci.cl T2.nL) da_nil)) ⟨A, B, hLA, hLB, hl, rfl, rfl, rfl⟩) de_int (o_mod (by decide))) de_int o_eqI))), .rt⟩
theorem ok_mul (F : Fun K "__mul__" "Word.__mul__" sMul f fd) (T : TW w K mg qa ta) (T2 : TC K mg C) (cq : Cf P w K mg base 1 "quarters" [] rQuarters) (cb : Cm P w K mg base 4 C "_beside" [] (rBeside C)) : FnOk P w K mg base (L2.CX P w) 5 f fd ["self", "other"] (spD K (rMul C)) := by
  refine fn_D (k := 4) F scMul (fun ss μ r μ' h => by obtain ⟨A, B, s, t, _, _, _, _, _, _, rfl, _⟩ := h; rfl) ?_
  intro cdv A0 outer s0 H E N W ss μ r μ' g hA hR
  obtain ⟨A, B, s, t, hLA, hLB, hl, hs, ht, hq, rfl, rfl, rfl⟩ := hR
  have h4 := hLA.four
  have h5 := hLB.four
  exact ⟨_, dss_skip (dt_not (dt_val (de_callB (id := "isinstance") (da_cons (de_var 1) (da_cons (de_glob (v := .ref C) T2.at_ rfl (fun _ _ => .adr _)) da_nil)) (c_isi g (.ins _ _ _ T2.ci) (.adr C) kit_same) T.isi (by decide +kernel))))
    (dss_skip (dt_of (dt_cmp (de_callB (id := "len") (da_cons (de_fld (de_var 1) g T2.ci.cl T2.nL) da_nil) (c_lenS (by rw [st_len]; exact size4 (by omega))) T.len (by decide +kernel)) (de_callB (id := "len") (da_cons (de_fld (de_var 0) g T2.ci.cl T2.nL) da_nil) (c_lenS (by rw [st_len]; exact size4 (by omega))) T.len (by decide +kernel)) o_neI) (len_ne hl))
    (dss_cons (ds_set 2 (de_call g cq (da_cons (de_fld (de_var 0) g T2.ci.cl T2.nL) (da_cons (de_fld (de_var 1) g T2.ci.cl T2.nL) da_nil)) ⟨A, B, hLA, hLB, hl, rfl, rfl, rfl⟩) g.nd) (cn
    (dss_skip (dt_of (dt_cmp (de_bin (de_var 2) de_int (o_mod (by decide))) de_int o_neI) (by rw [decide_eq_true hq] <;> rfl))
    (dss_ret (de_meth g cb (de_var 0) (da_cons (de_var 1) (da_cons (de_var 2) da_nil)) ⟨A, B, s, t, _, hLA, hLB, hl, hs, ht, rfl, rfl, rfl⟩)))))), .rt⟩
theorem ok_bent (F : Fun K "bent" "Word.bent" sBent f fd) (T2 : TC K mg C) (cq : Cf P w K mg base 1 "quarters" [] rQuarters) (cp : Cm P w K mg base 2 C "passes" [] (rPasses C)) (cb : Cm P w K mg base 4 C "_beside" [] (rBeside C)) : FnOk P w K mg base (L2.CX P w) 5 f fd ["self", "other"] (spD K (rBent C)) := by
  refine fn_D (k := 4) F scBent (fun ss μ r μ' h => by obtain ⟨A, B, s, t, _, _, _, _, _, _, rfl, _⟩ := h; rfl) ?_
  intro cdv A0 outer s0 H E N W ss μ r μ' g hA hR
  obtain ⟨A, B, s, t, hLA, hLB, hl, hs, ht, hq, rfl, rfl, rfl⟩ := hR
  exact ⟨_, dss_skip (dt_of (dt_val (de_meth g cp (de_var 0) (da_cons (de_var 1) da_nil) ⟨A, B, s, t, hLA, hLB, hl, rfl, rfl, rfl⟩)) (decide_eq_false hq))
    (dss_ret (de_meth g cb (de_var 0) (da_cons (de_var 1) (da_cons (de_bin (de_call g cq (da_cons (de_fld (de_var 0) g T2.ci.cl T2.nL) (da_cons (de_fld (de_var 1) g T2.ci.cl T2.nL) da_nil)) ⟨A, B, hLA, hLB, hl, rfl, rfl, rfl⟩) de_int o_add) da_nil)) ⟨A, B, s, t, _, hLA, hLB, hl, hs, ht, rfl, rfl, rfl⟩)), .rt⟩
end
end K9

set_option Elab.async false
set_option linter.all false
set_option maxRecDepth 100000
set_option maxHeartbeats 4000000
set_option autoImplicit false
namespace K9
open PySem PySem.Spec PyProof.Rows L2 Dl
abbrev sPot : Stmt := top 19
abbrev sTake : Stmt := top 20
abbrev sSome : Stmt := top 21
abbrev sCells : Stmt := top 22
abbrev sLone : Stmt := top 23
abbrev sAmong : Stmt := top 24
abbrev sLaid : Stmt := top 25
abbrev sBR : Stmt := top 26
abbrev sMR : Stmt := top 27
abbrev sR : Stmt := top 28
abbrev sLaw : Stmt := top 29
theorem scPot : FnScope ["script", "place", "cell", "own", "small"] ["script", "place"] (defScope sPot) := ⟨rfl, rfl, rfl, by decide +kernel, rfl, by decide +kernel, by decide +kernel⟩
theorem scTake : FnScope ["pot", "upto", "digit", "prime", "blend"] ["pot", "upto"] (defScope sTake) := ⟨rfl, rfl, rfl, by decide +kernel, rfl, by decide +kernel, by decide +kernel⟩
theorem scCells : FnScope ["script", "most"] ["script", "most"] (defScope sCells) := ⟨rfl, rfl, rfl, by decide +kernel, rfl, by decide +kernel, by decide +kernel⟩
/-! ### the pot of digits -/
structure Pot where
  a : Int
  b : Int
  c : Int
def Pot.m (p : Pot) : M := .lst [.int p.a, .int p.b, .int p.c]
structure Pot.ok (n : Nat) (p : Pot) : Prop where
  b0 : 0 ≤ p.b
  b1 : p.b < 2 ^ 62
  c0 : 0 ≤ p.c
  c1 : p.c ≤ n
def absF (c : Int) : Int := if c < 0 then -c else c
def cellF (ns : List Int) (i : Nat) : Int := if i < ns.length then ns.getD i 0 else 89 * (i : Int) + 52
def potF (ns : List Int) (i : Nat) : Pot :=
  ⟨absF (cellF ns i) % ((10 ^ 60) ^ 5) * (if decide ((10 : Int) ^ 18 ≤ absF (cellF ns i)) then 1 else 0), (cellF ns i % 2305843009213693951 * 73914 + 7199 * (i : Int) * (i : Int) + 210) % 2305843009213693921, 0⟩
theorem potF_ok (ns : List Int) (i : Nat) : (potF ns i).ok 0 :=
  ⟨Int.emod_nonneg _ (by decide), Int.lt_trans (Int.emod_lt_of_pos _ (by decide)) (by decide), Int.le_refl _, Int.le_refl _⟩
def primeF (c : Int) : Int := ([2147483647, 2147483629, 2147483587, 2147483579, 2147483563] : List Int).getD (c % 5).toNat 0
def blendF (b c : Int) : Int := (b + 101059 * c * c + 46) ^ 3 % primeF c
def takeF (p : Pot) (u : Int) : Int × Pot :=
  if 0 < p.a then (p.a % u, ⟨p.a / u, p.b, p.c⟩) else (blendF p.b (p.c + 1) * (blendF p.b (p.c + 1) % 10097 + 100 * (p.c + 1)) / 149 % u, ⟨p.a, p.b, p.c + 1⟩)
theorem takeF_ok {n : Nat} {p : Pot} {u : Int} (h : p.ok n) : (takeF p u).2.ok (n + 1) := by
  obtain ⟨h1, h2, h3, h4⟩ := h
  unfold takeF
  split
  · exact ⟨h1, h2, h3, by show p.c ≤ _; omega⟩
  · exact ⟨h1, h2, by show 0 ≤ p.c + 1; omega, by show p.c + 1 ≤ _; omega⟩
theorem takeF_lt {p : Pot} {u : Int} (h : 0 < u) : 0 ≤ (takeF p u).1 ∧ (takeF p u).1 < u := by
  unfold takeF
  split
  · exact ⟨Int.emod_nonneg _ (by omega), Int.emod_lt_of_pos _ h⟩
  · exact ⟨Int.emod_nonneg _ (by omega), Int.emod_lt_of_pos _ h⟩
theorem prime_in (c : Int) : ∃ k : Nat, c % 5 = (k : Int) ∧ k < 5 := by
  have h1 := Int.emod_nonneg c (show (5 : Int) ≠ 0 by decide)
  have h2 := Int.emod_lt_of_pos c (show (0 : Int) < 5 by decide)
  exact ⟨(c % 5).toNat, by omega, by omega⟩
theorem prime_at (c : Int) : atI [D.int 2147483647, .int 2147483629, .int 2147483587, .int 2147483579, .int 2147483563] (c % 5) = some (.int (primeF c)) := by
  obtain ⟨k, h1, h2⟩ := prime_in c
  unfold primeF
  rw [h1]
  match k, h2 with
  | 0, _ => rfl
  | 1, _ => rfl
  | 2, _ => rfl
  | 3, _ => rfl
  | 4, _ => rfl
theorem prime_pos (c : Int) : 0 < primeF c ∧ primeF c < 2 ^ 31 := by
  obtain ⟨k, h1, h2⟩ := prime_in c
  unfold primeF
  rw [h1]
  match k, h2 with
  | 0, _ => decide
  | 1, _ => decide
  | 2, _ => decide
  | 3, _ => decide
  | 4, _ => decide
theorem blend_pos (b c : Int) : 0 ≤ blendF b c ∧ blendF b c < 2 ^ 31 := by
  have h := prime_pos c
  exact ⟨Int.emod_nonneg _ (by omega), Int.lt_trans (Int.emod_lt_of_pos _ h.1) h.2⟩
def rPot : Rel := fun ss μ r μ' => ∃ (ns : List Int) (i : Nat), i ≤ 100 ∧ ss = [.p (.sc ns), .p (.int (i : Int))] ∧ r = .v (.l μ.length) ∧ μ' = μ ++ [(potF ns i).m]
def rTake : Rel := fun ss μ r μ' => ∃ (j : Nat) (p : Pot) (u : Int), p.ok 900 ∧ 0 < u ∧ u < 1000 ∧ ss = [.l j, .p (.int u)] ∧ μ[j]? = some p.m ∧ r = .v (.p (.int (takeF p u).1)) ∧ μ' = μ.set j (takeF p u).2.m
structure TL (mg : Str → Option Value) : Prop where
  len : mg "len" = none
  int : mg "int" = none
  abs : mg "abs" = none
  max : mg "max" = none
  min : mg "min" = none
  range : mg "range" = none
  list : mg "list" = none
  all : mg "all" = none
section
variable {P : Program} {w : World} {K : PySem.W.Frag} {mg : Str → Option Value} {base : Heap} {f C : Addr} {fd : FuncData}
theorem pw60 : 0 < (10 : Int) ^ (60 : Int).toNat := by decide +kernel
theorem cell_at {ns : List Int} {i : Nat} (h : i < ns.length) : ns[i]? = some (cellF ns i) := by
  unfold cellF
  rw [if_pos h, List.getD, List.getElem?_eq_getElem h]
  rfl
theorem ite01 (q : Bool) : -(2 ^ 64) < (if q then (1 : Int) else 0) ∧ (if q then (1 : Int) else 0) < 2 ^ 64 := by cases q <;> decide
theorem ok_pot (F : Fun K "_law_pot" "_law_pot" sPot f fd) (T : TL mg) : FnOk P w K mg base (L2.CX P w) 1 f fd ["script", "place"] (spD K rPot) := by
  refine fn_D (k := 0) F scPot (fun ss μ r μ' h => by obtain ⟨ns, i, _, rfl, _⟩ := h; rfl) ?_
  intro cdv A0 outer s0 H E N W ss μ r μ' g hA hR
  obtain ⟨ns, i, hi, rfl, rfl, rfl⟩ := hR
  refine ⟨_, dss_cons (ds_set 2 (de_if (r := .v (.p (.int (cellF ns i)))) (k := decide ((i : Int) < (ns.length : Int))) (dt_cmp (de_var 1) (de_callB (id := "len") (da_cons (de_var 0) da_nil) (c_lenSc g) T.len (by decide +kernel)) o_lt)
      (fun h => de_ix (de_var 0) (de_var 1) (i_sc g (cell_at (by have := of_decide_eq_true h; omega)))) (fun h => de_of (de_bin (de_bin de_int (de_var 1) (o_mul (.inl (by decide)))) de_int o_add) (congrArg D.int ?_))) g.nd) (cn
    (dss_cons (ds_set 3 (de_of (de_bin (de_bin (de_callT (T := "int") (da_cons (de_callB (id := "abs") (da_cons (de_var 2) da_nil) c_abs T.abs (by decide +kernel)) da_nil) c_int T.int (by decide +kernel)) (de_bin (de_bin de_int de_int (o_pow ?_)) de_int (o_pow ?_)) (o_mod ?_))
      (de_callT (T := "int") (da_cons (de_cmp (de_callB (id := "abs") (da_cons (de_var 2) da_nil) c_abs T.abs (by decide +kernel)) (de_bin de_int de_int (o_pow ?_)) o_ge) da_nil) c_intB T.int (by decide +kernel)) (o_mul (.inr ?_))) (congrArg D.int (show _ = (potF ns i).a from rfl))) g.nd) (cn
    (dss_cons (ds_set 4 (de_bin (de_callT (T := "int") (da_cons (de_var 2) da_nil) c_int T.int (by decide +kernel)) de_int (o_mod (by decide))) g.nd) (cn
    (dss_ret (de_lstM (dp_cons (de_var 3) (dp_cons (de_of (de_bin (de_callT (T := "int") (da_cons (de_bin (de_bin (de_bin (de_var 4) de_int (o_mul (.inr (by decide)))) (de_bin (de_bin de_int (de_var 1) (o_mul (.inl (by decide)))) (de_var 1) (o_mul (.inr (by omega)))) o_add) de_int o_add) da_nil) c_int T.int (by decide +kernel)) de_int (o_mod (by decide))) (congrArg D.int (show _ = (potF ns i).b from rfl))) (dp_cons (de_of de_int (congrArg D.int (show _ = (potF ns i).c from rfl))) dp_nil)))))))))), .rt⟩
  · unfold cellF
    rw [if_neg (fun z => of_decide_eq_false h (by omega))]
  · exact ⟨by decide, by decide +kernel⟩
  · exact ⟨by decide, by decide +kernel⟩
  · decide +kernel
  · exact ⟨by decide, by decide +kernel⟩
  · exact ite01 _
theorem set_at {μ : List M} {j : Nat} {m x : M} (h : μ[j]? = some m) : (μ.set j x)[j]? = some x := List.getElem?_set_self (List.getElem?_eq_some_iff.mp h).1
theorem ok_take (F : Fun K "_law_take" "_law_take" sTake f fd) (T : TL mg) : FnOk P w K mg base (L2.CX P w) 1 f fd ["pot", "upto"] (spD K rTake) := by
  refine fn_D (k := 0) F scTake (fun ss μ r μ' h => by obtain ⟨j, p, u, _, _, _, rfl, _⟩ := h; rfl) ?_
  intro cdv A0 outer s0 H E N W ss μ r μ' g hA hR
  obtain ⟨j, p, u, hp, hu, hu2, rfl, hj, rfl, rfl⟩ := hR
  obtain ⟨b0, b1, c0, c1⟩ := hp
  by_cases ha : 0 < p.a
  · have e : takeF p u = (p.a % u, ⟨p.a / u, p.b, p.c⟩) := if_pos ha
    rw [e]
    exact ⟨_, dss_ifT (dt_of (dt_cmp (de_ix (de_var 0) de_int (i_lstM (i := 0) hj rfl)) de_int o_gt) (decide_eq_true ha))
      (dss_cons (ds_set 2 (de_bin (de_callT (T := "int") (da_cons (de_ix (de_var 0) de_int (i_lstM (i := 0) hj rfl)) da_nil) c_int T.int (by decide +kernel)) (de_var 1) (o_mod hu)) g.nd) (cn
      (dss_cons (ds_setM (de_bin (de_ix (de_var 0) de_int (i_lstM (i := 0) hj rfl)) (de_var 1) (o_div ⟨hu, by omega⟩)) (de_var 0) de_int hj rfl) (cn
      (dss_ret (de_var 2)))))) cr, .rt⟩
  · have e : takeF p u = (blendF p.b (p.c + 1) * (blendF p.b (p.c + 1) % 10097 + 100 * (p.c + 1)) / 149 % u, ⟨p.a, p.b, p.c + 1⟩) := if_neg ha
    rw [e]
    have hc : (0 : Int) ≤ p.c + 1 ∧ p.c + 1 ≤ 901 := by omega
    have hb := blend_pos p.b (p.c + 1)
    have hm : 101059 * (p.c + 1) * (p.c + 1) ≤ 101059 * 901 * 901 := Int.mul_le_mul (by omega) hc.2 hc.1 (by decide)
    have hm0 : 0 ≤ 101059 * (p.c + 1) * (p.c + 1) := Int.mul_nonneg (by omega) hc.1
    refine ⟨_, dss_skip (dt_of (dt_cmp (de_ix (de_var 0) de_int (i_lstM (i := 0) hj rfl)) de_int o_gt) (decide_eq_false ha))
      (dss_cons (ds_setM (de_bin (de_ix (de_var 0) de_int (i_lstM (i := 2) hj rfl)) de_int o_add) (de_var 0) de_int hj rfl) (cn
      (dss_cons (ds_set 3 (de_ix (de_lst (dp_cons de_int (dp_cons de_int (dp_cons de_int (dp_cons de_int (dp_cons de_int dp_nil)))))) (de_bin (de_callT (T := "int") (da_cons (de_ix (de_var 0) de_int (i_lstM (i := 2) (set_at hj) rfl)) da_nil) c_int T.int (by decide +kernel)) de_int (o_mod (by decide))) (i_lst g (prime_at _))) g.nd) (cn
      (dss_cons (ds_set 4 (de_of (de_bin (de_callT (T := "int") (da_cons (de_bin (de_callT (T := "int") (da_cons (de_bin (de_bin (de_ix (de_var 0) de_int (i_lstM (i := 1) (set_at hj) rfl)) (de_bin (de_bin de_int (de_ix (de_var 0) de_int (i_lstM (i := 2) (set_at hj) rfl)) (o_mul (.inl (by decide)))) (de_ix (de_var 0) de_int (i_lstM (i := 2) (set_at hj) rfl)) (o_mul (.inr (by omega)))) o_add) de_int o_add) da_nil) c_int T.int (by decide +kernel)) de_int (o_pow ?_)) da_nil) c_int T.int (by decide +kernel)) (de_var 3) (o_mod (prime_pos _).1)) (congrArg D.int (show _ = blendF p.b (p.c + 1) from rfl))) g.nd) (cn
      (dss_ret (de_bin (de_callT (T := "int") (da_cons (de_bin (de_bin (de_var 4) (de_bin (de_bin (de_callT (T := "int") (da_cons (de_var 4) da_nil) c_int T.int (by decide +kernel)) de_int (o_mod (by decide))) (de_bin de_int (de_ix (de_var 0) de_int (i_lstM (i := 2) (set_at hj) rfl)) (o_mul (.inl (by decide)))) o_add) (o_mul (.inl (by omega)))) de_int (o_div ⟨by decide, by decide⟩)) da_nil) c_int T.int (by decide +kernel)) (de_var 1) (o_mod hu))))))))), .rt⟩
    refine ⟨by decide, ?_⟩
    have hx := intBits_le_64 (k := p.b + 101059 * (p.c + 1) * (p.c + 1) + 46) (by omega) (by omega)
    show ((Builtin.Int.intBits (p.b + 101059 * (p.c + 1) * (p.c + 1) + 46) : Nat) : Int) * 3 ≤ _
    omega
end
def cellsN (ns : List Int) : Nat := max 1 (min 6 ns.length)
def rCells : Rel := fun ss μ r μ' => ∃ (ns : List Int), ss = [.p (.sc ns), .p (.int 6)] ∧ r = .v (.p (.lst (rangeD 0 (cellsN ns)))) ∧ μ' = μ
theorem Pot.ok.mono {n m : Nat} {p : Pot} (h : p.ok n) (q : n ≤ m) : p.ok m := ⟨h.b0, h.b1, h.c0, by have := h.c1; omega⟩
theorem set_self {μ : List M} {j : Nat} {m : M} (h : μ[j]? = some m) : μ.set j m = μ := by
  obtain ⟨h1, h2⟩ := List.getElem?_eq_some_iff.mp h
  subst h2
  exact List.set_getElem_self h1
/-! ### a comprehension that goes on -/
section
variable {X : Cx} {N : En} {δ : List (Option S)} {elt : Expr} {scope : Scope} {f : As} {nn : Nat} {K : PySem.W.Frag}
def outs {T : Type} (y : T → D) (nx : T → T) : Nat → T → List D
  | 0, _ => []
  | n + 1, t => y t :: outs y nx n (nx t)
def iter {T : Type} (nx : T → T) : Nat → T → T
  | 0, t => t
  | n + 1, t => iter nx n (nx t)
theorem of_state {T α : Type} {gd : α → D} {y : T → D} {nx : T → T} {mu : T → List M} (I : Nat → T → Prop)
    (h : ∀ n t a, I (n + 1) t → I n (nx t) ∧ ∃ δt, f (gd a) δ = some δt ∧ DEB X K nn scope elt δt (mu t) (y t) (mu (nx t))) :
    ∀ (k : Nat) (l : List α) (t : T), l.length = k → I k t → CmpL (El0 X K nn scope elt) f δ (l.map gd) (mu t) (outs y nx k t) (mu (iter nx k t))
  | _, [], t, rfl, _ => .nil
  | _, a :: l, t, rfl, hi => by
    obtain ⟨h1, δt, h2, h3⟩ := h l.length t a hi
    exact .keep h2 ⟨_, rfl, h3⟩ (of_state I h l.length l (nx t) rfl h1)
end
section
variable {P : Program} {w : World} {K : PySem.W.Frag} {mg : Str → Option Value} {base : Heap} {f C : Addr} {fd : FuncData}
theorem ok_cells (F : Fun K "_law_cells" "_law_cells" sCells f fd) (T : TL mg) : FnOk P w K mg base (L2.CX P w) 1 f fd ["script", "most"] (spD K rCells) := by
  refine fn_D (k := 0) F scCells (fun ss μ r μ' h => by obtain ⟨ns, rfl, _⟩ := h; rfl) ?_
  intro cdv A0 outer s0 H E N W ss μ r μ' g hA hR
  obtain ⟨ns, rfl, rfl, rfl⟩ := hR
  refine ⟨_, dss_ret (de_of (de_listRg g (de_callB (id := "max") (da_cons de_int (da_cons (de_callB (id := "min") (da_cons (de_var 1) (da_cons (de_callB (id := "len") (da_cons (de_var 0) da_nil) (c_lenSc g) T.len (by decide +kernel)) da_nil)) (c_min2 g) T.min (by decide +kernel)) da_nil)) (c_max2 g) T.max (by decide +kernel)) T.list T.range ?_) ?_), .rt⟩
  · split <;> split at * <;> omega
  · congr 2
    unfold cellsN
    split <;> split at * <;> omega
theorem sgn_made (L : List Nat) (s : Int) : (if decide (s < 0) then Str.ofString "-" else Str.empty) ++ st L = sgn L s := by
  by_cases h : s < 0
  · rw [decide_eq_true h, if_pos rfl]
    exact sgn_neg h
  · rw [decide_eq_false h, if_neg (by decide)]
    rw [← sgn_pos h]
    show Str.append _ _ = _
    simp [Str.append, Str.empty, Dl.st]
end
theorem atI_range {α : Type} {xs : List α} {i : Int} (h0 : 0 ≤ i) (h1 : i < xs.length) (d : α) : atI xs i = some (xs.getD i.toNat d) := by
  obtain ⟨k, rfl⟩ : ∃ k : Nat, i = (k : Int) := ⟨i.toNat, by omega⟩
  refine atI_nat ?_
  have hk : k < xs.length := by omega
  rw [List.getElem?_eq_getElem hk, List.getD, Int.toNat_natCast, List.getElem?_eq_getElem hk]
  rfl
end K9

set_option Elab.async false
set_option linter.all false
set_option maxRecDepth 100000
set_option maxHeartbeats 4000000
set_option autoImplicit false
namespace K9
open PySem PySem.Spec PyProof.Rows L2 Dl
def bodyOf (s : Stmt) (i : Nat) : List Stmt := match (defBody s).getD i (.Pass ⟨0, 0, 0, 0⟩) with
  | .For _ _ b _ _ => b
  | _ => []
section
variable {X : Cx} {N : En} {W : WX} {f : As} {body : List Stmt}
theorem loop_st {T : Type} {mu : T → List M} {nx : T → T} (I : Nat → T → Prop) (Δ : T → List (Option S) → Prop)
    (h : ∀ k t d δ, Δ t δ → I (k + 1) t → I k (nx t) ∧ ∃ δt δ1, f d δ = some δt ∧ DSs X N W δt (mu t) body (.nx δ1 (mu (nx t))) ∧ Δ (nx t) δ1) :
    ∀ (ds : List D) (δ : List (Option S)) (t : T), Δ t δ → I ds.length t → ∃ δ', Loop X N W f body ds δ (mu t) (.nx δ' (mu (iter nx ds.length t))) ∧ Δ (iter nx ds.length t) δ' ∧ I 0 (iter nx ds.length t)
  | [], δ, t, h0, hi => ⟨δ, .nil, h0, hi⟩
  | d :: ds, δ, t, h0, hi => by
    obtain ⟨h1, δt, δ1, h2, h3, h4⟩ := h ds.length t d δ h0 hi
    obtain ⟨δ', h5, h6, h7⟩ := loop_st I Δ h ds δ1 (nx t) h4 h1
    exact ⟨δ', .next h2 h3 h5, h6, h7⟩
end
section
variable {X : Cx} {N : En} {W : WX} {δ : List (Option S)} {μ μ1 : List M} {e : Expr} {s s' : S}
theorem de_ofS (h : DE X N W δ μ e (.v s) μ1) (q : s = s') : DE X N W δ μ e (.v s') μ1 := q ▸ h
end
/-! ## some of a row of integers -/
structure SmT where
  p : Pot
  rest : List Int
  found : List Int
def smI (t : SmT) : Nat := (takeF t.p t.rest.length).1.toNat
def smX (t : SmT) : SmT := ⟨(takeF t.p t.rest.length).2, t.rest.eraseIdx (smI t), t.found ++ [t.rest.getD (smI t) 0]⟩
def smR (n : Nat) (p : Pot) (ns : List Int) : SmT := iter smX n ⟨p, ns, []⟩
/-- all rows that may be drawn -/
def chooseAll : Nat → List Int → List (List Int)
  | 0, _ => [[]]
  | n + 1, ns => (List.range ns.length).flatMap fun i => (chooseAll n (ns.eraseIdx i)).map (ns.getD i 0 :: ·)
theorem sm_in : ∀ (n : Nat) (t : SmT), n ≤ t.rest.length → ∃ x, x ∈ chooseAll n t.rest ∧ (iter smX n t).found = t.found ++ x
  | 0, t, _ => ⟨[], List.mem_singleton.mpr rfl, (List.append_nil _).symm⟩
  | n + 1, t, h => by
    have hi := takeF_lt (p := t.p) (u := (t.rest.length : Int)) (by omega)
    have hi' : smI t < t.rest.length := by unfold smI; omega
    obtain ⟨x, h1, h2⟩ := sm_in n (smX t) (by show n ≤ (t.rest.eraseIdx (smI t)).length; rw [List.length_eraseIdx]; split <;> omega)
    refine ⟨t.rest.getD (smI t) 0 :: x, ?_, ?_⟩
    · show _ ∈ (List.range t.rest.length).flatMap _
      rw [List.mem_flatMap]
      exact ⟨smI t, List.mem_range.mpr hi', List.mem_map.mpr ⟨x, h1, rfl⟩⟩
    · show (iter smX n (smX t)).found = _
      rw [h2]
      show (t.found ++ [t.rest.getD (smI t) 0]) ++ x = _
      rw [List.append_assoc]
      rfl
theorem sm_ok : ∀ (n m : Nat) (t : SmT), t.p.ok m → (iter smX n t).p.ok (m + n)
  | 0, _, _, h => h
  | n + 1, m, t, h => (sm_ok n (m + 1) (smX t) (takeF_ok h)).mono (by omega)
def intD (ns : List Int) : List D := ns.map D.int
def rSome : Rel := fun ss μ r μ' => ∃ (j : Nat) (p : Pot) (ns : List Int) (n : Nat), p.ok 800 ∧ n ≤ ns.length ∧ ns.length ≤ 10 ∧ ss = [.l j, .p (.lst (intD ns)), .p (.int (n : Int))] ∧ μ[j]? = some p.m ∧ r = .v (.p (.lst (intD (smR n p ns).found))) ∧ μ' = μ.set j (smR n p ns).p.m
theorem scSome : FnScope ["pot", "pool", "many", "rest", "found", "lap"] ["pot", "pool", "many"] (defScope sSome) := ⟨rfl, rfl, rfl, by decide +kernel, rfl, by decide +kernel, by decide +kernel⟩
def muS (j : Nat) (μ0 : List M) (t : SmT) : List M := μ0.set j t.p.m ++ [.lst (intD t.rest), .lst (intD t.found)]
section
variable {j : Nat} {μ0 : List M} {x : M} {p q : Pot} {r f r' f' : List Int}
theorem ms_at (h : μ0[j]? = some x) : (muS j μ0 ⟨p, r, f⟩)[j]? = some p.m := by
  have := (List.getElem?_eq_some_iff.mp h).1
  unfold muS
  rw [List.getElem?_append_left (by simpa using this)]
  exact set_at h
theorem ms_r : (muS j μ0 ⟨p, r, f⟩)[μ0.length]? = some (.lst (intD r)) := by
  unfold muS
  rw [List.getElem?_append_right (by simp)]
  simp
theorem ms_f : (muS j μ0 ⟨p, r, f⟩)[μ0.length + 1]? = some (.lst (intD f)) := by
  unfold muS
  rw [List.getElem?_append_right (by simp)]
  simp
theorem ms_set (h : μ0[j]? = some x) : (muS j μ0 ⟨p, r, f⟩).set j q.m = muS j μ0 ⟨q, r, f⟩ := by
  have := (List.getElem?_eq_some_iff.mp h).1
  unfold muS
  rw [List.set_append_left _ _ (by simpa using this), List.set_set]
theorem ms_rset : (muS j μ0 ⟨p, r, f⟩).set μ0.length (.lst (intD r')) = muS j μ0 ⟨p, r', f⟩ := by
  unfold muS
  rw [List.set_append_right _ _ (by simp)]
  simp
theorem ms_fset : (muS j μ0 ⟨p, r, f⟩).set (μ0.length + 1) (.lst (intD f')) = muS j μ0 ⟨p, r, f'⟩ := by
  unfold muS
  rw [List.set_append_right _ _ (by simp)]
  simp
end
theorem ints_erase : ∀ (ns : List Int) (i : Nat), (intD ns).eraseIdx i = intD (ns.eraseIdx i)
  | [], _ => rfl
  | _ :: _, 0 => rfl
  | n :: ns, i + 1 => congrArg (D.int n :: ·) (ints_erase ns i)
section
variable {P : Program} {w : World} {K : PySem.W.Frag} {mg : Str → Option Value} {base : Heap} {f : Addr} {fd : FuncData}
theorem ok_some (F : Fun K "_law_some" "_law_some" sSome f fd) (T : TL mg) (ct : Cf P w K mg base 1 "_law_take" [] rTake) : FnOk P w K mg base (L2.CX P w) 2 f fd ["pot", "pool", "many"] (spD K rSome) := by
  refine fn_D (k := 1) F scSome (fun ss μ r μ' h => by obtain ⟨j, p, ns, n, _, _, _, rfl, _⟩ := h; rfl) ?_
  intro cdv A0 outer s0 H E N W ss μ r μ' g hA hR
  obtain ⟨j, p0, ns, n, hp, hn, h10, rfl, hj, rfl, rfl⟩ := hR
  have hone : ∀ k t d δ, (∃ x5, δ = [some (.l j), some (.p (.lst (intD ns))), some (.p (.int (n : Int))), some (.l μ.length), some (.l (μ.length + 1)), x5]) → (t.p.ok (850 - (k + 1)) ∧ k + 1 ≤ t.rest.length ∧ t.rest.length ≤ 10 ∧ t.found.length ≤ 20 - (k + 1) ∧ k + 1 ≤ 10) → (((smX t).p.ok (850 - k) ∧ k ≤ (smX t).rest.length ∧ (smX t).rest.length ≤ 10 ∧ (smX t).found.length ≤ 20 - k ∧ k ≤ 10)) ∧
      ∃ δt δ1, (asName 5) d δ = some δt ∧ DSs (cxOf (L2.CX P w) P w K mg base ["pot", "pool", "many", "rest", "found", "lap"] "_law_some" (defScope sSome) f cdv A0 outer s0 H E) N W δt (muS j μ t) (bodyOf sSome 1) (.nx δ1 (muS j μ (smX t))) ∧ (∃ x5, δ1 = [some (.l j), some (.p (.lst (intD ns))), some (.p (.int (n : Int))), some (.l μ.length), some (.l (μ.length + 1)), x5]) := by
    rintro k ⟨p, rs, fo⟩ d _ ⟨x5, rfl⟩ ⟨ok, hk, h10', hf, hk10⟩
    simp only at ok hk h10' hf
    have hi := takeF_lt (p := p) (u := (rs.length : Int)) (by omega)
    have hi' : smI ⟨p, rs, fo⟩ < rs.length := by show (takeF p (rs.length : Int)).1.toNat < _; omega
    have lr : (intD rs).length = rs.length := List.length_map ..
    have eI : (takeF p (rs.length : Int)).1 = ((smI ⟨p, rs, fo⟩ : Nat) : Int) := by show _ = (((takeF p (rs.length : Int)).1.toNat : Nat) : Int); omega
    have hx : (intD rs)[smI ⟨p, rs, fo⟩]? = some (.int (rs.getD (smI ⟨p, rs, fo⟩) 0)) := by
      unfold intD
      rw [List.getElem?_map, List.getElem?_eq_getElem hi', List.getD_eq_getElem?_getD, List.getElem?_eq_getElem hi']
      rfl
    refine ⟨⟨(takeF_ok ok).mono (by omega), ?_, ?_, ?_, by omega⟩, _, _, rfl, dss_cons (ds_expr (de_bm PySem.F.plainAttrs_list PySem.F.slot_list_append PySem.F.type_list_append (de_var 4) (da_cons
        (de_bm PySem.F.plainAttrs_list PySem.F.slot_list_pop PySem.F.type_list_pop (de_var 3) (da_cons (de_call g ct (da_cons (de_var 0) (da_cons (de_of (de_callB (id := "len") (da_cons (de_var 3) da_nil) (c_lenM ms_r) T.len (by decide +kernel)) (by rw [lr])) da_nil)) ⟨j, p, (rs.length : Int), ok.mono (by omega), by omega, by omega, rfl, ms_at hj, rfl, (ms_set hj).symm⟩) da_nil)
          (m_popAt (q := smI ⟨p, rs, fo⟩) ms_r ms_r (by omega) (by rw [lr, eI, seqIndex_of (by omega) (by omega), Int.toNat_natCast]) hx)) da_nil)
        (m_append ms_f (by rw [ints_erase, ms_rset]; exact ms_f) (by show (intD fo).length < _; unfold intD; rw [List.length_map]; exact size4' (by omega))))) (cn (Eq.mp (congrArg (fun ν => DSs _ N W _ ν [] _) ?_) dss_nil)), _, rfl⟩
    · show k ≤ (rs.eraseIdx _).length
      rw [List.length_eraseIdx]
      split <;> omega
    · show (rs.eraseIdx _).length ≤ 10
      rw [List.length_eraseIdx]
      split <;> omega
    · show (fo ++ [_]).length ≤ _
      rw [List.length_append]
      show fo.length + 1 ≤ _
      omega
    · rw [ints_erase, ms_rset, show intD fo ++ [D.int (rs.getD (smI ⟨p, rs, fo⟩) 0)] = intD (fo ++ [rs.getD (smI ⟨p, rs, fo⟩) 0]) from by simp [intD], ms_fset]
      rfl
  have e0 : muS j μ ⟨p0, ns, []⟩ = (μ ++ [.lst (intD ns)]) ++ [.lst []] := by
    unfold muS
    rw [set_self hj, List.append_assoc]
    rfl
  obtain ⟨δ', hl, ⟨x5, rfl⟩, hI⟩ := loop_st (X := cxOf (L2.CX P w) P w K mg base ["pot", "pool", "many", "rest", "found", "lap"] "_law_some" (defScope sSome) f cdv A0 outer s0 H E) (N := N) (W := W) (f := asName 5) (body := bodyOf sSome 1) (T := SmT) (mu := muS j μ) (nx := smX)
    (fun k t => t.p.ok (850 - k) ∧ k ≤ t.rest.length ∧ t.rest.length ≤ 10 ∧ t.found.length ≤ 20 - k ∧ k ≤ 10) (fun t δ => ∃ x5, δ = [some (.l j), some (.p (.lst (intD ns))), some (.p (.int (n : Int))), some (.l μ.length), some (.l (μ.length + 1)), x5]) hone (rangeD 0 n) [some (.l j), some (.p (.lst (intD ns))), some (.p (.int (n : Int))), some (.l μ.length), some (.l (μ.length + 1)), none] ⟨p0, ns, []⟩ ⟨_, rfl⟩
    (by
      have e : (rangeD 0 n).length = n := by simp [rangeD]
      rw [e]
      exact ⟨hp.mono (by omega), hn, h10, by simp, by omega⟩)
  have eN : (rangeD 0 n).length = n := by simp [rangeD]
  rw [eN] at hl
  have hfr : (muS j μ (iter smX n ⟨p0, ns, []⟩))[μ.length + 1]? = some (.lst (intD (smR n p0 ns).found)) := ms_f
  refine ⟨_, dss_cons (ds_par 3 4 g (da_cons (de_callT (T := "list") (da_cons (de_var 1) da_nil) c_listM T.list (by decide +kernel)) (da_cons (de_ofS (s' := .l (μ.length + 1)) (de_lstM (ds := []) dp_nil) (by simp)) da_nil))) (cn
    (Eq.mp (congrArg (fun ν => DSs _ N W _ ν _ _) e0) (dss_cons (ds_for g (di_range1 (j := (n : Int)) (da_cons (de_var 2) da_nil) T.range (by omega)) (dg_name 5 g.nd) hl) (cn
    (dss_freeze hfr (by omega) 4 rfl (dss_ret (de_var 4))))))), ?_⟩
  have e2 : ((muS j μ (iter smX n ⟨p0, ns, []⟩)).set (μ.length + 1) .gone).take μ.length = μ.set j (smR n p0 ns).p.m := by
    unfold muS
    rw [List.set_append_right _ _ (by simp), List.take_left' (by simp)]
    rfl
  rw [← e2]
  exact .rtT (Nat.le_refl _)
end
end K9

set_option Elab.async false
set_option linter.all false
set_option maxRecDepth 100000
set_option maxHeartbeats 4000000
set_option autoImplicit false
namespace K9
open PySem PySem.Spec PyProof.Rows L2 Dl
/-! ## letters at some places, I elsewhere -/
def natsI (w : Nat) : List Int := (List.range w).map fun i : Nat => (i : Int)
def hsF (w : Nat) (ns : List Int) : List Int := (natsI w).filter fun k => decide (k ∈ ns)
def loneF (w : Nat) (hs : List Int) (L : List Nat) : List Nat := (List.range w).map fun i : Nat => atZ hs L (i : Int)
def combos (n : Nat) : List (Nat × List Int) := (List.range 5).flatMap fun w => if n ≤ w then (chooseAll n (natsI w)).map fun x => (w, x) else []
def ckC (n : Nat) (q : Nat × List Int) : Bool := decide ((hsF q.1 q.2).length = n) && decide ((hsF q.1 q.2).Pairwise (· < ·)) && q.2.all (fun k => decide (k ∈ natsI q.1)) && decide (q.1 ≤ 4)
theorem ckAll {n : Nat} (h1 : 1 ≤ n) (h4 : n ≤ 4) {q : Nat × List Int} (hq : q ∈ combos n) : ckC n q = true := by
  have z : ∀ n ∈ [1, 2, 3, 4], (combos n).all (ckC n) = true := by decide +kernel
  have := z n (by simp; omega)
  rw [List.all_eq_true] at this
  exact this q hq
def tkI (n : Nat) (p : Pot) : Nat := (takeF p (5 - (n : Int))).1.toNat
def amW (n : Nat) (p : Pot) : Nat := n + tkI n p
def amS (n : Nat) (p : Pot) : SmT := smR n (takeF p (5 - (n : Int))).2 (natsI (amW n p))
def amH (n : Nat) (p : Pot) : List Int := hsF (amW n p) (amS n p).found
def amP (n : Nat) (p : Pot) : Pot := (amS n p).p
theorem amW_le {n : Nat} (p : Pot) (h4 : n ≤ 4) : amW n p ≤ 4 := by
  have h := takeF_lt (p := p) (u := 5 - (n : Int)) (by omega)
  unfold amW tkI
  omega
theorem natsI_len (w : Nat) : (natsI w).length = w := by simp [natsI]
theorem am_in {n : Nat} (p : Pot) (h4 : n ≤ 4) : (amW n p, (amS n p).found) ∈ combos n := by
  have hw := amW_le p h4
  obtain ⟨x, h1, h2⟩ := sm_in n ⟨(takeF p (5 - (n : Int))).2, natsI (amW n p), []⟩ (by show n ≤ (natsI (amW n p)).length; rw [natsI_len]; unfold amW; omega)
  unfold combos
  rw [List.mem_flatMap]
  refine ⟨amW n p, List.mem_range.mpr (by omega), ?_⟩
  rw [if_pos (show n ≤ amW n p by unfold amW; omega)]
  refine List.mem_map.mpr ⟨x, h1, ?_⟩
  rw [show (amS n p).found = x from h2]
structure AmOk (n : Nat) (p : Pot) : Prop where
  len : (amH n p).length = n
  asc : (amH n p).Pairwise (· < ·)
  mem : ∀ k, k ∈ amH n p ↔ k ∈ (amS n p).found
  nod : (amH n p).Nodup
  few : (amS n p).found.length ≤ 100
theorem choose_len : ∀ (n : Nat) (ns x : List Int), x ∈ chooseAll n ns → x.length = n
  | 0, _, x, h => by rw [List.mem_singleton.mp h]; rfl
  | n + 1, ns, x, h => by
    obtain ⟨i, _, h2⟩ := List.mem_flatMap.mp (show x ∈ (List.range ns.length).flatMap _ from h)
    obtain ⟨y, h3, rfl⟩ := List.mem_map.mp h2
    rw [List.length_cons, choose_len n _ y h3]
theorem am_ok {n : Nat} (p : Pot) (h1 : 1 ≤ n) (h4 : n ≤ 4) : AmOk n p := by
  have hin := am_in p h4
  have h := ckAll h1 h4 hin
  unfold ckC at h
  simp only [Bool.and_eq_true, decide_eq_true_eq, List.all_eq_true] at h
  obtain ⟨⟨⟨a1, a2⟩, a3⟩, a4⟩ := h
  refine ⟨a1, a2, fun k => ?_, a2.imp fun h => Int.ne_of_lt h, ?_⟩
  · unfold amH hsF
    rw [List.mem_filter]
    simp only [decide_eq_true_eq]
    exact ⟨fun h => h.2, fun h => ⟨a3 k h, h⟩⟩
  · unfold combos at hin
    obtain ⟨w, _, h2⟩ := List.mem_flatMap.mp hin
    split at h2
    · obtain ⟨x, h3, h5⟩ := List.mem_map.mp h2
      have e := congrArg Prod.snd h5
      have := choose_len n _ x h3
      rw [← show x = (amS n p).found from e]
      omega
    · cases h2
theorem amP_ok {n m : Nat} {p : Pot} (h : p.ok m) : (amP n p).ok (m + 1 + n) := sm_ok n (m + 1) _ (takeF_ok h)
theorem lone_len (w : Nat) (hs : List Int) (L : List Nat) : (loneF w hs L).length = w := by simp [loneF]
theorem scLone : FnScope ["wires", "places", "wire"] ["wires", "places"] (defScope sLone) := ⟨rfl, rfl, rfl, by decide +kernel, rfl, by decide +kernel, by decide +kernel⟩
theorem scAmong : FnScope ["pot", "letters", "signs", "wires", "places", "found", "row", "sign", "table"] ["pot", "letters", "signs"] (defScope sAmong) := ⟨rfl, rfl, rfl, by decide +kernel, rfl, by decide +kernel, by decide +kernel⟩
theorem scLaid : FnScope ["wires", "places", "row", "sign"] ["wires", "places", "row", "sign"] (defScope sLaid) := ⟨rfl, rfl, rfl, by decide +kernel, rfl, by decide +kernel, by decide +kernel⟩
structure TZ (mg : Str → Option Value) : Prop where
  zip : mg "zip" = none
  list : mg "list" = none
  dict : mg "dict" = none
  sorted : mg "sorted" = none
  set : mg "set" = none
def rLone : Rel := fun ss μ r μ' => ∃ (w : Nat) (hs : List Int) (L : List Nat), w ≤ 4 ∧ hs.length = L.length ∧ ss = [.p (.int (w : Int)), .p (.dic (hs.map Sum.inl) (L.map chD))] ∧ r = .v (.p (.str (st (loneF w hs L)))) ∧ μ' = μ
def rLaid : Rel := fun ss μ r μ' => ∃ (w : Nat) (hs : List Int) (L : List Nat) (s : Int), w ≤ 4 ∧ hs.length = L.length ∧ hs.Nodup ∧ hs.length ≤ 4 ∧ ss = [.p (.int (w : Int)), .p (.lst (intD hs)), .p (.str (st L)), .p (.int s)] ∧ r = .v (.p (.str (sgn (loneF w hs L) s))) ∧ μ' = μ
def rAmong : Rel := fun ss μ r μ' => ∃ (j : Nat) (p : Pot) (A B : List Nat), p.ok 700 ∧ 1 ≤ A.length ∧ A.length ≤ 4 ∧ B.length = A.length ∧ μ[j]? = some p.m ∧ ss = [.l j, .p (.str (st A)), .p (.str (st B))] ∧
  r = .v (.p (.tup [.int (amW A.length p : Nat), .lst (intD (amH A.length p)), .lst [.str (st (loneF (amW A.length p) (amH A.length p) A)), .str (st (loneF (amW A.length p) (amH A.length p) B))]])) ∧ μ' = μ.set j (amP A.length p).m
section
variable {P : Program} {w : World} {K : PySem.W.Frag} {mg : Str → Option Value} {base : Heap} {f : Addr} {fd : FuncData}
theorem ok_lone (F : Fun K "_law_lone" "_law_lone" sLone f fd) (T : TL mg) : FnOk P w K mg base (L2.CX P w) 1 f fd ["wires", "places"] (spD K rLone) := by
  refine fn_D (k := 0) F scLone (fun ss μ r μ' h => by obtain ⟨w, hs, L, _, _, rfl, _⟩ := h; rfl) ?_
  intro cdv A0 outer s0 H E N W ss μ r μ' g hA hR
  obtain ⟨w, hs, L, hw, hl, rfl, rfl, rfl⟩ := hR
  refine ⟨_, dss_ret (de_bm PySem.F.plainAttrs_str PySem.F.slot_str_join PySem.F.type_str_join de_str (da_cons (de_lc g [("wire", 2)] (di_range1 (j := (w : Int)) (da_cons (de_var 0) da_nil) T.range (by omega)) (fun s H C cl fp => dg_name 2 g.nd)
      (of_maps (gd := fun i : Nat => D.int ((0 : Int) + (i : Nat))) (fy := fun i : Nat => .str ⟨#[atZ hs L (i : Int)]⟩) fun i hi => ⟨_, rfl, fun s H C cl fp N' hK g' => de_dget2 g' (de_var 1) (de_of (de_var 2) (congrArg D.int (Int.zero_add _))) de_str⟩) (ok := blkOk_by (by rfl)) (hds := ?_)) da_nil) (m_joinm ?_)), .rt⟩
  · unfold rangeD
    rw [List.length_map, List.length_range]
    exact size4' (by show (w : Int).toNat ≤ _; omega)
  · rw [List.length_range]
    show (w : Int).toNat ≤ 100
    omega
theorem str_empty (L : List Nat) : Str.ofString "" ++ st L = st L := by
  show Str.append _ _ = _
  have e0 : (Str.ofString "").cps = #[] := rfl
  simp [Str.append, e0, Dl.st]
theorem end_at {μ : List M} {a : M} {k : Nat} (h : μ.length = k) : (μ ++ [a])[k]? = some a := by
  subst h
  rw [List.getElem?_append_right (Nat.le_refl _), Nat.sub_self]
  rfl
theorem end_set {μ : List M} {a b : M} {k : Nat} (h : μ.length = k) : μ ++ [b] = (μ ++ [a]).set k b := by
  subst h
  rw [List.set_append_right _ _ (Nat.le_refl _)]
  simp
theorem ok_among (F : Fun K "_law_among" "_law_among" sAmong f fd) (T : TL mg) (Z : TZ mg) (ct : Cf P w K mg base 1 "_law_take" [] rTake) (cs : Cf P w K mg base 2 "_law_some" [] rSome) (cl_ : Cf P w K mg base 1 "_law_lone" [] rLone) :
    FnOk P w K mg base (L2.CX P w) 3 f fd ["pot", "letters", "signs"] (spD K rAmong) := by
  refine fn_D (k := 2) F scAmong (fun ss μ r μ' h => by obtain ⟨j, p, A, B, _, _, _, _, _, rfl, _⟩ := h; rfl) ?_
  intro cdv A0 outer s0 H E N W ss μ r μ' g hA hR
  obtain ⟨j, p, A, B, hp, h1, h4, hB, hj, rfl, rfl, rfl⟩ := hR
  have hk := am_ok p h1 h4
  have hw := amW_le p h4
  have ht := takeF_lt (p := p) (u := 5 - (A.length : Int)) (by omega)
  have hln : (μ.set j (amP A.length p).m).length = μ.length := by simp
  have eW : (A.length : Int) + (takeF p (5 - (A.length : Int))).1 = ((amW A.length p : Nat) : Int) := by unfold amW tkI; omega
  have eR : rangeD 0 (((amW A.length p : Nat) : Int)).toNat = intD (natsI (amW A.length p)) := by
    unfold rangeD intD natsI
    rw [List.map_map, Int.toNat_natCast]
    congr 1
    funext i
    show D.int (0 + (i : Int)) = D.int (i : Int)
    rw [Int.zero_add]
  have lenA := st_len A
  have szl : ∀ L : List Nat, (Str.ofString "").length + (st (loneF (amW A.length p) (amH A.length p) L)).length ≤ sizeLine := fun L => by
    rw [st_len, lone_len]
    exact size4 (by show 0 + _ ≤ _; omega)
  have hloop : Loop (cxOf (L2.CX P w) P w K mg base ["pot", "letters", "signs", "wires", "places", "found", "row", "sign", "table"] "_law_among" (defScope sAmong) f cdv A0 outer s0 H E) N W (asTup [asName 6, asName 7]) (bodyOf sAmong 3) [.tup [.str (st A), .str (Str.ofString "")], .tup [.str (st B), .str (Str.ofString "")]]
      [some (.l j), some (.p (.str (st A))), some (.p (.str (st B))), some (.p (.int (amW A.length p : Nat))), some (.p (.lst (intD (amH A.length p)))), some (.l μ.length), none, none, none] (μ.set j (amP A.length p).m ++ [.lst []])
      (.nx [some (.l j), some (.p (.str (st A))), some (.p (.str (st B))), some (.p (.int (amW A.length p : Nat))), some (.p (.lst (intD (amH A.length p)))), some (.l μ.length), some (.p (.str (st B))), some (.p (.str (Str.ofString ""))), some (.p (.dic ((amH A.length p).map Sum.inl) (B.map chD)))]
        (μ.set j (amP A.length p).m ++ [.lst [.str (st (loneF (amW A.length p) (amH A.length p) A)), .str (st (loneF (amW A.length p) (amH A.length p) B))]])) := by
    refine .next (μ1 := μ.set j (amP A.length p).m ++ [.lst [.str (st (loneF (amW A.length p) (amH A.length p) A))]]) rfl (dss_cons (ds_set 8 (de_dzip g (da_cons (de_var 4) (da_cons (de_var 6) da_nil)) hk.len hk.nod (by rw [hk.len]; omega) Z.zip Z.list Z.dict) g.nd) (cn
      (dss_cons (ds_expr (de_bm PySem.F.plainAttrs_list PySem.F.slot_list_append PySem.F.type_list_append (de_var 5) (da_cons (de_of (d' := .str (st (loneF (amW A.length p) (amH A.length p) A))) (de_bin (de_var 7) (de_call g cl_ (da_cons (de_var 3) (da_cons (de_var 8) da_nil)) ⟨_, _, A, hw, hk.len, rfl, rfl, rfl⟩) (o_addS (szl A))) (congrArg D.str (str_empty _))) da_nil)
        (m_append (ds := []) (end_at hln) (end_at hln) (size4' (by show 0 ≤ 100; decide))))) (cn (Eq.mp (congrArg (fun ν => DSs _ N W _ ν [] _) (end_set hln)) dss_nil))))) ?_
    refine .next (μ1 := μ.set j (amP A.length p).m ++ [.lst [.str (st (loneF (amW A.length p) (amH A.length p) A)), .str (st (loneF (amW A.length p) (amH A.length p) B))]]) rfl (dss_cons (ds_set 8 (de_dzip g (da_cons (de_var 4) (da_cons (de_var 6) da_nil)) (hk.len.trans hB.symm) hk.nod (by rw [hk.len]; omega) Z.zip Z.list Z.dict) g.nd) (cn
      (dss_cons (ds_expr (de_bm PySem.F.plainAttrs_list PySem.F.slot_list_append PySem.F.type_list_append (de_var 5) (da_cons (de_of (d' := .str (st (loneF (amW A.length p) (amH A.length p) B))) (de_bin (de_var 7) (de_call g cl_ (da_cons (de_var 3) (da_cons (de_var 8) da_nil)) ⟨_, _, B, hw, hk.len.trans hB.symm, rfl, rfl, rfl⟩) (o_addS (szl B))) (congrArg D.str (str_empty _))) da_nil)
        (m_append (ds := [.str (st (loneF (amW A.length p) (amH A.length p) A))]) (end_at hln) (end_at hln) (size4' (by show 1 ≤ 100; decide))))) (cn (Eq.mp (congrArg (fun ν => DSs _ N W _ ν [] _) (end_set hln)) dss_nil))))) .nil
  refine ⟨_, dss_cons (ds_set 3 (de_of (d' := .int ((amW A.length p : Nat) : Int)) (de_bin (de_of (de_callB (id := "len") (da_cons (de_var 1) da_nil) (c_lenS (by rw [st_len]; exact size4 (by omega))) T.len (by decide +kernel)) (congrArg (fun n : Nat => D.int n) (st_len A)))
        (de_call g ct (da_cons (de_var 0) (da_cons (de_bin de_int (de_of (de_callB (id := "len") (da_cons (de_var 1) da_nil) (c_lenS (by rw [st_len]; exact size4 (by omega))) T.len (by decide +kernel)) (congrArg (fun n : Nat => D.int n) (st_len A))) o_sub) da_nil)) ⟨j, p, 5 - (A.length : Int), hp.mono (by omega), by omega, by omega, rfl, hj, rfl, rfl⟩) o_add) (congrArg D.int eW)) g.nd) (cn
    (dss_cons (ds_set 4 (de_sortedSet (ns := (amS A.length p).found) (hs := amH A.length p) g (de_call g cs (da_cons (de_var 0) (da_cons (de_of (de_listRg g (de_var 3) T.list T.range (by omega)) (congrArg D.lst eR)) (da_cons (de_of (de_callB (id := "len") (da_cons (de_var 1) da_nil) (c_lenS (by rw [st_len]; exact size4 (by omega))) T.len (by decide +kernel)) (congrArg (fun n : Nat => D.int n) (st_len A))) da_nil)))
        ⟨j, (takeF p (5 - (A.length : Int))).2, natsI (amW A.length p), A.length, (takeF_ok hp).mono (by omega), by rw [natsI_len]; unfold amW; omega, by rw [natsI_len]; omega, rfl, set_at hj, rfl, (show μ.set j (amP A.length p).m = (μ.set j (takeF p (5 - (A.length : Int))).2.m).set j (amP A.length p).m from (List.set_set ..).symm)⟩) ?few hk.asc hk.mem Z.sorted Z.set) g.nd) (cn
    (dss_cons (ds_set 5 (de_ofS (s' := .l μ.length) (de_lstM (ds := []) dp_nil) (by simp)) g.nd) (cn
    (dss_cons (ds_for g (di_zip g (da_cons (de_tup (dp_cons (de_var 1) (dp_cons (de_var 2) dp_nil))) (da_cons (de_tup (dp_cons de_str (dp_cons de_str dp_nil))) da_nil)) (.tup _) (.tup _) Z.zip) (dg_tup (dgs_cons (dg_name 6 g.nd) (dgs_cons (dg_name 7 g.nd) dgs_nil)) g.hK g.calm) hloop) (cn
    (dss_freeze (end_at hln) (by omega) 5 rfl (dss_ret (de_tup (dp_cons (de_var 3) (dp_cons (de_var 4) (dp_cons (de_var 5) dp_nil))))))))))))), ?_⟩
  case few =>
    have := hk.few
    have e : (amS A.length p).found.length = A.length := by
      have hin := am_in p h4
      unfold combos at hin
      obtain ⟨w', _, h2⟩ := List.mem_flatMap.mp hin
      split at h2
      · obtain ⟨x, h3, h5⟩ := List.mem_map.mp h2
        rw [← show x = (amS A.length p).found from congrArg Prod.snd h5]
        exact choose_len _ _ x h3
      · cases h2
    omega
  · rw [← end_set hln]
    have e2 : (μ.set j (amP A.length p).m ++ [M.gone]).take μ.length = μ.set j (amP A.length p).m := by rw [List.take_left' (by simp)]
    conv => rhs; rw [← e2]
    exact .rtT (Nat.le_refl _)
theorem ok_laid (F : Fun K "_law_laid" "_law_laid" sLaid f fd) (T : TL mg) (Z : TZ mg) (cl_ : Cf P w K mg base 1 "_law_lone" [] rLone) : FnOk P w K mg base (L2.CX P w) 2 f fd ["wires", "places", "row", "sign"] (spD K rLaid) := by
  refine fn_D (k := 1) F scLaid (fun ss μ r μ' h => by obtain ⟨w, hs, L, s, _, _, _, _, rfl, _⟩ := h; rfl) ?_
  intro cdv A0 outer s0 H E N W ss μ r μ' g hA hR
  obtain ⟨w, hs, L, s, hw, hl, hn, h4, rfl, rfl, rfl⟩ := hR
  refine ⟨_, dss_ret (de_of (de_bin (de_bin de_str (de_callT (T := "int") (da_cons (de_cmp (de_var 3) de_int o_lt) da_nil) c_intB T.int (by decide +kernel)) o_mulS) (de_call g cl_ (da_cons (de_var 0) (da_cons (de_dzip g (da_cons (de_var 1) (da_cons (de_var 2) da_nil)) hl hn (by omega) Z.zip Z.list Z.dict) da_nil)) ⟨w, hs, L, hw, hl, rfl, rfl, rfl⟩) (o_addS ?_)) (congrArg D.str (sgn_made _ s))), .rt⟩
  rw [st_len, lone_len]
  split
  · show 1 + _ ≤ _
    exact size4 (by omega)
  · show 0 + _ ≤ _
    exact size4 (by omega)
end
end K9

set_option Elab.async false
set_option linter.all false
set_option maxRecDepth 100000
set_option maxHeartbeats 4000000
set_option autoImplicit false
namespace K9
open PySem PySem.Spec PyProof.Rows L2 Dl
/-! ## the tables by hand, at all places: all of them are gone through -/
structure Row where
  A : List Nat
  B : List Nat
  R : List Nat
  s : Int
def areB (L : List Nat) : Bool := (decide (1 ≤ L.length) && decide (L.length ≤ 4)) && L.all fun c => decide (c ∈ IXYZ)
theorem ok_areB {L : List Nat} (h : areB L = true) : okL L := by
  unfold areB at h
  simp only [Bool.and_eq_true, decide_eq_true_eq, List.all_eq_true] at h
  exact ⟨h.1.1, h.1.2, h.2⟩
def ckB (t : Row) (q : Nat × List Int) : Bool :=
  areB (loneF q.1 (hsF q.1 q.2) t.A) && areB (loneF q.1 (hsF q.1 q.2) t.B) && decide (qs (loneF q.1 (hsF q.1 q.2) t.A) (loneF q.1 (hsF q.1 q.2) t.B) % 2 ≠ 0) &&
  decide (mk (loneF q.1 (hsF q.1 q.2) t.A) (loneF q.1 (hsF q.1 q.2) t.B) = loneF q.1 (hsF q.1 q.2) t.R) && decide (bes 1 1 (qs (loneF q.1 (hsF q.1 q.2) t.A) (loneF q.1 (hsF q.1 q.2) t.B) + 1) = t.s) &&
  decide (qs (loneF q.1 (hsF q.1 q.2) t.B) (loneF q.1 (hsF q.1 q.2) t.A) % 2 ≠ 0) &&
  decide (mk (loneF q.1 (hsF q.1 q.2) t.B) (loneF q.1 (hsF q.1 q.2) t.A) = loneF q.1 (hsF q.1 q.2) t.R) && decide (bes 1 1 (qs (loneF q.1 (hsF q.1 q.2) t.B) (loneF q.1 (hsF q.1 q.2) t.A) + 1) = -t.s)
def ckM (t : Row) (q : Nat × List Int) : Bool :=
  areB (loneF q.1 (hsF q.1 q.2) t.A) && areB (loneF q.1 (hsF q.1 q.2) t.B) && decide (qs (loneF q.1 (hsF q.1 q.2) t.A) (loneF q.1 (hsF q.1 q.2) t.B) % 2 = 0) &&
  decide (mk (loneF q.1 (hsF q.1 q.2) t.A) (loneF q.1 (hsF q.1 q.2) t.B) = loneF q.1 (hsF q.1 q.2) t.R) && decide (bes 1 1 (qs (loneF q.1 (hsF q.1 q.2) t.A) (loneF q.1 (hsF q.1 q.2) t.B)) = t.s)
def lenB (t : Row) : Bool := decide (1 ≤ t.A.length) && decide (t.A.length ≤ 4) && decide (t.B.length = t.A.length) && decide (t.R.length = t.A.length) && (decide (t.s = 1) || decide (t.s = -1))
def tx (s : String) : List Nat := s.toList.map Char.toNat
def mkRow (a b r : String) (s : Int) : Row := ⟨tx a, tx b, tx r, s⟩
def bendsR : List Row := [⟨[88], [89], [90], -1⟩, ⟨[89], [90], [88], -1⟩, ⟨[90], [88], [89], -1⟩, ⟨[89], [88], [90], 1⟩, ⟨[88], [90], [89], 1⟩,
  ⟨[88, 88, 88], [90, 90, 90], [89, 89, 89], -1⟩, ⟨[88, 88, 88], [89, 89, 89], [90, 90, 90], 1⟩, ⟨[88, 88, 90], [90, 90, 88], [89, 89, 89], 1⟩, ⟨[88, 89], [89, 89], [90, 73], -1⟩,
  ⟨[90, 73, 90, 90], [88, 88, 88, 88], [89, 88, 89, 89], 1⟩, ⟨[88, 89, 90], [89, 89, 73], [90, 73, 90], -1⟩]
def rowsR : List Row := [⟨[88], [88], [73], 1⟩, ⟨[88, 88], [90, 90], [89, 89], -1⟩, ⟨[88, 88], [89, 89], [90, 90], -1⟩, ⟨[88, 90], [90, 88], [89, 89], 1⟩, ⟨[88, 89], [89, 88], [90, 90], 1⟩,
  ⟨[88, 88, 88, 88], [90, 90, 90, 90], [89, 89, 89, 89], 1⟩, ⟨[88, 88, 88, 88], [89, 89, 89, 89], [90, 90, 90, 90], 1⟩, ⟨[88, 88, 88, 90], [90, 90, 90, 88], [89, 89, 89, 89], -1⟩,
  ⟨[88, 89, 90], [88, 89, 90], [73, 73, 73], 1⟩, ⟨[73, 88], [90, 73], [90, 88], 1⟩, ⟨[88, 89, 73], [89, 88, 90], [90, 90, 90], 1⟩, ⟨[90, 90], [89, 89], [88, 88], -1⟩]
theorem bends_ok : ∀ t ∈ bendsR, lenB t = true ∧ ∀ q ∈ combos t.A.length, ckB t q = true := by
  have z : bendsR.all (fun t => lenB t && (combos t.A.length).all (ckB t)) = true := by decide +kernel
  simp only [List.all_eq_true, Bool.and_eq_true] at z
  exact z
theorem rows_ok : ∀ t ∈ rowsR, lenB t = true ∧ ∀ q ∈ combos t.A.length, ckM t q = true := by
  have z : rowsR.all (fun t => lenB t && (combos t.A.length).all (ckM t)) = true := by decide +kernel
  simp only [List.all_eq_true, Bool.and_eq_true] at z
  exact z
abbrev sTextP : Stmt := inClass (top 11) 1
theorem scTextP : FnScope ["self"] ["self"] (defScope sTextP) := ⟨rfl, rfl, rfl, by decide +kernel, rfl, by decide +kernel, by decide +kernel⟩
def rTextP (C : Addr) : Rel := fun ss μ r μ' => ∃ (L : List Nat) (s : Int), okL L ∧ ss = [.p (wd C L s)] ∧ r = .v (.p (.str (sgn L s))) ∧ μ' = μ
theorem scBR : FnScope ["pot", "one", "other", "due", "sign", "wires", "places", "texts", "here", "there"] ["pot", "one", "other", "due", "sign"] (defScope sBR) := ⟨rfl, rfl, rfl, by decide +kernel, rfl, by decide +kernel, by decide +kernel⟩
theorem scMR : FnScope ["pot", "one", "other", "due", "sign", "wires", "places", "texts", "told"] ["pot", "one", "other", "due", "sign"] (defScope sMR) := ⟨rfl, rfl, rfl, by decide +kernel, rfl, by decide +kernel, by decide +kernel⟩
theorem scR : FnScope ["pot", "bends", "rows", "one", "other", "due", "sign"] ["pot"] (defScope sR) := ⟨rfl, rfl, rfl, by decide +kernel, rfl, by decide +kernel, by decide +kernel⟩
theorem scLaw : FnScope ["script", "place"] ["script"] (defScope sLaw) := ⟨rfl, rfl, rfl, by decide +kernel, rfl, by decide +kernel, by decide +kernel⟩
def rRow (l : List Row) : Rel := fun ss μ r μ' => ∃ (j : Nat) (p : Pot) (t : Row), t ∈ l ∧ p.ok 700 ∧ μ[j]? = some p.m ∧ ss = [.l j, .p (.str (st t.A)), .p (.str (st t.B)), .p (.str (st t.R)), .p (.int t.s)] ∧ r = .v (.p (.bl true)) ∧ μ' = μ.set j (amP t.A.length p).m
structure Wx (P : Program) (w : World) (K : PySem.W.Frag) (mg : Str → Option Value) (base : Heap) (C : Addr) : Prop where
  tc : TC K mg C
  tx : Cp P w K mg base 2 C "text" (rTextP C)
  ci : Ci P w K mg base 2 C "Word" [] (rInit C)
  bent : Cm P w K mg base 5 C "bent" [] (rBent C)
  mul : Cm P w K mg base 5 C "__mul__" [] (rMul C)
  neg : Cm P w K mg base 4 C "__neg__" [] (rNeg C)
  eq : Cm P w K mg base 1 C "__eq__" [] (rEq C)
  among : Cf P w K mg base 3 "_law_among" [] rAmong
  laid : Cf P w K mg base 2 "_law_laid" [] rLaid
section
variable {P : Program} {w : World} {K : PySem.W.Frag} {mg : Str → Option Value} {base : Heap} {f C : Addr} {fd : FuncData}
theorem ok_textP (F : Fun K "text" "Word.text" sTextP f fd) (T2 : TC K mg C) (cs : Cf P w K mg base 1 "signed_text" [] rSigned) : FnOk P w K mg base (L2.CX P w) 2 f fd ["self"] (spD K (rTextP C)) := by
  refine fn_D (k := 1) F scTextP (fun ss μ r μ' h => by obtain ⟨L, s, _, rfl, _⟩ := h; rfl) ?_
  intro cdv A0 outer s0 H E N W ss μ r μ' g hA hR
  obtain ⟨L, s, hL, rfl, rfl, rfl⟩ := hR
  exact ⟨_, dss_ret (de_call g cs (da_cons (de_fld (de_var 0) g T2.ci.cl T2.nL) (da_cons (de_fld (de_var 0) g T2.ci.cl T2.nS) da_nil)) ⟨L, s, hL.four, rfl, rfl, rfl⟩), .rt⟩
theorem st_one (L : List Nat) : st L = sgn L 1 := rfl
theorem ok_bentR (F : Fun K "_law_is_bent_right" "_law_is_bent_right" sBR f fd) (V : Wx P w K mg base C) : FnOk P w K mg base (L2.CX P w) 7 f fd ["pot", "one", "other", "due", "sign"] (spD K (rRow bendsR)) := by
  refine fn_D (k := 6) F scBR (fun ss μ r μ' h => by obtain ⟨j, p, t, _, _, _, rfl, _⟩ := h; rfl) ?_
  intro cdv A0 outer s0 H E N W ss μ r μ' g hA hR
  obtain ⟨j, p, t, ht, hp, hj, rfl, rfl, rfl⟩ := hR
  obtain ⟨hl, hck⟩ := bends_ok t ht
  unfold lenB at hl
  simp only [Bool.and_eq_true, Bool.or_eq_true, decide_eq_true_eq] at hl
  obtain ⟨⟨⟨⟨l1, l4⟩, lB⟩, lR⟩, ls⟩ := hl
  have h := hck _ (am_in p l4)
  have hk := am_ok p l1 l4
  have hw := amW_le p l4
  unfold ckB at h
  simp only [Bool.and_eq_true, decide_eq_true_eq] at h
  obtain ⟨⟨⟨⟨⟨⟨⟨c1, c2⟩, c3⟩, c4⟩, c5⟩, c6⟩, c7⟩, c8⟩ := h
  have hH : hsF (amW t.A.length p) (amS t.A.length p).found = amH t.A.length p := rfl
  simp only [hH] at c1 c2 c3 c4 c5 c6 c7 c8
  have hLA := ok_areB c1
  have hLB := ok_areB c2
  have hll : (loneF (amW t.A.length p) (amH t.A.length p) t.A).length = (loneF (amW t.A.length p) (amH t.A.length p) t.B).length := by rw [lone_len, lone_len]
  have p1 : pm 1 := .inl rfl
  have hm1 := mk_ok hLA hLB hll
  have hm2 := mk_ok hLB hLA hll.symm
  exact ⟨_, dss_cons (ds_asg (de_call g V.among (da_cons (de_var 0) (da_cons (de_var 1) (da_cons (de_var 2) da_nil))) ⟨j, p, t.A, t.B, hp, l1, l4, lB, hj, rfl, rfl, rfl⟩) (dg_tup (dgs_cons (dg_name 5 g.nd) (dgs_cons (dg_name 6 g.nd) (dgs_cons (dg_name 7 g.nd) dgs_nil))) g.hK g.calm) rfl) (cn
    (dss_cons (ds_par 8 9 g (da_cons (de_word g V.ci hLA p1 (de_of (de_ix (de_var 7) de_int (i_lst (i := 0) g rfl)) (congrArg D.str (st_one _)))) (da_cons (de_word g V.ci hLB p1 (de_of (de_ix (de_var 7) de_int (i_lst (i := 1) g rfl)) (congrArg D.str (st_one _)))) da_nil))) (cn
    (dss_skip (dt_of (dt_cmp (de_prop g V.tx (de_meth g V.bent (de_var 8) (da_cons (de_var 9) da_nil) ⟨_, _, 1, 1, hLA, hLB, hll, p1, p1, c3, rfl, rfl, rfl⟩) ⟨_, _, hm1, rfl, rfl, rfl⟩)
        (de_call g V.laid (da_cons (de_var 5) (da_cons (de_var 6) (da_cons (de_var 3) (da_cons (de_var 4) da_nil)))) ⟨_, _, t.R, t.s, hw, hk.len.trans lR.symm, hk.nod, by rw [hk.len]; exact l4, rfl, rfl, rfl⟩) o_neS) (by rw [c4, c5]; simp))
    (dss_ret (de_of (de_cmp (de_prop g V.tx (de_meth g V.bent (de_var 9) (da_cons (de_var 8) da_nil) ⟨_, _, 1, 1, hLB, hLA, hll.symm, p1, p1, c6, rfl, rfl, rfl⟩) ⟨_, _, hm2, rfl, rfl, rfl⟩)
        (de_call g V.laid (da_cons (de_var 5) (da_cons (de_var 6) (da_cons (de_var 3) (da_cons (de_un (de_var 4) u_neg) da_nil)))) ⟨_, _, t.R, -t.s, hw, hk.len.trans lR.symm, hk.nod, by rw [hk.len]; exact l4, rfl, rfl, rfl⟩) o_eqS) (by rw [c7, c8]; simp))))))), .rt⟩
theorem bes_neg1 (q : Int) : bes (-1) 1 q = -(bes 1 1 q) := by
  unfold bes
  split <;> rfl
theorem bes_pm11 (q : Int) : pm (bes 1 1 q) := bes_pm (.inl rfl) (.inl rfl)
theorem ok_madeR (F : Fun K "_law_is_made_right" "_law_is_made_right" sMR f fd) (V : Wx P w K mg base C) : FnOk P w K mg base (L2.CX P w) 7 f fd ["pot", "one", "other", "due", "sign"] (spD K (rRow rowsR)) := by
  refine fn_D (k := 6) F scMR (fun ss μ r μ' h => by obtain ⟨j, p, t, _, _, _, rfl, _⟩ := h; rfl) ?_
  intro cdv A0 outer s0 H E N W ss μ r μ' g hA hR
  obtain ⟨j, p, t, ht, hp, hj, rfl, rfl, rfl⟩ := hR
  obtain ⟨hl, hck⟩ := rows_ok t ht
  unfold lenB at hl
  simp only [Bool.and_eq_true, Bool.or_eq_true, decide_eq_true_eq] at hl
  obtain ⟨⟨⟨⟨l1, l4⟩, lB⟩, lR⟩, ls⟩ := hl
  have h := hck _ (am_in p l4)
  have hk := am_ok p l1 l4
  have hw := amW_le p l4
  unfold ckM at h
  simp only [Bool.and_eq_true, decide_eq_true_eq] at h
  obtain ⟨⟨⟨⟨c1, c2⟩, c3⟩, c4⟩, c5⟩ := h
  have hH : hsF (amW t.A.length p) (amS t.A.length p).found = amH t.A.length p := rfl
  simp only [hH] at c1 c2 c3 c4 c5
  have hLA := ok_areB c1
  have hLB := ok_areB c2
  have hll : (loneF (amW t.A.length p) (amH t.A.length p) t.A).length = (loneF (amW t.A.length p) (amH t.A.length p) t.B).length := by rw [lone_len, lone_len]
  have p1 : pm 1 := .inl rfl
  have hm1 := mk_ok hLA hLB hll
  exact ⟨_, dss_cons (ds_asg (de_call g V.among (da_cons (de_var 0) (da_cons (de_var 1) (da_cons (de_var 2) da_nil))) ⟨j, p, t.A, t.B, hp, l1, l4, lB, hj, rfl, rfl, rfl⟩) (dg_tup (dgs_cons (dg_name 5 g.nd) (dgs_cons (dg_name 6 g.nd) (dgs_cons (dg_name 7 g.nd) dgs_nil))) g.hK g.calm) rfl) (cn
    (dss_cons (ds_set 8 (de_binOwn (op := .Mult) g V.mul V.tc.sf (de_word g V.ci hLA p1 (de_of (de_ix (de_var 7) de_int (i_lst (i := 0) g rfl)) (congrArg D.str (st_one _)))) (de_word g V.ci hLB p1 (de_of (de_ix (de_var 7) de_int (i_lst (i := 1) g rfl)) (congrArg D.str (st_one _)))) ⟨_, _, 1, 1, hLA, hLB, hll, p1, p1, c3, rfl, rfl, rfl⟩) g.nd) (cn
    (dss_ret (de_of (d' := .bl true) (de_and (de_cmp (de_prop g V.tx (de_var 8) ⟨_, _, hm1, rfl, rfl, rfl⟩)
        (de_call g V.laid (da_cons (de_var 5) (da_cons (de_var 6) (da_cons (de_var 3) (da_cons (de_var 4) da_nil)))) ⟨_, _, t.R, t.s, hw, hk.len.trans lR.symm, hk.nod, by rw [hk.len]; exact l4, rfl, rfl, rfl⟩) o_eqS)
      (fun _ => de_one (de_eqOwn (q := true) g V.eq (.ins _ _ _) V.tc.nf (de_binOwn (op := .Mult) g V.mul V.tc.sf (de_negOwn g V.neg (de_word g V.ci hLA p1 (de_of (de_ix (de_var 7) de_int (i_lst (i := 0) g rfl)) (congrArg D.str (st_one _)))) ⟨_, 1, hLA, p1, rfl, rfl, rfl⟩)
          (de_word g V.ci hLB p1 (de_of (de_ix (de_var 7) de_int (i_lst (i := 1) g rfl)) (congrArg D.str (st_one _)))) ⟨_, _, -1, 1, hLA, hLB, hll, .inr rfl, p1, c3, rfl, rfl, rfl⟩)
        (de_negOwn g V.neg (de_var 8) ⟨_, _, hm1, bes_pm11 _, rfl, rfl, rfl⟩) ⟨_, _, _, _, rfl, by rw [bes_neg1]; simp, rfl⟩))) (by rw [c4, c5]; simp)))))), .rt⟩
end
end K9

set_option Elab.async false
set_option linter.all false
set_option maxRecDepth 100000
set_option maxHeartbeats 4000000
set_option autoImplicit false
namespace K9
open PySem PySem.Spec PyProof.Rows L2 Dl
def rowD (t : Row) : D := .tup [.str (st t.A), .str (st t.B), .str (st t.R), .int t.s]
def nxR (p : Pot) (t : Row) : Pot := amP t.A.length p
def finR (p : Pot) : Pot := rowsR.foldl nxR (bendsR.foldl nxR p)
def rR : Rel := fun ss μ r μ' => ∃ (j : Nat) (p : Pot), p.ok 0 ∧ ss = [.l j] ∧ μ[j]? = some p.m ∧ r = .v (.p (.bl true)) ∧ μ' = μ.set j (finR p).m
section
variable {X : Cx} {N : En} {W : WX} {δ : List (Option S)} {elt : Expr} {scope : Scope} {f : As} {nn : Nat} {K : PySem.W.Frag}
theorem of_fold {T α : Type} {gd : α → D} {y : α → D} {nx : T → α → T} {mu : T → List M} (I : Nat → T → Prop) : ∀ (l : List α) (t : T), I l.length t → (∀ a ∈ l, ∀ k t, I (k + 1) t → I k (nx t a) ∧ ∃ δt, f (gd a) δ = some δt ∧ DEB X K nn scope elt δt (mu t) (y a) (mu (nx t a))) →
    CmpL (El0 X K nn scope elt) f δ (l.map gd) (mu t) (l.map y) (mu (l.foldl nx t)) ∧ I 0 (l.foldl nx t)
  | [], t, hi, _ => ⟨.nil, hi⟩
  | a :: l, t, hi, h => by
    obtain ⟨h1, δt, h2, h3⟩ := h a List.mem_cons_self l.length t hi
    obtain ⟨h4, h5⟩ := of_fold I l (nx t a) h1 fun b hb => h b (List.mem_cons_of_mem _ hb)
    exact ⟨.keep h2 ⟨_, rfl, h3⟩ h4, h5⟩
theorem of_grow {α : Type} {gd : α → D} {y : α → D} {nx : α → List M → List M} : ∀ (l : List α) (μ : List M), (∀ a ∈ l, ∀ μ, ∃ δt, f (gd a) δ = some δt ∧ DEB X K nn scope elt δt μ (y a) (nx a μ)) → CmpL (El0 X K nn scope elt) f δ (l.map gd) μ (l.map y) (l.foldl (fun μ a => nx a μ) μ)
  | [], _, _ => .nil
  | a :: l, μ, h => by
    obtain ⟨δt, h2, h3⟩ := h a List.mem_cons_self μ
    exact .keep h2 ⟨_, rfl, h3⟩ (of_grow l _ fun b hb => h b (List.mem_cons_of_mem _ hb))
end
theorem rows_le {t : Row} (h : lenB t = true) : t.A.length ≤ 4 := by
  unfold lenB at h
  simp only [Bool.and_eq_true, decide_eq_true_eq] at h
  exact h.1.1.1.2
def growF (ns : List Int) (i : Nat) (μ : List M) : List M := (μ ++ [(potF ns i).m]).set μ.length (finR (potF ns i)).m
def rLaw : Rel := fun ss μ r μ' => ∃ (ns : List Int), ss = [.p (.sc ns)] ∧ r = .v (.p (.bl true)) ∧ μ' = μ
section
variable {P : Program} {w : World} {K : PySem.W.Frag} {mg : Str → Option Value} {base : Heap} {f : Addr} {fd : FuncData}
theorem ok_right (F : Fun K "_law_right" "_law_right" sR f fd) (T : TL mg) (cb : Cf P w K mg base 7 "_law_is_bent_right" [] (rRow bendsR)) (cm : Cf P w K mg base 7 "_law_is_made_right" [] (rRow rowsR)) : FnOk P w K mg base (L2.CX P w) 8 f fd ["pot"] (spD K rR) := by
  refine fn_D (k := 7) F scR (fun ss μ r μ' h => by obtain ⟨j, p, _, rfl, _⟩ := h; rfl) ?_
  intro cdv A0 outer s0 H E N W ss μ r μ' g hA hR
  obtain ⟨j, p0, hp, rfl, hj, rfl, rfl⟩ := hR
  have hI : ∀ (l : List Row), (∀ t ∈ l, lenB t = true) → ∀ a ∈ l, ∀ k (t : Pot), t.ok (650 - 10 * (k + 1)) ∧ k + 1 ≤ 60 → (nxR t a).ok (650 - 10 * k) ∧ k ≤ 60 := fun l hl a ha k t h => by
    have := rows_le (hl a ha)
    exact ⟨(amP_ok h.1).mono (by omega), by omega⟩
  have s1 : ∀ δ scope elt f', (∀ a ∈ bendsR, ∀ (t : Pot), t.ok 650 → ∃ δt, f' (rowD a) δ = some δt ∧ DEB (cxOf (L2.CX P w) P w K mg base ["pot", "bends", "rows", "one", "other", "due", "sign"] "_law_right" (defScope sR) f cdv A0 outer s0 H E) N.K 7 scope elt δt (μ.set j t.m) (.bl true) (μ.set j (nxR t a).m)) →
      CmpL (El0 (cxOf (L2.CX P w) P w K mg base ["pot", "bends", "rows", "one", "other", "due", "sign"] "_law_right" (defScope sR) f cdv A0 outer s0 H E) N.K 7 scope elt) f' δ (bendsR.map rowD) (μ.set j p0.m) (bendsR.map fun _ => .bl true) (μ.set j (bendsR.foldl nxR p0).m) ∧ (bendsR.foldl nxR p0).ok (650 - 10 * 40) := fun δ scope elt f' h => by
    have := of_fold (mu := fun t : Pot => μ.set j t.m) (nx := nxR) (gd := rowD) (y := fun _ => .bl true) (fun k t => t.ok (650 - 10 * (k + 40)) ∧ k + 40 ≤ 60) bendsR p0 ⟨hp.mono (Nat.zero_le _), by decide⟩ fun a ha k t hi => ⟨by
      have := hI bendsR (fun t ht => (bends_ok t ht).1) a ha (k + 40) t ⟨hi.1.mono (by omega), by omega⟩
      exact this, h a ha t (hi.1.mono (by omega))⟩
    exact ⟨this.1, this.2.1⟩
  have s2 : ∀ δ scope elt f', (bendsR.foldl nxR p0).ok (650 - 10 * 40) → (∀ a ∈ rowsR, ∀ (t : Pot), t.ok 650 → ∃ δt, f' (rowD a) δ = some δt ∧ DEB (cxOf (L2.CX P w) P w K mg base ["pot", "bends", "rows", "one", "other", "due", "sign"] "_law_right" (defScope sR) f cdv A0 outer s0 H E) N.K 7 scope elt δt (μ.set j t.m) (.bl true) (μ.set j (nxR t a).m)) →
      CmpL (El0 (cxOf (L2.CX P w) P w K mg base ["pot", "bends", "rows", "one", "other", "due", "sign"] "_law_right" (defScope sR) f cdv A0 outer s0 H E) N.K 7 scope elt) f' δ (rowsR.map rowD) (μ.set j (bendsR.foldl nxR p0).m) (rowsR.map fun _ => .bl true) (μ.set j (finR p0).m) := fun δ scope elt f' h0 h => by
    have := of_fold (mu := fun t : Pot => μ.set j t.m) (nx := nxR) (gd := rowD) (y := fun _ => .bl true) (fun k t => t.ok (650 - 10 * (k + 5)) ∧ k + 5 ≤ 60) rowsR (bendsR.foldl nxR p0) ⟨h0.mono (by decide), by decide⟩ fun a ha k t hi => ⟨by
      have := hI rowsR (fun t ht => (rows_ok t ht).1) a ha (k + 5) t ⟨hi.1.mono (by omega), by omega⟩
      exact this, h a ha t (hi.1.mono (by omega))⟩
    exact this.1
  have ok1 : (bendsR.foldl nxR p0).ok (650 - 10 * 40) := by
    have q : ∀ (l : List Row) (t : Pot) (m : Nat), (∀ x ∈ l, lenB x = true) → t.ok m → (l.foldl nxR t).ok (m + 5 * l.length) := by
      intro l
      induction l with
      | nil => intro t m _ h; exact h
      | cons a l ih =>
        intro t m hl h
        have h5 := rows_le (hl a List.mem_cons_self)
        have := ih (nxR t a) (m + 5) (fun x hx => hl x (List.mem_cons_of_mem _ hx)) ((amP_ok h).mono (by omega))
        exact this.mono (by rw [List.length_cons]; omega)
    exact (q bendsR p0 0 (fun t ht => (bends_ok t ht).1) hp).mono (by decide)
  refine ⟨_, ?_, .rt⟩
  refine dss_cons (ds_set 1 (de_of (d' := .lst ((bendsR.take 5).map rowD)) (de_lst (dp_cons (de_tup (dp_cons de_str (dp_cons de_str (dp_cons de_str (dp_cons (de_un de_int u_neg) dp_nil))))) (dp_cons (de_tup (dp_cons de_str (dp_cons de_str (dp_cons de_str (dp_cons (de_un de_int u_neg) dp_nil))))) (dp_cons (de_tup (dp_cons de_str (dp_cons de_str (dp_cons de_str (dp_cons (de_un de_int u_neg) dp_nil))))) (dp_cons (de_tup (dp_cons de_str (dp_cons de_str (dp_cons de_str (dp_cons de_int dp_nil))))) (dp_cons (de_tup (dp_cons de_str (dp_cons de_str (dp_cons de_str (dp_cons de_int dp_nil))))) dp_nil)))))) (by rfl)) g.nd) (cn
    (dss_cons (ds_set 1 (de_of (d' := .lst ((bendsR.take 9).map rowD)) (de_bin (de_var 1) (de_lst (dp_cons (de_tup (dp_cons de_str (dp_cons de_str (dp_cons de_str (dp_cons (de_un de_int u_neg) dp_nil))))) (dp_cons (de_tup (dp_cons de_str (dp_cons de_str (dp_cons de_str (dp_cons de_int dp_nil))))) (dp_cons (de_tup (dp_cons de_str (dp_cons de_str (dp_cons de_str (dp_cons de_int dp_nil))))) (dp_cons (de_tup (dp_cons de_str (dp_cons de_str (dp_cons de_str (dp_cons (de_un de_int u_neg) dp_nil))))) dp_nil))))) (o_catL (size4 (by decide)))) (by rfl)) g.nd) (cn
    (dss_cons (ds_set 1 (de_of (d' := .lst ((bendsR.take 11).map rowD)) (de_bin (de_var 1) (de_lst (dp_cons (de_tup (dp_cons de_str (dp_cons de_str (dp_cons de_str (dp_cons de_int dp_nil))))) (dp_cons (de_tup (dp_cons de_str (dp_cons de_str (dp_cons de_str (dp_cons (de_un de_int u_neg) dp_nil))))) dp_nil))) (o_catL (size4 (by decide)))) (by rfl)) g.nd) (cn
    (dss_skip (dt_of (dt_not (dt_val (de_callB (id := "all") (da_cons (de_lc g [("one", 3), ("other", 4), ("due", 5), ("sign", 6)] (di_lst g (de_of (d' := .lst (bendsR.map rowD)) (de_var 1) (by rfl))) (fun s H C cl fp => dg_tup (dgs_cons (dg_name 3 g.nd) (dgs_cons (dg_name 4 g.nd) (dgs_cons (dg_name 5 g.nd) (dgs_cons (dg_name 6 g.nd) dgs_nil)))) g.hK g.calm)
      ((Eq.mp (congrArg (fun ν => CmpL _ _ _ _ ν _ _) (set_self hj)) (s1 _ _ _ _ fun a ha t ht => ⟨_, rfl, fun s H C cl fp N' hK g' => de_call g' cb (da_cons (de_var 0) (da_cons (de_var 3) (da_cons (de_var 4) (da_cons (de_var 5) (da_cons (de_var 6) da_nil))))) ⟨j, t, a, ha, ht.mono (by decide), set_at hj, rfl, rfl, (List.set_set ..).symm⟩⟩).1)) (ok := blkOk_by (by rfl)) (hds := by rw [List.length_map]; decide)) da_nil) (c_allm (q := fun _ => true) g) T.all (by decide +kernel)))) (by rfl)) (dss_cons (ds_set 2 (de_of (d' := .lst ((rowsR.take 5).map rowD)) (de_lst (dp_cons (de_tup (dp_cons de_str (dp_cons de_str (dp_cons de_str (dp_cons de_int dp_nil))))) (dp_cons (de_tup (dp_cons de_str (dp_cons de_str (dp_cons de_str (dp_cons (de_un de_int u_neg) dp_nil))))) (dp_cons (de_tup (dp_cons de_str (dp_cons de_str (dp_cons de_str (dp_cons (de_un de_int u_neg) dp_nil))))) (dp_cons (de_tup (dp_cons de_str (dp_cons de_str (dp_cons de_str (dp_cons de_int dp_nil))))) (dp_cons (de_tup (dp_cons de_str (dp_cons de_str (dp_cons de_str (dp_cons de_int dp_nil))))) dp_nil)))))) (by rfl)) g.nd) (cn
    (dss_cons (ds_set 2 (de_of (d' := .lst ((rowsR.take 8).map rowD)) (de_bin (de_var 2) (de_lst (dp_cons (de_tup (dp_cons de_str (dp_cons de_str (dp_cons de_str (dp_cons de_int dp_nil))))) (dp_cons (de_tup (dp_cons de_str (dp_cons de_str (dp_cons de_str (dp_cons de_int dp_nil))))) (dp_cons (de_tup (dp_cons de_str (dp_cons de_str (dp_cons de_str (dp_cons (de_un de_int u_neg) dp_nil))))) dp_nil)))) (o_catL (size4 (by decide)))) (by rfl)) g.nd) (cn
    (dss_cons (ds_set 2 (de_of (d' := .lst ((rowsR.take 12).map rowD)) (de_bin (de_var 2) (de_lst (dp_cons (de_tup (dp_cons de_str (dp_cons de_str (dp_cons de_str (dp_cons de_int dp_nil))))) (dp_cons (de_tup (dp_cons de_str (dp_cons de_str (dp_cons de_str (dp_cons de_int dp_nil))))) (dp_cons (de_tup (dp_cons de_str (dp_cons de_str (dp_cons de_str (dp_cons de_int dp_nil))))) (dp_cons (de_tup (dp_cons de_str (dp_cons de_str (dp_cons de_str (dp_cons (de_un de_int u_neg) dp_nil))))) dp_nil))))) (o_catL (size4 (by decide)))) (by rfl)) g.nd) (cn
    (dss_ret (de_of (d' := .bl true) (de_callB (id := "all") (da_cons (de_lc g [("one", 3), ("other", 4), ("due", 5), ("sign", 6)] (di_lst g (de_of (d' := .lst (rowsR.map rowD)) (de_var 2) (by rfl))) (fun s H C cl fp => dg_tup (dgs_cons (dg_name 3 g.nd) (dgs_cons (dg_name 4 g.nd) (dgs_cons (dg_name 5 g.nd) (dgs_cons (dg_name 6 g.nd) dgs_nil)))) g.hK g.calm)
      ((s2 _ _ _ _ ok1 fun a ha t ht => ⟨_, rfl, fun s H C cl fp N' hK g' => de_call g' cm (da_cons (de_var 0) (da_cons (de_var 3) (da_cons (de_var 4) (da_cons (de_var 5) (da_cons (de_var 6) da_nil))))) ⟨j, t, a, ha, ht.mono (by decide), set_at hj, rfl, rfl, (List.set_set ..).symm⟩⟩)) (ok := blkOk_by (by rfl)) (hds := by rw [List.length_map]; decide)) da_nil) (c_allm (q := fun _ => true) g) T.all (by decide +kernel)) (by rfl)))))))))))))))
theorem grow_take (ns : List Int) : ∀ (l : List Nat) (μ : List M) (n : Nat), n ≤ μ.length → (l.foldl (fun μ a => growF ns a μ) μ).take n = μ.take n
  | [], _, _, _ => rfl
  | a :: l, μ, n, h => by
    have e : growF ns a μ = μ ++ [(finR (potF ns a)).m] := by
      unfold growF
      rw [List.set_append_right _ _ (Nat.le_refl _)]
      simp
    rw [List.foldl_cons, grow_take ns l _ n (by rw [e]; simp; omega), e, List.take_append_of_le_length h]
theorem cells_le (ns : List Int) : cellsN ns ≤ 6 := by unfold cellsN; omega
theorem ok_law (F : Fun K "law" "law" sLaw f fd) (T : TL mg) (cc : Cf P w K mg base 1 "_law_cells" [] rCells) (cp : Cf P w K mg base 1 "_law_pot" [] rPot) (cr : Cf P w K mg base 8 "_law_right" [] rR) : FnOk P w K mg base (L2.CX P w) 9 f fd ["script"] (spD K rLaw) := by
  refine fn_D (k := 8) F scLaw (fun ss μ r μ' h => by obtain ⟨ns, rfl, _⟩ := h; rfl) ?_
  intro cdv A0 outer s0 H E N W ss μ r μ' g hA hR
  obtain ⟨ns, rfl, rfl, rfl⟩ := hR
  have hc := cells_le ns
  have at1 : ∀ (μ : List M) (m : M), (μ ++ [m])[μ.length]? = some m := fun μ m => by rw [List.getElem?_append_right (Nat.le_refl _), Nat.sub_self]; rfl
  refine ⟨_, dss_ret (de_of (d' := .bl true) (de_callB (id := "all") (da_cons (de_lc g [("place", 1)] (di_lst g (de_call g cc (da_cons (de_var 0) (da_cons de_int da_nil)) ⟨ns, rfl, rfl, rfl⟩)) (fun s H C cl fp => dg_name 1 g.nd)
    (of_grow (y := fun _ => .bl true) (nx := growF ns) (List.range (cellsN ns)) μ' fun i hi μ => ⟨_, rfl, fun s H C' cl fp N' hK g' => de_call g' cr (da_cons (de_call g' cp (da_cons (de_var 0) (da_cons (de_of (de_var 1) (congrArg D.int (Int.zero_add _))) da_nil)) ⟨ns, i, by have := List.mem_range.mp hi; omega, rfl, rfl, rfl⟩) da_nil) ⟨μ.length, potF ns i, potF_ok ns i, rfl, at1 μ _, rfl, rfl⟩⟩)
    (ok := blkOk_by (by rfl)) (hds := ?_)) da_nil) (c_allm (q := fun _ => true) g) T.all (by decide +kernel)) (congrArg D.bl ?_)), ?_⟩
  · show (List.map _ (List.range (cellsN ns))).length < _
    rw [List.length_map, List.length_range]
    exact size4' (by omega)
  · simp
  · have e := grow_take ns (List.range (cellsN ns)) μ' μ'.length (Nat.le_refl _)
    rw [List.take_length] at e
    conv => rhs; rw [← e]
    exact .rtT (Nat.le_refl _)
end
end K9

set_option Elab.async false
set_option linter.all false
set_option maxRecDepth 100000
set_option maxHeartbeats 8000000
set_option autoImplicit false
namespace K9
open PySem PySem.Spec PyProof.Rows L2 Dl
/-- the law's own promise, without tables -/
theorem spD_lawN {K : PySem.W.Frag} {R : Rel} {H : Hp} {a : Addr} {ns : List Int} (hS : SqL K H a (ns.map V.int)) (hR : R [.p (.sc ns)] [] (.v (.p (.bl true))) []) : spD K R [.ref a] H (fun v _ => v = .bl true) (fun _ _ _ => False) := by
  have hne : SqL K (fun b => if b = a then H b else none) a (ns.map V.int) := by
    rcases hS with (h | ⟨o, h⟩) | h
    · exact .inl (.inl ((if_pos rfl).trans h))
    · exact .inl (.inr ⟨o, (if_pos rfl).trans h⟩)
    · exact .inr h
  refine ⟨fun b => if b = a then H b else none, [], [.p (.sc ns)], [], .v (.p (.bl true)), [], hR,
    { sub := fun b o e => ?_, base := Same.refl _, new := fun b o e => .inl ⟨o, e⟩, keep := fun _ _ e _ => e, pre := ⟨[], rfl, fun _ h => by cases h⟩, nd := List.nodup_nil, len := rfl, mus := fun j b m h1 => by simp at h1, fr := fun j b m h1 => by simp at h1 },
    .cons (.sc hne) .nil, fun v F' A' H' _ rv => ?_⟩
  · by_cases hb : b = a
    · exact (if_pos hb).symm.trans e
    · cases (if_neg hb).symm.trans e
  · have rv' : Rep K F' v (.bl true) := rv
    cases rv'
    rfl
theorem all_mk {l : PySem.W.OpenLaw} {w : World} {K : PySem.W.Frag} {h : Heap} {mg : Str → Option Value} {fa C qa ta pa pg_ fd0 fd1 fd2 fd3 fd4 fd5 fd6 fd7 fd8 fd9 fd10 fd11 fd12 fd13 fd14 fd15 fd16 fm0 fm1 fm2 fm3 fm4 fm5 fm6 : Addr} (X : K.In h) (G : h.Ns mainGlobals mg) (hfa : mg "law" = some (.ref fa))
    {odd0 and0 odd1 and1 odd2 and2 odd3 and3 odd4 and4 odd5 and5 odd6 and6 odd7 and7 odd8 and8 odd9 and9 odd10 and10 odd11 and11 odd12 and12 odd13 and13 odd14 and14 odd15 and15 odd16 and16 odm0 anm0 odm1 anm1 odm2 anm2 odm3 anm3 odm4 anm4 odm5 anm5 odm6 anm6 odT anT : Option Addr} {sld0 sld1 sld2 sld3 sld4 sld5 sld6 sld7 sld8 sld9 sld10 sld11 sld12 sld13 sld14 sld15 sld16 slm0 slm1 slm2 slm3 slm4 slm5 slm6 slT : Array (Option Value)} {ocd0 kVd0 dcd0 pmd0 cdd0 ctd0 ocd1 kVd1 dcd1 pmd1 cdd1 ctd1 ocd2 kVd2 dcd2 pmd2 cdd2 ctd2 ocd3 kVd3 dcd3 pmd3 cdd3 ctd3 ocd4 kVd4 dcd4 pmd4 cdd4 ctd4 ocd5 kVd5 dcd5 pmd5 cdd5 ctd5 ocd6 kVd6 dcd6 pmd6 cdd6 ctd6 ocd7 kVd7 dcd7 pmd7 cdd7 ctd7 ocd8 kVd8 dcd8 pmd8 cdd8 ctd8 ocd9 kVd9 dcd9 pmd9 cdd9 ctd9 ocd10 kVd10 dcd10 pmd10 cdd10 ctd10 ocd11 kVd11 dcd11 pmd11 cdd11 ctd11 ocd12 kVd12 dcd12 pmd12 cdd12 ctd12 ocd13 kVd13 dcd13 pmd13 cdd13 ctd13 ocd14 kVd14 dcd14 pmd14 cdd14 ctd14 ocd15 kVd15 dcd15 pmd15 cdd15 ctd15 ocd16 kVd16 dcd16 pmd16 cdd16 ctd16 ocm0 kVm0 dcm0 pmm0 cdm0 ctm0 ocm1 kVm1 dcm1 pmm1 cdm1 ctm1 ocm2 kVm2 dcm2 pmm2 cdm2 ctm2 ocm3 kVm3 dcm3 pmm3 cdm3 ctm3 ocm4 kVm4 dcm4 pmm4 cdm4 ctm4 ocm5 kVm5 dcm5 pmm5 cdm5 ctm5 ocm6 kVm6 dcm6 pmm6 cdm6 ctm6 kVT ocT dcT pmT cdT ctT : Value} {prest : List Value} {tL tM uXY vXY uXZ vXZ uYX vYX uYZ vYZ uZX vZX uZY vZY : Tok} {esq est : Array DictEntry} {nq nt : Nat}
    (ad0 : PySem.W.nsIn K mainGlobals "need_word" = some (some (.ref fd0)))
    (ld0 : K.lookup fd0 = some ⟨ocd0, odd0, .func (PySem.W.fnOf "need_word" "need_word" (defArgs sNeed) (defBody sNeed) (defScope sNeed) .none kVd0 dcd0 pmd0 and0 cdd0 ctd0), sld0⟩)
    (cd0 : PySem.W.codeIn K cdd0 "need_word" = true)
    (kd0 : PySem.W.keepIn K (.ref fd0) = true)
    (ad1 : PySem.W.nsIn K mainGlobals "are_letters" = some (some (.ref fd1)))
    (ld1 : K.lookup fd1 = some ⟨ocd1, odd1, .func (PySem.W.fnOf "are_letters" "are_letters" (defArgs sAre) (defBody sAre) (defScope sAre) .none kVd1 dcd1 pmd1 and1 cdd1 ctd1), sld1⟩)
    (cd1 : PySem.W.codeIn K cdd1 "are_letters" = true)
    (kd1 : PySem.W.keepIn K (.ref fd1) = true)
    (ad2 : PySem.W.nsIn K mainGlobals "signed_text" = some (some (.ref fd2)))
    (ld2 : K.lookup fd2 = some ⟨ocd2, odd2, .func (PySem.W.fnOf "signed_text" "signed_text" (defArgs sSigned) (defBody sSigned) (defScope sSigned) .none kVd2 dcd2 pmd2 and2 cdd2 ctd2), sld2⟩)
    (cd2 : PySem.W.codeIn K cdd2 "signed_text" = true)
    (kd2 : PySem.W.keepIn K (.ref fd2) = true)
    (ad3 : PySem.W.nsIn K mainGlobals "quarters" = some (some (.ref fd3)))
    (ld3 : K.lookup fd3 = some ⟨ocd3, odd3, .func (PySem.W.fnOf "quarters" "quarters" (defArgs sQuarters) (defBody sQuarters) (defScope sQuarters) .none kVd3 dcd3 pmd3 and3 cdd3 ctd3), sld3⟩)
    (cd3 : PySem.W.codeIn K cdd3 "quarters" = true)
    (kd3 : PySem.W.keepIn K (.ref fd3) = true)
    (ad4 : PySem.W.nsIn K mainGlobals "made_letters" = some (some (.ref fd4)))
    (ld4 : K.lookup fd4 = some ⟨ocd4, odd4, .func (PySem.W.fnOf "made_letters" "made_letters" (defArgs sMade) (defBody sMade) (defScope sMade) .none kVd4 dcd4 pmd4 and4 cdd4 ctd4), sld4⟩)
    (cd4 : PySem.W.codeIn K cdd4 "made_letters" = true)
    (kd4 : PySem.W.keepIn K (.ref fd4) = true)
    (ad5 : PySem.W.nsIn K mainGlobals "_made_letter" = some (some (.ref fd5)))
    (ld5 : K.lookup fd5 = some ⟨ocd5, odd5, .func (PySem.W.fnOf "_made_letter" "_made_letter" (defArgs sLetter) (defBody sLetter) (defScope sLetter) .none kVd5 dcd5 pmd5 and5 cdd5 ctd5), sld5⟩)
    (cd5 : PySem.W.codeIn K cdd5 "_made_letter" = true)
    (kd5 : PySem.W.keepIn K (.ref fd5) = true)
    (ad6 : PySem.W.nsIn K mainGlobals "_law_pot" = some (some (.ref fd6)))
    (ld6 : K.lookup fd6 = some ⟨ocd6, odd6, .func (PySem.W.fnOf "_law_pot" "_law_pot" (defArgs sPot) (defBody sPot) (defScope sPot) .none kVd6 dcd6 pmd6 and6 cdd6 ctd6), sld6⟩)
    (cd6 : PySem.W.codeIn K cdd6 "_law_pot" = true)
    (kd6 : PySem.W.keepIn K (.ref fd6) = true)
    (ad7 : PySem.W.nsIn K mainGlobals "_law_take" = some (some (.ref fd7)))
    (ld7 : K.lookup fd7 = some ⟨ocd7, odd7, .func (PySem.W.fnOf "_law_take" "_law_take" (defArgs sTake) (defBody sTake) (defScope sTake) .none kVd7 dcd7 pmd7 and7 cdd7 ctd7), sld7⟩)
    (cd7 : PySem.W.codeIn K cdd7 "_law_take" = true)
    (kd7 : PySem.W.keepIn K (.ref fd7) = true)
    (ad8 : PySem.W.nsIn K mainGlobals "_law_some" = some (some (.ref fd8)))
    (ld8 : K.lookup fd8 = some ⟨ocd8, odd8, .func (PySem.W.fnOf "_law_some" "_law_some" (defArgs sSome) (defBody sSome) (defScope sSome) .none kVd8 dcd8 pmd8 and8 cdd8 ctd8), sld8⟩)
    (cd8 : PySem.W.codeIn K cdd8 "_law_some" = true)
    (kd8 : PySem.W.keepIn K (.ref fd8) = true)
    (ad9 : PySem.W.nsIn K mainGlobals "_law_cells" = some (some (.ref fd9)))
    (ld9 : K.lookup fd9 = some ⟨ocd9, odd9, .func (PySem.W.fnOf "_law_cells" "_law_cells" (defArgs sCells) (defBody sCells) (defScope sCells) .none kVd9 dcd9 pmd9 and9 cdd9 ctd9), sld9⟩)
    (cd9 : PySem.W.codeIn K cdd9 "_law_cells" = true)
    (kd9 : PySem.W.keepIn K (.ref fd9) = true)
    (ad10 : PySem.W.nsIn K mainGlobals "_law_lone" = some (some (.ref fd10)))
    (ld10 : K.lookup fd10 = some ⟨ocd10, odd10, .func (PySem.W.fnOf "_law_lone" "_law_lone" (defArgs sLone) (defBody sLone) (defScope sLone) .none kVd10 dcd10 pmd10 and10 cdd10 ctd10), sld10⟩)
    (cd10 : PySem.W.codeIn K cdd10 "_law_lone" = true)
    (kd10 : PySem.W.keepIn K (.ref fd10) = true)
    (ad11 : PySem.W.nsIn K mainGlobals "_law_among" = some (some (.ref fd11)))
    (ld11 : K.lookup fd11 = some ⟨ocd11, odd11, .func (PySem.W.fnOf "_law_among" "_law_among" (defArgs sAmong) (defBody sAmong) (defScope sAmong) .none kVd11 dcd11 pmd11 and11 cdd11 ctd11), sld11⟩)
    (cd11 : PySem.W.codeIn K cdd11 "_law_among" = true)
    (kd11 : PySem.W.keepIn K (.ref fd11) = true)
    (ad12 : PySem.W.nsIn K mainGlobals "_law_laid" = some (some (.ref fd12)))
    (ld12 : K.lookup fd12 = some ⟨ocd12, odd12, .func (PySem.W.fnOf "_law_laid" "_law_laid" (defArgs sLaid) (defBody sLaid) (defScope sLaid) .none kVd12 dcd12 pmd12 and12 cdd12 ctd12), sld12⟩)
    (cd12 : PySem.W.codeIn K cdd12 "_law_laid" = true)
    (kd12 : PySem.W.keepIn K (.ref fd12) = true)
    (ad13 : PySem.W.nsIn K mainGlobals "_law_is_bent_right" = some (some (.ref fd13)))
    (ld13 : K.lookup fd13 = some ⟨ocd13, odd13, .func (PySem.W.fnOf "_law_is_bent_right" "_law_is_bent_right" (defArgs sBR) (defBody sBR) (defScope sBR) .none kVd13 dcd13 pmd13 and13 cdd13 ctd13), sld13⟩)
    (cd13 : PySem.W.codeIn K cdd13 "_law_is_bent_right" = true)
    (kd13 : PySem.W.keepIn K (.ref fd13) = true)
    (ad14 : PySem.W.nsIn K mainGlobals "_law_is_made_right" = some (some (.ref fd14)))
    (ld14 : K.lookup fd14 = some ⟨ocd14, odd14, .func (PySem.W.fnOf "_law_is_made_right" "_law_is_made_right" (defArgs sMR) (defBody sMR) (defScope sMR) .none kVd14 dcd14 pmd14 and14 cdd14 ctd14), sld14⟩)
    (cd14 : PySem.W.codeIn K cdd14 "_law_is_made_right" = true)
    (kd14 : PySem.W.keepIn K (.ref fd14) = true)
    (ad15 : PySem.W.nsIn K mainGlobals "_law_right" = some (some (.ref fd15)))
    (ld15 : K.lookup fd15 = some ⟨ocd15, odd15, .func (PySem.W.fnOf "_law_right" "_law_right" (defArgs sR) (defBody sR) (defScope sR) .none kVd15 dcd15 pmd15 and15 cdd15 ctd15), sld15⟩)
    (cd15 : PySem.W.codeIn K cdd15 "_law_right" = true)
    (kd15 : PySem.W.keepIn K (.ref fd15) = true)
    (ad16 : PySem.W.nsIn K mainGlobals "law" = some (some (.ref fd16)))
    (ld16 : K.lookup fd16 = some ⟨ocd16, odd16, .func (PySem.W.fnOf "law" "law" (defArgs sLaw) (defBody sLaw) (defScope sLaw) .none kVd16 dcd16 pmd16 and16 cdd16 ctd16), sld16⟩)
    (cd16 : PySem.W.codeIn K cdd16 "law" = true)
    (kd16 : PySem.W.keepIn K (.ref fd16) = true)
    (aC : PySem.W.nsIn K mainGlobals "Word" = some (some (.ref C)))
    (am0 : PySem.W.findIn K (.ref C) "__init__" = some (some (.ref fm0)))
    (im0 : PySem.W.isFn K (.ref fm0) = true)
    (lm0 : K.lookup fm0 = some ⟨ocm0, odm0, .func (PySem.W.fnOf "__init__" "Word.__init__" (defArgs sInit) (defBody sInit) (defScope sInit) .none kVm0 dcm0 pmm0 anm0 cdm0 ctm0), slm0⟩)
    (cm0 : PySem.W.codeIn K cdm0 "Word.__init__" = true)
    (km0 : PySem.W.keepIn K (.ref fm0) = true)
    (am1 : PySem.W.findIn K (.ref C) "__eq__" = some (some (.ref fm1)))
    (im1 : PySem.W.isFn K (.ref fm1) = true)
    (lm1 : K.lookup fm1 = some ⟨ocm1, odm1, .func (PySem.W.fnOf "__eq__" "Word.__eq__" (defArgs sEq) (defBody sEq) (defScope sEq) .none kVm1 dcm1 pmm1 anm1 cdm1 ctm1), slm1⟩)
    (cm1 : PySem.W.codeIn K cdm1 "Word.__eq__" = true)
    (km1 : PySem.W.keepIn K (.ref fm1) = true)
    (am2 : PySem.W.findIn K (.ref C) "__neg__" = some (some (.ref fm2)))
    (im2 : PySem.W.isFn K (.ref fm2) = true)
    (lm2 : K.lookup fm2 = some ⟨ocm2, odm2, .func (PySem.W.fnOf "__neg__" "Word.__neg__" (defArgs sNeg) (defBody sNeg) (defScope sNeg) .none kVm2 dcm2 pmm2 anm2 cdm2 ctm2), slm2⟩)
    (cm2 : PySem.W.codeIn K cdm2 "Word.__neg__" = true)
    (km2 : PySem.W.keepIn K (.ref fm2) = true)
    (am3 : PySem.W.findIn K (.ref C) "__mul__" = some (some (.ref fm3)))
    (im3 : PySem.W.isFn K (.ref fm3) = true)
    (lm3 : K.lookup fm3 = some ⟨ocm3, odm3, .func (PySem.W.fnOf "__mul__" "Word.__mul__" (defArgs sMul) (defBody sMul) (defScope sMul) .none kVm3 dcm3 pmm3 anm3 cdm3 ctm3), slm3⟩)
    (cm3 : PySem.W.codeIn K cdm3 "Word.__mul__" = true)
    (km3 : PySem.W.keepIn K (.ref fm3) = true)
    (am4 : PySem.W.findIn K (.ref C) "bent" = some (some (.ref fm4)))
    (im4 : PySem.W.isFn K (.ref fm4) = true)
    (lm4 : K.lookup fm4 = some ⟨ocm4, odm4, .func (PySem.W.fnOf "bent" "Word.bent" (defArgs sBent) (defBody sBent) (defScope sBent) .none kVm4 dcm4 pmm4 anm4 cdm4 ctm4), slm4⟩)
    (cm4 : PySem.W.codeIn K cdm4 "Word.bent" = true)
    (km4 : PySem.W.keepIn K (.ref fm4) = true)
    (am5 : PySem.W.findIn K (.ref C) "passes" = some (some (.ref fm5)))
    (im5 : PySem.W.isFn K (.ref fm5) = true)
    (lm5 : K.lookup fm5 = some ⟨ocm5, odm5, .func (PySem.W.fnOf "passes" "Word.passes" (defArgs sPasses) (defBody sPasses) (defScope sPasses) .none kVm5 dcm5 pmm5 anm5 cdm5 ctm5), slm5⟩)
    (cm5 : PySem.W.codeIn K cdm5 "Word.passes" = true)
    (km5 : PySem.W.keepIn K (.ref fm5) = true)
    (am6 : PySem.W.findIn K (.ref C) "_beside" = some (some (.ref fm6)))
    (im6 : PySem.W.isFn K (.ref fm6) = true)
    (lm6 : K.lookup fm6 = some ⟨ocm6, odm6, .func (PySem.W.fnOf "_beside" "Word._beside" (defArgs sBeside) (defBody sBeside) (defScope sBeside) .none kVm6 dcm6 pmm6 anm6 cdm6 ctm6), slm6⟩)
    (cm6 : PySem.W.codeIn K cdm6 "Word._beside" = true)
    (km6 : PySem.W.keepIn K (.ref fm6) = true)
    (pg : PySem.W.plainGet K C Str.empty = true)
    (hd : PySem.W.hasDictIn K C = true)
    (po : PySem.W.plainOver K C = true)
    (sa : PySem.W.findIn K (.ref C) "__setattr__" = some (some (.builtin "object.__setattr__")))
    (mkC : PySem.W.makesIn K C = true)
    (kC : PySem.W.keepIn K (.ref C) = true)
    (nL : PySem.W.findIn K (.ref C) "letters" = some none)
    (nS : PySem.W.findIn K (.ref C) "sign" = some none)
    (ha : PySem.W.findIn K (.ref C) "__class__" = some (some (.builtin "object.__class__")))
    (hn : PySem.W.specialIn K (.builtin "object.__class__") "__get__" = some (some (.builtin "getset_descriptor.__get__")))
    (ht : PySem.W.takesIn K (.builtin "object.__class__") = some true)
    (hm : PySem.W.mroIn K C (.type "object") = some true)
    (sf : PySem.W.selfFirst K C = true)
    (nf : PySem.W.notFirst K C (.ref C) = true)
    (ne : PySem.W.findIn K (.ref C) "__ne__" = some (some (.builtin "object.__ne__")))
    (z_len : PySem.W.nsIn K mainGlobals "len" = some none)
    (z_all : PySem.W.nsIn K mainGlobals "all" = some none)
    (z_sum : PySem.W.nsIn K mainGlobals "sum" = some none)
    (z_zip : PySem.W.nsIn K mainGlobals "zip" = some none)
    (z_isinstance : PySem.W.nsIn K mainGlobals "isinstance" = some none)
    (z_str : PySem.W.nsIn K mainGlobals "str" = some none)
    (z_int : PySem.W.nsIn K mainGlobals "int" = some none)
    (z_abs : PySem.W.nsIn K mainGlobals "abs" = some none)
    (z_max : PySem.W.nsIn K mainGlobals "max" = some none)
    (z_min : PySem.W.nsIn K mainGlobals "min" = some none)
    (z_range : PySem.W.nsIn K mainGlobals "range" = some none)
    (z_list : PySem.W.nsIn K mainGlobals "list" = some none)
    (z_dict : PySem.W.nsIn K mainGlobals "dict" = some none)
    (z_sorted : PySem.W.nsIn K mainGlobals "sorted" = some none)
    (z_set : PySem.W.nsIn K mainGlobals "set" = some none)
    (gL : PySem.W.nsIn K mainGlobals "LETTERS" = some (some (.str "IXYZ" tL)))
    (gM : PySem.W.nsIn K mainGlobals "MOST_WIRES" = some (some (.int 4 tM)))
    (gQ : PySem.W.nsIn K mainGlobals "QUARTER" = some (some (.ref qa)))
    (gT : PySem.W.nsIn K mainGlobals "THIRD" = some (some (.ref ta)))
    (lq : K.lookup qa = some ⟨.type "dict", none, .dict esq nq, #[]⟩)
    (yq : PySem.W.KeysLit w.params esq.toList)
    (wq : (qa == sysModules) = false)
    (lt : K.lookup ta = some ⟨.type "dict", none, .dict est nt, #[]⟩)
    (yt : PySem.W.KeysLit w.params est.toList)
    (wt : (ta == sysModules) = false)
    (q_II : PySem.W.nsIn K qa "II" = some none)
    (q_IX : PySem.W.nsIn K qa "IX" = some none)
    (q_IY : PySem.W.nsIn K qa "IY" = some none)
    (q_IZ : PySem.W.nsIn K qa "IZ" = some none)
    (q_XI : PySem.W.nsIn K qa "XI" = some none)
    (q_XX : PySem.W.nsIn K qa "XX" = some none)
    (q_XY : PySem.W.nsIn K qa "XY" = some (some (.int (1) uXY)))
    (t_XY : PySem.W.nsIn K ta "XY" = some (some (.str "Z" vXY)))
    (q_XZ : PySem.W.nsIn K qa "XZ" = some (some (.int (-1) uXZ)))
    (t_XZ : PySem.W.nsIn K ta "XZ" = some (some (.str "Y" vXZ)))
    (q_YI : PySem.W.nsIn K qa "YI" = some none)
    (q_YX : PySem.W.nsIn K qa "YX" = some (some (.int (-1) uYX)))
    (t_YX : PySem.W.nsIn K ta "YX" = some (some (.str "Z" vYX)))
    (q_YY : PySem.W.nsIn K qa "YY" = some none)
    (q_YZ : PySem.W.nsIn K qa "YZ" = some (some (.int (1) uYZ)))
    (t_YZ : PySem.W.nsIn K ta "YZ" = some (some (.str "X" vYZ)))
    (q_ZI : PySem.W.nsIn K qa "ZI" = some none)
    (q_ZX : PySem.W.nsIn K qa "ZX" = some (some (.int (1) uZX)))
    (t_ZX : PySem.W.nsIn K ta "ZX" = some (some (.str "Y" vZX)))
    (q_ZY : PySem.W.nsIn K qa "ZY" = some (some (.int (-1) uZY)))
    (t_ZY : PySem.W.nsIn K ta "ZY" = some (some (.str "X" vZY)))
    (q_ZZ : PySem.W.nsIn K qa "ZZ" = some none)
    (pT : PySem.W.findIn K (.ref C) "text" = some (some (.ref pa)))
    (gTx : PySem.W.specialIn K (.ref pa) "__get__" = some (some (.builtin "property.__get__")))
    (kTx : PySem.W.takesIn K (.ref pa) = some true)
    (rTx : PySem.W.recIn K pa "property" = some (.ref pg_ :: prest))
    (lTx : K.lookup pg_ = some ⟨ocT, odT, .func (PySem.W.fnOf "text" "Word.text" (defArgs sTextP) (defBody sTextP) (defScope sTextP) .none kVT dcT pmT anT cdT ctT), slT⟩)
    (cTx : PySem.W.codeIn K cdT "Word.text" = true)
    (keTx : PySem.W.keepIn K (.ref pg_) = true) :
    Nonempty (EndG l w K 9 "script" mg fa h 63) := by
  have e := hfa.symm.trans (PySem.W.mg_of X G ad16)
  cases e
  have T : TW w K mg qa ta := {
    len := PySem.W.mg_none_of X G z_len
    all := PySem.W.mg_none_of X G z_all
    sum := PySem.W.mg_none_of X G z_sum
    zip := PySem.W.mg_none_of X G z_zip
    isi := PySem.W.mg_none_of X G z_isinstance
    str := PySem.W.mg_none_of X G z_str
    lets := ⟨_, PySem.W.mg_of X G gL, _, rfl⟩
    most := ⟨_, PySem.W.mg_of X G gM, _, rfl⟩
    mq := PySem.W.mg_of X G gQ
    mt := PySem.W.mg_of X G gT
    kq := ⟨_, _, lq, yq, wq⟩
    kt := ⟨_, _, lt, yt, wt⟩
    dq := fun a b ha hb => by
      simp only [IXYZ, List.mem_cons, List.not_mem_nil, or_false] at ha hb
      rcases ha with rfl | rfl | rfl | rfl <;> rcases hb with rfl | rfl | rfl | rfl
      · exact ⟨_, q_II, rfl⟩
      · exact ⟨_, q_IX, rfl⟩
      · exact ⟨_, q_IY, rfl⟩
      · exact ⟨_, q_IZ, rfl⟩
      · exact ⟨_, q_XI, rfl⟩
      · exact ⟨_, q_XX, rfl⟩
      · exact ⟨_, q_XY, .int (1), ⟨_, rfl⟩, fun _ _ => .int (1)⟩
      · exact ⟨_, q_XZ, .int (-1), ⟨_, rfl⟩, fun _ _ => .int (-1)⟩
      · exact ⟨_, q_YI, rfl⟩
      · exact ⟨_, q_YX, .int (-1), ⟨_, rfl⟩, fun _ _ => .int (-1)⟩
      · exact ⟨_, q_YY, rfl⟩
      · exact ⟨_, q_YZ, .int (1), ⟨_, rfl⟩, fun _ _ => .int (1)⟩
      · exact ⟨_, q_ZI, rfl⟩
      · exact ⟨_, q_ZX, .int (1), ⟨_, rfl⟩, fun _ _ => .int (1)⟩
      · exact ⟨_, q_ZY, .int (-1), ⟨_, rfl⟩, fun _ _ => .int (-1)⟩
      · exact ⟨_, q_ZZ, rfl⟩
    dt := fun a b ha hb h1 h2 h3 => by
      simp only [IXYZ, List.mem_cons, List.not_mem_nil, or_false] at ha hb
      rcases ha with rfl | rfl | rfl | rfl <;> rcases hb with rfl | rfl | rfl | rfl
      · first | exact absurd rfl h1 | exact absurd rfl h2 | exact absurd rfl h3
      · first | exact absurd rfl h1 | exact absurd rfl h2 | exact absurd rfl h3
      · first | exact absurd rfl h1 | exact absurd rfl h2 | exact absurd rfl h3
      · first | exact absurd rfl h1 | exact absurd rfl h2 | exact absurd rfl h3
      · first | exact absurd rfl h1 | exact absurd rfl h2 | exact absurd rfl h3
      · first | exact absurd rfl h1 | exact absurd rfl h2 | exact absurd rfl h3
      · exact ⟨_, t_XY, _, rfl⟩
      · exact ⟨_, t_XZ, _, rfl⟩
      · first | exact absurd rfl h1 | exact absurd rfl h2 | exact absurd rfl h3
      · exact ⟨_, t_YX, _, rfl⟩
      · first | exact absurd rfl h1 | exact absurd rfl h2 | exact absurd rfl h3
      · exact ⟨_, t_YZ, _, rfl⟩
      · first | exact absurd rfl h1 | exact absurd rfl h2 | exact absurd rfl h3
      · exact ⟨_, t_ZX, _, rfl⟩
      · exact ⟨_, t_ZY, _, rfl⟩
      · first | exact absurd rfl h1 | exact absurd rfl h2 | exact absurd rfl h3 }
  have TLw : TL mg := ⟨PySem.W.mg_none_of X G z_len, PySem.W.mg_none_of X G z_int, PySem.W.mg_none_of X G z_abs, PySem.W.mg_none_of X G z_max, PySem.W.mg_none_of X G z_min, PySem.W.mg_none_of X G z_range, PySem.W.mg_none_of X G z_list, PySem.W.mg_none_of X G z_all⟩
  have Z : TZ mg := ⟨PySem.W.mg_none_of X G z_zip, PySem.W.mg_none_of X G z_list, PySem.W.mg_none_of X G z_dict, PySem.W.mg_none_of X G z_sorted, PySem.W.mg_none_of X G z_set⟩
  have T2 : TC K mg C := ⟨⟨⟨pg, hd, po, sa⟩, ha, hn, ht, hm⟩, nL, nS, PySem.W.mg_of X G aC, sf, nf, ⟨ne, hm⟩⟩
  have Fd0 := fun_mk (st := sNeed) ld0 cd0 kd0
  have Fd1 := fun_mk (st := sAre) ld1 cd1 kd1
  have Fd2 := fun_mk (st := sSigned) ld2 cd2 kd2
  have Fd3 := fun_mk (st := sQuarters) ld3 cd3 kd3
  have Fd4 := fun_mk (st := sMade) ld4 cd4 kd4
  have Fd5 := fun_mk (st := sLetter) ld5 cd5 kd5
  have Fd6 := fun_mk (st := sPot) ld6 cd6 kd6
  have Fd7 := fun_mk (st := sTake) ld7 cd7 kd7
  have Fd8 := fun_mk (st := sSome) ld8 cd8 kd8
  have Fd9 := fun_mk (st := sCells) ld9 cd9 kd9
  have Fd10 := fun_mk (st := sLone) ld10 cd10 kd10
  have Fd11 := fun_mk (st := sAmong) ld11 cd11 kd11
  have Fd12 := fun_mk (st := sLaid) ld12 cd12 kd12
  have Fd13 := fun_mk (st := sBR) ld13 cd13 kd13
  have Fd14 := fun_mk (st := sMR) ld14 cd14 kd14
  have Fd15 := fun_mk (st := sR) ld15 cd15 kd15
  have Fd16 := fun_mk (st := sLaw) ld16 cd16 kd16
  have Fm0 := fun_mk (st := sInit) lm0 cm0 km0
  have Fm1 := fun_mk (st := sEq) lm1 cm1 km1
  have Fm2 := fun_mk (st := sNeg) lm2 cm2 km2
  have Fm3 := fun_mk (st := sMul) lm3 cm3 km3
  have Fm4 := fun_mk (st := sBent) lm4 cm4 km4
  have Fm5 := fun_mk (st := sPasses) lm5 cm5 km5
  have Fm6 := fun_mk (st := sBeside) lm6 cm6 km6
  have FT := fun_mk (st := sTextP) lTx cTx keTx
  have bd0 := Fd0.binds (ps := ["value", "wires"]) fun _ _ _ _ _ _ us hl => match us, hl with | [_, _], _ => rfl
  have bd1 := Fd1.binds (ps := ["text"]) fun _ _ _ _ _ _ us hl => match us, hl with | [_], _ => rfl
  have bd2 := Fd2.binds (ps := ["letters", "sign"]) fun _ _ _ _ _ _ us hl => match us, hl with | [_, _], _ => rfl
  have bd3 := Fd3.binds (ps := ["one", "other"]) fun _ _ _ _ _ _ us hl => match us, hl with | [_, _], _ => rfl
  have bd4 := Fd4.binds (ps := ["one", "other"]) fun _ _ _ _ _ _ us hl => match us, hl with | [_, _], _ => rfl
  have bd5 := Fd5.binds (ps := ["one", "other"]) fun _ _ _ _ _ _ us hl => match us, hl with | [_, _], _ => rfl
  have bd6 := Fd6.binds (ps := ["script", "place"]) fun _ _ _ _ _ _ us hl => match us, hl with | [_, _], _ => rfl
  have bd7 := Fd7.binds (ps := ["pot", "upto"]) fun _ _ _ _ _ _ us hl => match us, hl with | [_, _], _ => rfl
  have bd8 := Fd8.binds (ps := ["pot", "pool", "many"]) fun _ _ _ _ _ _ us hl => match us, hl with | [_, _, _], _ => rfl
  have bd9 := Fd9.binds (ps := ["script", "most"]) fun _ _ _ _ _ _ us hl => match us, hl with | [_, _], _ => rfl
  have bd10 := Fd10.binds (ps := ["wires", "places"]) fun _ _ _ _ _ _ us hl => match us, hl with | [_, _], _ => rfl
  have bd11 := Fd11.binds (ps := ["pot", "letters", "signs"]) fun _ _ _ _ _ _ us hl => match us, hl with | [_, _, _], _ => rfl
  have bd12 := Fd12.binds (ps := ["wires", "places", "row", "sign"]) fun _ _ _ _ _ _ us hl => match us, hl with | [_, _, _, _], _ => rfl
  have bd13 := Fd13.binds (ps := ["pot", "one", "other", "due", "sign"]) fun _ _ _ _ _ _ us hl => match us, hl with | [_, _, _, _, _], _ => rfl
  have bd14 := Fd14.binds (ps := ["pot", "one", "other", "due", "sign"]) fun _ _ _ _ _ _ us hl => match us, hl with | [_, _, _, _, _], _ => rfl
  have bd15 := Fd15.binds (ps := ["pot"]) fun _ _ _ _ _ _ us hl => match us, hl with | [_], _ => rfl
  have bm0 := Fm0.binds (ps := ["self", "text"]) fun _ _ _ _ _ _ us hl => match us, hl with | [_, _], _ => rfl
  have bm1 := Fm1.binds (ps := ["self", "other"]) fun _ _ _ _ _ _ us hl => match us, hl with | [_, _], _ => rfl
  have bm2 := Fm2.binds (ps := ["self"]) fun _ _ _ _ _ _ us hl => match us, hl with | [_], _ => rfl
  have bm3 := Fm3.binds (ps := ["self", "other"]) fun _ _ _ _ _ _ us hl => match us, hl with | [_, _], _ => rfl
  have bm4 := Fm4.binds (ps := ["self", "other"]) fun _ _ _ _ _ _ us hl => match us, hl with | [_, _], _ => rfl
  have bm5 := Fm5.binds (ps := ["self", "other"]) fun _ _ _ _ _ _ us hl => match us, hl with | [_, _], _ => rfl
  have bm6 := Fm6.binds (ps := ["self", "other", "turned"]) fun _ _ _ _ _ _ us hl => match us, hl with | [_, _, _], _ => rfl
  have bT := FT.binds (ps := ["self"]) fun _ _ _ _ _ _ us hl => match us, hl with | [_], _ => rfl
  refine ⟨{ fd := PySem.W.fnOf "law" "law" (defArgs sLaw) (defBody sLaw) (defScope sLaw) .none kVd16 dcd16 pmd16 and16 cdd16 ctd16, cs := [], R := rLaw, tab := (fun p hp => nomatch hp), bind := fun s v => .of_eq rfl, holds := fun H a ns hl hb hH hS => spD_lawN hS ⟨ns, rfl, rfl, rfl⟩, ok := fun base _ _ hTB => ?_ }⟩
  have kAre : Cf l.prog w K mg base _ "are_letters" [] _ := ⟨⟨_, _, _, [], [], ok_are Fd1 T, PySem.W.mg_of X G ad1, kd1, bd1, .nil, fun _ => .nil⟩⟩
  have kSigned : Cf l.prog w K mg base _ "signed_text" [] _ := ⟨⟨_, _, _, [], [], ok_signed Fd2, PySem.W.mg_of X G ad2, kd2, bd2, .nil, fun _ => .nil⟩⟩
  have kQuart : Cf l.prog w K mg base _ "quarters" [] _ := ⟨⟨_, _, _, [], [], ok_quarters Fd3 T, PySem.W.mg_of X G ad3, kd3, bd3, .nil, fun _ => .nil⟩⟩
  have kLetter : Cf l.prog w K mg base _ "_made_letter" [] _ := ⟨⟨_, _, _, [], [], ok_letter Fd5 T, PySem.W.mg_of X G ad5, kd5, bd5, .nil, fun _ => .nil⟩⟩
  have kMade : Cf l.prog w K mg base _ "made_letters" [] _ := ⟨⟨_, _, _, [], [], ok_made Fd4 T kLetter, PySem.W.mg_of X G ad4, kd4, bd4, .nil, fun _ => .nil⟩⟩
  have kW : Ci l.prog w K mg base 2 C "Word" [] (rInit C) := ⟨PySem.W.mg_of X G aC, ⟨_, _, _, [], [], ok_init Fm0 T T2 kAre, ⟨mkC, am0, im0, kC⟩, bm0, .nil, fun _ => .nil⟩⟩
  have mEq : Cm l.prog w K mg base _ C "__eq__" [] _ := ⟨T2.ci.cl, ⟨_, _, _, [], [], ok_eq Fm1 T T2, ⟨am1, im1, km1⟩, bm1, .nil, fun _ => .nil⟩⟩
  have mNeg : Cm l.prog w K mg base _ C "__neg__" [] _ := ⟨T2.ci.cl, ⟨_, _, _, [], [], ok_neg Fm2 T2 kSigned kW, ⟨am2, im2, km2⟩, bm2, .nil, fun _ => .nil⟩⟩
  have mBes : Cm l.prog w K mg base _ C "_beside" [] _ := ⟨T2.ci.cl, ⟨_, _, _, [], [], ok_beside Fm6 T2 kSigned kMade kW, ⟨am6, im6, km6⟩, bm6, .nil, fun _ => .nil⟩⟩
  have kNeed : Cf l.prog w K mg base _ "need_word" [] _ := ⟨⟨_, _, _, [], [], ok_need Fd0 T T2, PySem.W.mg_of X G ad0, kd0, bd0, .nil, fun _ => .nil⟩⟩
  have mPass : Cm l.prog w K mg base _ C "passes" [] _ := ⟨T2.ci.cl, ⟨_, _, _, [], [], ok_passes Fm5 T T2 kNeed kQuart, ⟨am5, im5, km5⟩, bm5, .nil, fun _ => .nil⟩⟩
  have mMul : Cm l.prog w K mg base _ C "__mul__" [] _ := ⟨T2.ci.cl, ⟨_, _, _, [], [], ok_mul Fm3 T T2 kQuart mBes, ⟨am3, im3, km3⟩, bm3, .nil, fun _ => .nil⟩⟩
  have mBent : Cm l.prog w K mg base _ C "bent" [] _ := ⟨T2.ci.cl, ⟨_, _, _, [], [], ok_bent Fm4 T2 kQuart mPass mBes, ⟨am4, im4, km4⟩, bm4, .nil, fun _ => .nil⟩⟩
  have pText : Cp l.prog w K mg base 2 C "text" (rTextP C) := ⟨T2.ci.cl, ⟨_, _, _, _, ok_textP FT T2 kSigned, ⟨pT, gTx, kTx, ⟨_, rTx⟩⟩, bT⟩⟩
  have kPot : Cf l.prog w K mg base _ "_law_pot" [] _ := ⟨⟨_, _, _, [], [], ok_pot Fd6 TLw, PySem.W.mg_of X G ad6, kd6, bd6, .nil, fun _ => .nil⟩⟩
  have kTake : Cf l.prog w K mg base _ "_law_take" [] _ := ⟨⟨_, _, _, [], [], ok_take Fd7 TLw, PySem.W.mg_of X G ad7, kd7, bd7, .nil, fun _ => .nil⟩⟩
  have kSome : Cf l.prog w K mg base _ "_law_some" [] _ := ⟨⟨_, _, _, [], [], ok_some Fd8 TLw kTake, PySem.W.mg_of X G ad8, kd8, bd8, .nil, fun _ => .nil⟩⟩
  have kCells : Cf l.prog w K mg base _ "_law_cells" [] _ := ⟨⟨_, _, _, [], [], ok_cells Fd9 TLw, PySem.W.mg_of X G ad9, kd9, bd9, .nil, fun _ => .nil⟩⟩
  have kLone : Cf l.prog w K mg base _ "_law_lone" [] _ := ⟨⟨_, _, _, [], [], ok_lone Fd10 TLw, PySem.W.mg_of X G ad10, kd10, bd10, .nil, fun _ => .nil⟩⟩
  have kAmong : Cf l.prog w K mg base _ "_law_among" [] _ := ⟨⟨_, _, _, [], [], ok_among Fd11 TLw Z kTake kSome kLone, PySem.W.mg_of X G ad11, kd11, bd11, .nil, fun _ => .nil⟩⟩
  have kLaid : Cf l.prog w K mg base _ "_law_laid" [] _ := ⟨⟨_, _, _, [], [], ok_laid Fd12 TLw Z kLone, PySem.W.mg_of X G ad12, kd12, bd12, .nil, fun _ => .nil⟩⟩
  have V : Wx l.prog w K mg base C := ⟨T2, pText, kW, mBent, mMul, mNeg, mEq, kAmong, kLaid⟩
  have kBR : Cf l.prog w K mg base _ "_law_is_bent_right" [] _ := ⟨⟨_, _, _, [], [], ok_bentR Fd13 V, PySem.W.mg_of X G ad13, kd13, bd13, .nil, fun _ => .nil⟩⟩
  have kMR : Cf l.prog w K mg base _ "_law_is_made_right" [] _ := ⟨⟨_, _, _, [], [], ok_madeR Fd14 V, PySem.W.mg_of X G ad14, kd14, bd14, .nil, fun _ => .nil⟩⟩
  have kRight : Cf l.prog w K mg base _ "_law_right" [] _ := ⟨⟨_, _, _, [], [], ok_right Fd15 TLw kBR kMR, PySem.W.mg_of X G ad15, kd15, bd15, .nil, fun _ => .nil⟩⟩
  exact .of (ok_law Fd16 TLw kCells kPot kRight)
end K9

set_option Elab.async false
set_option linter.all false
open PySem PySem.W PyProof.Rows
set_option maxRecDepth 100000 in
set_option maxHeartbeats 0 in
theorem PySem.Challenge.cw_looseknobs_k09_words_by_hand_holds : PySem.Challenge.rw_looseknobs_k09_words_by_hand.Holds := by
  w_on; o_law; k_head; (case hw => w_witness2)
  k_fill
  refine Dl.walk_G (l := PySem.Challenge.rw_looseknobs_k09_words_by_hand) (n := 63) (k := 9) (x := "script") rfl (by decide) rfl ⟨rfl, by decide, by decide⟩ (fun w h Y => PySem.W.kIn_of Y) ?F
  case F =>
    intro w mg fa h KX G hmg tabs
    refine' K9.all_mk KX G hmg ?ad0 ?ld0 ?cd0 ?kd0 ?ad1 ?ld1 ?cd1 ?kd1 ?ad2 ?ld2 ?cd2 ?kd2 ?ad3 ?ld3 ?cd3 ?kd3 ?ad4 ?ld4 ?cd4 ?kd4 ?ad5 ?ld5 ?cd5 ?kd5 ?ad6 ?ld6 ?cd6 ?kd6 ?ad7 ?ld7 ?cd7 ?kd7 ?ad8 ?ld8 ?cd8 ?kd8 ?ad9 ?ld9 ?cd9 ?kd9 ?ad10 ?ld10 ?cd10 ?kd10 ?ad11 ?ld11 ?cd11 ?kd11 ?ad12 ?ld12 ?cd12 ?kd12 ?ad13 ?ld13 ?cd13 ?kd13 ?ad14 ?ld14 ?cd14 ?kd14 ?ad15 ?ld15 ?cd15 ?kd15 ?ad16 ?ld16 ?cd16 ?kd16 ?aC ?am0 ?im0 ?lm0 ?cm0 ?km0 ?am1 ?im1 ?lm1 ?cm1 ?km1 ?am2 ?im2 ?lm2 ?cm2 ?km2 ?am3 ?im3 ?lm3 ?cm3 ?km3 ?am4 ?im4 ?lm4 ?cm4 ?km4 ?am5 ?im5 ?lm5 ?cm5 ?km5 ?am6 ?im6 ?lm6 ?cm6 ?km6 ?pg ?hd ?po ?sa ?mkC ?kC ?nL ?nS ?ha ?hn ?ht ?hm ?sf ?nf ?ne ?z_len ?z_all ?z_sum ?z_zip ?z_isinstance ?z_str ?z_int ?z_abs ?z_max ?z_min ?z_range ?z_list ?z_dict ?z_sorted ?z_set ?gL ?gM ?gQ ?gT ?lq ?yq ?wq ?lt ?yt ?wt ?q_II ?q_IX ?q_IY ?q_IZ ?q_XI ?q_XX ?q_XY ?t_XY ?q_XZ ?t_XZ ?q_YI ?q_YX ?t_YX ?q_YY ?q_YZ ?t_YZ ?q_ZI ?q_ZX ?t_ZX ?q_ZY ?t_ZY ?q_ZZ ?pT ?gTx ?kTx ?rTx ?lTx ?cTx ?keTx
    (case ad0 => k_is)
    (case ld0 => k_is)
    (case cd0 => k_is)
    (case kd0 => k_is)
    (case ad1 => k_is)
    (case ld1 => k_is)
    (case cd1 => k_is)
    (case kd1 => k_is)
    (case ad2 => k_is)
    (case ld2 => k_is)
    (case cd2 => k_is)
    (case kd2 => k_is)
    (case ad3 => k_is)
    (case ld3 => k_is)
    (case cd3 => k_is)
    (case kd3 => k_is)
    (case ad4 => k_is)
    (case ld4 => k_is)
    (case cd4 => k_is)
    (case kd4 => k_is)
    (case ad5 => k_is)
    (case ld5 => k_is)
    (case cd5 => k_is)
    (case kd5 => k_is)
    (case ad6 => k_is)
    (case ld6 => k_is)
    (case cd6 => k_is)
    (case kd6 => k_is)
    (case ad7 => k_is)
    (case ld7 => k_is)
    (case cd7 => k_is)
    (case kd7 => k_is)
    (case ad8 => k_is)
    (case ld8 => k_is)
    (case cd8 => k_is)
    (case kd8 => k_is)
    (case ad9 => k_is)
    (case ld9 => k_is)
    (case cd9 => k_is)
    (case kd9 => k_is)
    (case ad10 => k_is)
    (case ld10 => k_is)
    (case cd10 => k_is)
    (case kd10 => k_is)
    (case ad11 => k_is)
    (case ld11 => k_is)
    (case cd11 => k_is)
    (case kd11 => k_is)
    (case ad12 => k_is)
    (case ld12 => k_is)
    (case cd12 => k_is)
    (case kd12 => k_is)
    (case ad13 => k_is)
    (case ld13 => k_is)
    (case cd13 => k_is)
    (case kd13 => k_is)
    (case ad14 => k_is)
    (case ld14 => k_is)
    (case cd14 => k_is)
    (case kd14 => k_is)
    (case ad15 => k_is)
    (case ld15 => k_is)
    (case cd15 => k_is)
    (case kd15 => k_is)
    (case ad16 => k_is)
    (case ld16 => k_is)
    (case cd16 => k_is)
    (case kd16 => k_is)
    (case aC => k_is)
    (case am0 => k_is)
    (case im0 => k_is)
    (case lm0 => k_is)
    (case cm0 => k_is)
    (case km0 => k_is)
    (case am1 => k_is)
    (case im1 => k_is)
    (case lm1 => k_is)
    (case cm1 => k_is)
    (case km1 => k_is)
    (case am2 => k_is)
    (case im2 => k_is)
    (case lm2 => k_is)
    (case cm2 => k_is)
    (case km2 => k_is)
    (case am3 => k_is)
    (case im3 => k_is)
    (case lm3 => k_is)
    (case cm3 => k_is)
    (case km3 => k_is)
    (case am4 => k_is)
    (case im4 => k_is)
    (case lm4 => k_is)
    (case cm4 => k_is)
    (case km4 => k_is)
    (case am5 => k_is)
    (case im5 => k_is)
    (case lm5 => k_is)
    (case cm5 => k_is)
    (case km5 => k_is)
    (case am6 => k_is)
    (case im6 => k_is)
    (case lm6 => k_is)
    (case cm6 => k_is)
    (case km6 => k_is)
    (case pg => k_is)
    (case hd => k_is)
    (case po => k_is)
    (case sa => k_is)
    (case mkC => k_is)
    (case kC => k_is)
    (case nL => k_is)
    (case nS => k_is)
    (case ha => k_is)
    (case hn => k_is)
    (case ht => k_is)
    (case hm => k_is)
    (case sf => k_is)
    (case nf => k_is)
    (case ne => k_is)
    (case z_len => k_is)
    (case z_all => k_is)
    (case z_sum => k_is)
    (case z_zip => k_is)
    (case z_isinstance => k_is)
    (case z_str => k_is)
    (case z_int => k_is)
    (case z_abs => k_is)
    (case z_max => k_is)
    (case z_min => k_is)
    (case z_range => k_is)
    (case z_list => k_is)
    (case z_dict => k_is)
    (case z_sorted => k_is)
    (case z_set => k_is)
    (case gL => k_is)
    (case gM => k_is)
    (case gQ => k_is)
    (case gT => k_is)
    (case lq => k_is)
    (case yq => k_keys)
    (case wq => first | rfl | decide | k_is)
    (case lt => k_is)
    (case yt => k_keys)
    (case wt => first | rfl | decide | k_is)
    (case q_II => k_is)
    (case q_IX => k_is)
    (case q_IY => k_is)
    (case q_IZ => k_is)
    (case q_XI => k_is)
    (case q_XX => k_is)
    (case q_XY => k_is)
    (case t_XY => k_is)
    (case q_XZ => k_is)
    (case t_XZ => k_is)
    (case q_YI => k_is)
    (case q_YX => k_is)
    (case t_YX => k_is)
    (case q_YY => k_is)
    (case q_YZ => k_is)
    (case t_YZ => k_is)
    (case q_ZI => k_is)
    (case q_ZX => k_is)
    (case t_ZX => k_is)
    (case q_ZY => k_is)
    (case t_ZY => k_is)
    (case q_ZZ => k_is)
    (case pT => k_is)
    (case gTx => k_is)
    (case kTx => k_is)
    (case rTx => k_is)
    (case lTx => k_is)
    (case cTx => k_is)
    (case keTx => k_is)
#print axioms PySem.Challenge.cw_looseknobs_k09_words_by_hand_holds

