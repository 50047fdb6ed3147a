import PyProof.Rows.All
import Wide.All
import OpenK.AllK
import Wide.FinOn
import HandS.ForMost
import HandS.ForExc
import HandS.Walk
import HandS.IsInst
import HandS.Property
import HandS.StrMore
import HandS.Wide
import HandS.Conv
import HandS.ExcInit
import HandS.Flow
import HandS.Lambda
import HandS.CallSlots
import HandS.ExcOwn
import HandS.Comp
import HandS.Iter
import KE.KOpsOwn
import KE.KFmtOwn
import HandS.Zip0
import PyProof.StrLoop
import HandS.More
import HandS.Text
import OpenK.KOps
import HandS.ExcValue
import HandS.TupAny
import KE.KExcIs
import HandS.EndBits
import HandS.List
import HandS.EndTab
import HandS.Dict
import HandS.Gcd
import HandS.FStr
import PyProof.ReprNest
import PyProof.StrHeap
import KE.KIntText
import HandS.Codes
import OpenK.KWalk
import KE.KNest
import PyProof.Rows.StrIntSpec
import HandS.ExcIs
import HandS.Defaults
import PySem.Challenge.RW_looseknobs_k03_texts_of_ratios
set_option Elab.async false
set_option linter.all false
set_option maxRecDepth 100000
set_option maxHeartbeats 4000000
set_option autoImplicit false
namespace Dl
open PySem PySem.Spec PyProof.Rows L2

/-! ## data -/
inductive D where
  | non | bl (b : Bool) | int (i : Int) | str (x : Str) | ty (n : String) | adr (a : Addr)
  | tup (ds : List D) | lst (ds : List D) | dic (ks : List Key) (ds : List D)
  | ins (C : Addr) (ns : List Str) (ds : List D) | exc (C : Addr) (d : D) | sc (ns : List Int)
/-- an exception that was caught, at a -/
def ExO (C dx a : Addr) : HO := .ext fun h => ∃ oe vs, h.get? a = some oe ∧ Zc (.ref C) (some dx) oe ∧ oe.data = .fields vs
mutual
inductive Rep (K : PySem.W.Frag) (F : Hp) : V → D → Prop
  | non : Rep K F .non .non
  | bl (b) : Rep K F (.bl b) (.bl b)
  | int (i) : Rep K F (.int i) (.int i)
  | str (x) : Rep K F (.str x) (.str x)
  | ty (n) : Rep K F (.ty n) (.ty n)
  | adr (a) : Rep K F (.ref a) (.adr a)
  | tup {a vs ds} : SqT K F a vs → Reps K F vs ds → Rep K F (.ref a) (.tup ds)
  | lst {a vs ds} : F a = some (.lst vs) → Reps K F vs ds → Rep K F (.ref a) (.lst ds)
  | dic {a} {kvs : List (Key × V)} {ds} : F a = some (.dK kvs) → Reps K F (kvs.map (·.2)) ds → Rep K F (.ref a) (.dic (kvs.map (·.1)) ds)
  | ins {a C dx} {fs : List (Str × V)} {ds} : F a = some (.ins C dx fs) → Reps K F (fs.map (·.2)) ds → Rep K F (.ref a) (.ins C (fs.map (·.1)) ds)
  | exc {a C dx v d} : F a = some (ExO C dx a) → F dx = some (.xd [("value", v)]) → Rep K F v d → Rep K F (.ref a) (.exc C d)
  | sc {a ns} : SqL K F a (ns.map V.int) → Rep K F (.ref a) (.sc ns)
inductive Reps (K : PySem.W.Frag) (F : Hp) : List V → List D → Prop
  | nil : Reps K F [] []
  | cons {v d vs ds} : Rep K F v d → Reps K F vs ds → Reps K F (v :: vs) (d :: ds)
end
theorem same_sqT {K : PySem.W.Frag} {H H' : Hp} {a : Addr} {xs : List V} (e : Same H H') (h : SqT K H a xs) : SqT K H' a xs := by
  rcases h with (h | ⟨o, h⟩) | h
  · exact .inl (.inl (e _ _ h))
  · exact .inl (.inr ⟨o, e _ _ h⟩)
  · exact .inr h
theorem same_sqL {K : PySem.W.Frag} {H H' : Hp} {a : Addr} {xs : List V} (e : Same H H') (h : SqL K H a xs) : SqL K H' a xs := by
  rcases h with (h | ⟨o, h⟩) | h
  · exact .inl (.inl (e _ _ h))
  · exact .inl (.inr ⟨o, e _ _ h⟩)
  · exact .inr h
theorem same_rd {H H' : Hp} {a : Addr} {u : HO} (e : Same H H') (h : Rd H a u) : Rd H' a u := by
  rcases h with h | ⟨o, h⟩
  · exact .inl (e _ _ h)
  · exact .inr ⟨o, e _ _ h⟩
mutual
theorem Rep.mono {K : PySem.W.Frag} {F F' : Hp} (e : Same F F') : ∀ {v d}, Rep K F v d → Rep K F' v d
  | _, _, .non => .non
  | _, _, .bl b => .bl b
  | _, _, .int b => .int b
  | _, _, .str b => .str b
  | _, _, .ty b => .ty b
  | _, _, .adr b => .adr b
  | _, _, .tup h r => .tup (same_sqT e h) (Reps.mono e r)
  | _, _, .lst h r => .lst (e _ _ h) (Reps.mono e r)
  | _, _, .dic h r => .dic (e _ _ h) (Reps.mono e r)
  | _, _, .ins h r => .ins (e _ _ h) (Reps.mono e r)
  | _, _, .exc h k r => .exc (e _ _ h) (e _ _ k) (Rep.mono e r)
  | _, _, .sc h => .sc (same_sqL e h)
theorem Reps.mono {K : PySem.W.Frag} {F F' : Hp} (e : Same F F') : ∀ {v d}, Reps K F v d → Reps K F' v d
  | _, _, .nil => .nil
  | _, _, .cons a b => .cons (Rep.mono e a) (Reps.mono e b)
end
theorem Reps.length {K : PySem.W.Frag} {F : Hp} : ∀ {vs ds}, Reps K F vs ds → vs.length = ds.length
  | _, _, .nil => rfl
  | _, _, .cons _ t => congrArg (· + 1) (Reps.length t)
theorem Reps.get {K : PySem.W.Frag} {F : Hp} : ∀ {vs ds} {i : Nat} {d : D}, Reps K F vs ds → ds[i]? = some d → ∃ v, vs[i]? = some v ∧ Rep K F v d
  | _, _, _, _, .nil, e => by simp at e
  | _, _, 0, _, .cons r _, e => by simp at e; subst e; exact ⟨_, rfl, r⟩
  | _, _, i + 1, x, .cons _ t, e => by
    obtain ⟨u, h1, h2⟩ := Reps.get (i := i) (d := x) t (by simpa using e)
    exact ⟨u, by simpa using h1, h2⟩
theorem Reps.get' {K : PySem.W.Frag} {F : Hp} : ∀ {vs ds} {i : Nat} {v : V}, Reps K F vs ds → vs[i]? = some v → ∃ d, ds[i]? = some d ∧ Rep K F v d
  | _, _, _, _, .nil, e => by simp at e
  | _, _, 0, _, .cons r _, e => by simp at e; subst e; exact ⟨_, rfl, r⟩
  | _, _, i + 1, x, .cons _ t, e => by
    obtain ⟨u, h1, h2⟩ := Reps.get' (i := i) (v := x) t (by simpa using e)
    exact ⟨u, by simpa using h1, h2⟩
theorem Reps.append {K : PySem.W.Frag} {F : Hp} : ∀ {vs ds ws es}, Reps K F vs ds → Reps K F ws es → Reps K F (vs ++ ws) (ds ++ es)
  | _, _, _, _, .nil, s => s
  | _, _, _, _, .cons r t, s => .cons r (Reps.append t s)
theorem Reps.take {K : PySem.W.Frag} {F : Hp} : ∀ {vs ds} (n : Nat), Reps K F vs ds → Reps K F (vs.take n) (ds.take n)
  | _, _, 0, _ => .nil
  | _, _, _ + 1, .nil => .nil
  | _, _, n + 1, .cons r t => .cons r (Reps.take n t)
theorem Reps.drop {K : PySem.W.Frag} {F : Hp} : ∀ {vs ds} (n : Nat), Reps K F vs ds → Reps K F (vs.drop n) (ds.drop n)
  | _, _, 0, r => r
  | _, _, _ + 1, .nil => .nil
  | _, _, n + 1, .cons _ t => Reps.drop n t
theorem Reps.set {K : PySem.W.Frag} {F : Hp} {v : V} {d : D} (r : Rep K F v d) : ∀ {vs ds} (i : Nat), Reps K F vs ds → Reps K F (vs.set i v) (ds.set i d)
  | _, _, _, .nil => .nil
  | _, _, 0, .cons _ t => .cons r t
  | _, _, i + 1, .cons q t => .cons q (Reps.set r i t)
theorem Reps.rev {K : PySem.W.Frag} {F : Hp} : ∀ {vs ds}, Reps K F vs ds → Reps K F vs.reverse ds.reverse
  | _, _, .nil => .nil
  | _, _, .cons r t => by
    rw [List.reverse_cons, List.reverse_cons]
    exact (Reps.rev t).append (.cons r .nil)

/-! ## slots, what changes -/
inductive S where
  | p (d : D) | l (j : Nat)
inductive M where
  | lst (ds : List D) | dic (ks : List Key) (ds : List D) | obj (C : Addr) (ns : List Str) (ds : List D) | gone | tab (P : Addr) (q : Str)
def RepS (K : PySem.W.Frag) (F : Hp) (A : List Addr) (v : V) : S → Prop
  | .p d => Rep K F v d
  | .l j => ∃ a, v = .ref a ∧ A[j]? = some a
theorem getElem?_pre {α : Type} {A A' : List α} (p : A <+: A') {j : Nat} {a : α} (h : A[j]? = some a) : A'[j]? = some a := by
  obtain ⟨B, rfl⟩ := p
  rw [List.getElem?_append_left (List.getElem?_eq_some_iff.mp h).1]
  exact h
theorem RepS.mono {K : PySem.W.Frag} {F F' : Hp} {A A' : List Addr} (e : Same F F') (p : A <+: A') {v : V} : ∀ {s}, RepS K F A v s → RepS K F' A' v s
  | .p _, h => Rep.mono e h
  | .l _, ⟨a, h1, h2⟩ => ⟨a, h1, getElem?_pre p h2⟩
inductive RepSs (K : PySem.W.Frag) (F : Hp) (A : List Addr) : List V → List S → Prop
  | nil : RepSs K F A [] []
  | cons {v s vs ss} : RepS K F A v s → RepSs K F A vs ss → RepSs K F A (v :: vs) (s :: ss)
theorem RepSs.mono {K : PySem.W.Frag} {F F' : Hp} {A A' : List Addr} (e : Same F F') (p : A <+: A') : ∀ {vs ss}, RepSs K F A vs ss → RepSs K F' A' vs ss
  | _, _, .nil => .nil
  | _, _, .cons a b => .cons (a.mono e p) (RepSs.mono e p b)
theorem RepSs.length {K : PySem.W.Frag} {F : Hp} {A : List Addr} : ∀ {vs ss}, RepSs K F A vs ss → vs.length = ss.length
  | _, _, .nil => rfl
  | _, _, .cons _ t => congrArg (· + 1) (RepSs.length t)
theorem RepSs.append {K : PySem.W.Frag} {F : Hp} {A : List Addr} : ∀ {vs ss vs' ss'}, RepSs K F A vs ss → RepSs K F A vs' ss' → RepSs K F A (vs ++ vs') (ss ++ ss')
  | _, _, _, _, .nil, s => s
  | _, _, _, _, .cons r t, s => .cons r (RepSs.append t s)
def MOk (K : PySem.W.Frag) (F : Hp) (A : List Addr) (H : Hp) (a : Addr) : M → Prop
  | .lst ds => ∃ vs, H a = some (.lst vs) ∧ Reps K F vs ds
  | .dic ks ds => ∃ kvs, H a = some (.dK kvs) ∧ kvs.map (·.1) = ks ∧ Reps K F (kvs.map (·.2)) ds
  | .obj C ns ds => ∃ dx fs, H a = some (.ins C dx fs) ∧ fs.map (·.1) = ns ∧ Reps K F (fs.map (·.2)) ds
  | .gone => ∃ o, H a = some o
  | .tab P q => a = P ∧ ∃ ps : Array Value, H a = some (.tbl ps) ∧ TriplesOk ps.toList ∧ ∀ (pos : Pos) (cv : Value), codeAmong pos ps.toList = some cv → ∃ c, cv = .ref c ∧ F c = some (LamX.CodeO c q)
theorem MOk.there {K : PySem.W.Frag} {F : Hp} {A : List Addr} {H : Hp} {a : Addr} : ∀ {m}, MOk K F A H a m → ∃ o, H a = some o
  | .lst _, ⟨_, h, _⟩ => ⟨_, h⟩
  | .dic _ _, ⟨_, h, _⟩ => ⟨_, h⟩
  | .obj _ _ _, ⟨_, _, h, _⟩ => ⟨_, h⟩
  | .gone, h => h
  | .tab _ _, ⟨_, ps, h, _⟩ => ⟨_, h⟩
theorem MOk.mono {K : PySem.W.Frag} {F F' : Hp} {A A' : List Addr} {H H' : Hp} {a : Addr} (e : Same F F') (p : A <+: A') (k : H' a = H a) : ∀ {m}, MOk K F A H a m → MOk K F' A' H' a m
  | .lst _, ⟨vs, h, r⟩ => ⟨vs, by rw [k]; exact h, r.mono e⟩
  | .dic _ _, ⟨kvs, h, q, r⟩ => ⟨kvs, by rw [k]; exact h, q, r.mono e⟩
  | .obj _ _ _, ⟨dx, fs, h, q, r⟩ => ⟨dx, fs, by rw [k]; exact h, q, r.mono e⟩
  | .gone, ⟨o, h⟩ => ⟨o, by rw [k]; exact h⟩
  | .tab _ _, ⟨e1, ps, h, t, g⟩ => ⟨e1, ps, by rw [k]; exact h, t, fun pos cv q => by
      obtain ⟨c, q1, q2⟩ := g pos cv q
      exact ⟨c, q1, e _ _ q2⟩⟩

/-- where a def began -/
structure En where
  K : PySem.W.Frag
  H0 : Hp
  F0 : Hp
  A0 : List Addr
def notGone : M → Prop
  | .gone => False
  | _ => True
structure Rc (N : En) (F : Hp) (A : List Addr) (H : Hp) (μ : List M) : Prop where
  sub : Same F H
  base : Same N.F0 F
  new : ∀ a o, F a = some o → (∃ o', N.F0 a = some o') ∨ N.H0 a = none
  keep : ∀ a o, N.H0 a = some o → a ∉ N.A0 → H a = some o
  pre : ∃ B, A = N.A0 ++ B ∧ ∀ b ∈ B, N.H0 b = none
  nd : A.Nodup
  len : A.length = μ.length
  mus : ∀ (j : Nat) (a : Addr) (m : M), A[j]? = some a → μ[j]? = some m → MOk N.K F A H a m
  fr : ∀ (j : Nat) (a : Addr) (m : M), A[j]? = some a → μ[j]? = some m → notGone m → F a = none
structure Rl (N : En) (F : Hp) (A : List Addr) (H : Hp) (σ : L2.St) (δ : List (Option S)) (μ : List M) : Prop where
  rc : Rc N F A H μ
  len : δ.length = σ.length
  sl : ∀ (i : Nat) (s : S), δ[i]? = some (some s) → ∃ v, σ[i]? = some (some v) ∧ RepS N.K F A v s
theorem Rc.at {N : En} {F : Hp} {A : List Addr} {H : Hp} {μ : List M} (r : Rc N F A H μ) {j : Nat} {a : Addr} (h : A[j]? = some a) : ∃ m, μ[j]? = some m ∧ MOk N.K F A H a m := by
  have hj := (List.getElem?_eq_some_iff.mp h).1
  rw [r.len] at hj
  exact ⟨μ[j], List.getElem?_eq_getElem hj, r.mus j a _ h (List.getElem?_eq_getElem hj)⟩
theorem Rc.at' {N : En} {F : Hp} {A : List Addr} {H : Hp} {μ : List M} (r : Rc N F A H μ) {j : Nat} {m : M} (h : μ[j]? = some m) : ∃ a, A[j]? = some a ∧ MOk N.K F A H a m := by
  have hj := (List.getElem?_eq_some_iff.mp h).1
  rw [← r.len] at hj
  exact ⟨A[j], List.getElem?_eq_getElem hj, r.mus j _ _ (List.getElem?_eq_getElem hj) h⟩
theorem Rc.there {N : En} {F : Hp} {A : List Addr} {H : Hp} {μ : List M} (r : Rc N F A H μ) {a : Addr} (h : a ∈ A) : ∃ o, H a = some o := by
  obtain ⟨j, hj⟩ := List.getElem?_of_mem h
  obtain ⟨m, _, k⟩ := r.at hj
  exact k.there
theorem Rc.fresh {N : En} {F : Hp} {A : List Addr} {H : Hp} {μ : List M} (r : Rc N F A H μ) {p : Addr} (h : H p = none) : N.H0 p = none ∧ F p = none ∧ p ∉ A := by
  have hA : p ∉ A := fun hm => by
    obtain ⟨o, e⟩ := r.there hm
    rw [h] at e; cases e
  refine ⟨?_, r.sub.free h, hA⟩
  cases e : N.H0 p with
  | none => rfl
  | some o =>
    obtain ⟨B, rfl, _⟩ := r.pre
    rw [r.keep p o e fun hm => hA (List.mem_append_left _ hm)] at h
    cases h
theorem ne_mem {A : List Addr} {p a : Addr} {j : Nat} (h : p ∉ A) (h1 : A[j]? = some a) : a ≠ p := fun z => h (by rw [← z]; exact List.mem_of_getElem? h1)
theorem nodup_at {α : Type} {A : List α} (nd : A.Nodup) {i j : Nat} {a : α} (h1 : A[i]? = some a) (h2 : A[j]? = some a) : i = j := by
  obtain ⟨l1, e1⟩ := List.getElem?_eq_some_iff.mp h1
  obtain ⟨l2, e2⟩ := List.getElem?_eq_some_iff.mp h2
  exact (List.getElem_inj nd).mp (e1.trans e2.symm)
theorem ne_at {A : List Addr} (nd : A.Nodup) {i j : Nat} {a b : Addr} (hi : i ≠ j) (h1 : A[i]? = some b) (h2 : A[j]? = some a) : b ≠ a := fun z => hi (nodup_at nd h1 (by rw [z]; exact h2))
theorem same_updN {H : Hp} {p : Addr} {o : HO} (h : H p = none) : Same H (upd H p o) := fun b x e => by
  rw [upd_ne (ne_of_none e h)]
  exact e
/-- a new frozen object -/
theorem Rc.frozen {N : En} {F : Hp} {A : List Addr} {H : Hp} {μ : List M} (r : Rc N F A H μ) {p : Addr} (h : H p = none) (o : HO) : Rc N (upd F p o) A (upd H p o) μ where
  sub := fun b x e => by
    by_cases hb : b = p
    · subst hb; rw [upd_same] at e ⊢; exact e
    · rw [upd_ne hb] at e ⊢; exact r.sub b x e
  base := r.base.trans (same_updN (r.fresh h).2.1)
  new := fun a x e => by
    by_cases hb : a = p
    · subst hb; exact .inr (r.fresh h).1
    · rw [upd_ne hb] at e; exact r.new a x e
  keep := fun a x e hA => by
    rw [upd_ne (ne_of_none e (r.fresh h).1)]
    exact r.keep a x e hA
  pre := r.pre
  nd := r.nd
  len := r.len
  mus := fun j a m h1 h2 => (r.mus j a m h1 h2).mono (same_updN (r.fresh h).2.1) (List.prefix_refl _) (upd_ne (ne_mem (r.fresh h).2.2 h1))
  fr := fun j a m h1 h2 h3 => by
    rw [upd_ne (ne_mem (r.fresh h).2.2 h1)]
    exact r.fr j a m h1 h2 h3
/-- a new object of no further interest -/
theorem Rc.junk {N : En} {F : Hp} {A : List Addr} {H : Hp} {μ : List M} (r : Rc N F A H μ) {p : Addr} (h : H p = none) (o : HO) : Rc N F A (upd H p o) μ where
  sub := r.sub.trans (same_updN h)
  base := r.base
  new := r.new
  keep := fun a x e hA => by
    rw [upd_ne (ne_of_none e (r.fresh h).1)]
    exact r.keep a x e hA
  pre := r.pre
  nd := r.nd
  len := r.len
  mus := fun j a m h1 h2 => (r.mus j a m h1 h2).mono (Same.refl _) (List.prefix_refl _) (upd_ne (ne_mem (r.fresh h).2.2 h1))
  fr := r.fr
/-- a new object that changes -/
theorem Rc.newM {N : En} {F : Hp} {A : List Addr} {H : Hp} {μ : List M} (r : Rc N F A H μ) {p : Addr} (h : H p = none) {o : HO} {m : M} (ok : MOk N.K F (A ++ [p]) (upd H p o) p m) : Rc N F (A ++ [p]) (upd H p o) (μ ++ [m]) where
  sub := r.sub.trans (same_updN h)
  base := r.base
  new := r.new
  keep := fun a x e hA => by
    rw [upd_ne (ne_of_none e (r.fresh h).1)]
    exact r.keep a x e hA
  pre := by
    obtain ⟨B, rfl, hB⟩ := r.pre
    refine ⟨B ++ [p], List.append_assoc .., fun b hb => ?_⟩
    rcases List.mem_append.mp hb with hb | hb
    · exact hB b hb
    · rw [List.mem_singleton] at hb; subst hb; exact (r.fresh h).1
  nd := List.nodup_append.mpr ⟨r.nd, by simp, fun a ha b hb => by
    rw [List.mem_singleton] at hb; subst hb
    intro z; subst z; exact (r.fresh h).2.2 ha⟩
  len := by simp [r.len]
  mus := fun j a m' h1 h2 => by
    by_cases hj : j < A.length
    · rw [List.getElem?_append_left hj] at h1
      rw [List.getElem?_append_left (by rw [← r.len]; exact hj)] at h2
      exact (r.mus j a m' h1 h2).mono (Same.refl _) (List.prefix_append _ _) (upd_ne (ne_mem (r.fresh h).2.2 h1))
    · rw [List.getElem?_append_right (by omega)] at h1
      rw [List.getElem?_append_right (by rw [← r.len]; omega), ← r.len] at h2
      have e : j - A.length = 0 := by
        have := (List.getElem?_eq_some_iff.mp h1).1
        simp at this; omega
      rw [e] at h1 h2
      simp at h1 h2
      subst h1 h2
      exact ok
  fr := fun j a m' h1 h2 h3 => by
    by_cases hj : j < A.length
    · rw [List.getElem?_append_left hj] at h1
      rw [List.getElem?_append_left (by rw [← r.len]; exact hj)] at h2
      exact r.fr j a m' h1 h2 h3
    · rw [List.getElem?_append_right (by omega)] at h1
      have e : j - A.length = 0 := by
        have := (List.getElem?_eq_some_iff.mp h1).1
        simp at this; omega
      rw [e] at h1
      simp at h1
      subst h1
      exact (r.fresh h).2.1
/-- a changing object is changed -/
theorem Rc.write {N : En} {F : Hp} {A : List Addr} {H : Hp} {μ : List M} (r : Rc N F A H μ) {j : Nat} {a : Addr} {m m' : M} (ha : A[j]? = some a) (hm : μ[j]? = some m) (ng : notGone m) {o : HO} (ok : MOk N.K F A (upd H a o) a m') : Rc N F A (upd H a o) (μ.set j m') where
  sub := fun b x e => by
    have hb : b ≠ a := fun z => by rw [z, r.fr j a m ha hm ng] at e; cases e
    rw [upd_ne hb]; exact r.sub b x e
  base := r.base
  new := r.new
  keep := fun b x e hA => by
    by_cases hb : b = a
    · subst hb
      obtain ⟨B, rfl, hB⟩ := r.pre
      rcases List.mem_append.mp (List.mem_of_getElem? ha) with h | h
      · exact absurd h hA
      · rw [hB _ h] at e; cases e
    · rw [upd_ne hb]; exact r.keep b x e hA
  pre := r.pre
  nd := r.nd
  len := by simp [r.len]
  mus := fun i b n h1 h2 => by
    by_cases hi : i = j
    · subst hi
      rw [ha] at h1; cases h1
      rw [List.getElem?_set_self (List.getElem?_eq_some_iff.mp hm).1] at h2
      cases h2
      exact ok
    · rw [List.getElem?_set_ne (Ne.symm hi)] at h2
      exact (r.mus i b n h1 h2).mono (Same.refl _) (List.prefix_refl _) (upd_ne (ne_at r.nd hi h1 ha))
  fr := fun i b n h1 h2 h3 => by
    by_cases hi : i = j
    · subst hi
      rw [ha] at h1; cases h1
      exact r.fr i _ m ha hm ng
    · rw [List.getElem?_set_ne (Ne.symm hi)] at h2
      exact r.fr i b n h1 h2 h3
/-- an own list is frozen -/
theorem Rc.freeze {N : En} {F : Hp} {A : List Addr} {H : Hp} {μ : List M} (r : Rc N F A H μ) {j : Nat} {a : Addr} {m : M} (ha : A[j]? = some a) (hm : μ[j]? = some m) (ng : notGone m) (hj : N.A0.length ≤ j) {o : HO} (ho : H a = some o) :
    Rc N (upd F a o) A H (μ.set j .gone) ∧ Same F (upd F a o) := by
  have hF := r.fr j a m ha hm ng
  have sm : Same F (upd F a o) := same_updN hF
  refine ⟨⟨fun b x e => ?_, r.base.trans sm, fun b x e => ?_, r.keep, r.pre, r.nd, by simp [r.len], fun i b n h1 h2 => ?_, fun i b n h1 h2 h3 => ?_⟩, sm⟩
  · by_cases hb : b = a
    · subst hb; rw [upd_same] at e; cases e; exact ho
    · rw [upd_ne hb] at e; exact r.sub b x e
  · by_cases hb : b = a
    · subst hb
      obtain ⟨B, rfl, hB⟩ := r.pre
      rw [List.getElem?_append_right hj] at ha
      exact .inr (hB _ (List.mem_of_getElem? ha))
    · rw [upd_ne hb] at e; exact r.new b x e
  · by_cases hi : i = j
    · subst hi
      rw [ha] at h1; cases h1
      rw [List.getElem?_set_self (List.getElem?_eq_some_iff.mp hm).1] at h2
      cases h2
      exact ⟨o, ho⟩
    · rw [List.getElem?_set_ne (Ne.symm hi)] at h2
      exact (r.mus i b n h1 h2).mono sm (List.prefix_refl _) rfl
  · by_cases hi : i = j
    · subst hi
      rw [List.getElem?_set_self (List.getElem?_eq_some_iff.mp hm).1] at h2
      cases h2
      exact h3.elim
    · rw [List.getElem?_set_ne (Ne.symm hi)] at h2
      rw [upd_ne (ne_at r.nd hi h1 ha)]
      exact r.fr i b n h1 h2 h3
/-- the last ones are let go -/
theorem Rc.trim {N : En} {F : Hp} {A : List Addr} {H : Hp} {μ : List M} (r : Rc N F A H μ) {n : Nat} (hn : N.A0.length ≤ n) : Rc N F (A.take n) H (μ.take n) := by
  have pp : A.take n <+: A := List.take_prefix _ _
  refine ⟨r.sub, r.base, r.new, r.keep, ?_, r.nd.sublist (List.take_sublist _ _), by simp [r.len], fun j a m h1 h2 => ?_, fun j a m h1 h2 h3 => ?_⟩
  · obtain ⟨B, rfl, hB⟩ := r.pre
    refine ⟨B.take (n - N.A0.length), ?_, fun b hb => hB b (List.mem_of_mem_take hb)⟩
    rw [List.take_append, List.take_of_length_le hn]
  · have k := r.mus j a m (getElem?_pre pp h1) (getElem?_pre (List.take_prefix _ _) h2)
    cases m with
    | lst ds => exact k
    | dic ks ds => exact k
    | gone => exact k
    | obj C ns ss => exact k
    | tab P q => exact k
  · exact r.fr j a m (getElem?_pre pp h1) (getElem?_pre (List.take_prefix _ _) h2) h3
theorem Rl.to {N : En} {F F' : Hp} {A A' : List Addr} {H H' : Hp} {σ : L2.St} {δ : List (Option S)} {μ μ' : List M} (r : Rl N F A H σ δ μ) (e : Same F F') (p : A <+: A') (r' : Rc N F' A' H' μ') : Rl N F' A' H' σ δ μ' :=
  ⟨r', r.len, fun i s h => by
    obtain ⟨v, h1, h2⟩ := r.sl i s h
    exact ⟨v, h1, h2.mono e p⟩⟩
theorem Rl.set {N : En} {F : Hp} {A : List Addr} {H : Hp} {σ : L2.St} {δ : List (Option S)} {μ : List M} (r : Rl N F A H σ δ μ) {i : Nat} {v : V} {s : S} (h : RepS N.K F A v s) : Rl N F A H (σ.set i (some v)) (δ.set i (some s)) μ :=
  ⟨r.rc, by simp [r.len], fun j t e => by
    by_cases hj : j = i
    · subst hj
      have hl : j < δ.length := by
        have := (List.getElem?_eq_some_iff.mp e).1
        simpa using this
      rw [List.getElem?_set_self hl] at e
      cases e
      exact ⟨v, List.getElem?_set_self (by rw [← r.len]; exact hl), h⟩
    · rw [List.getElem?_set_ne (Ne.symm hj)] at e ⊢
      exact r.sl j t e⟩
/-- slots forgotten -/
theorem Rl.weak {N : En} {F : Hp} {A : List Addr} {H : Hp} {σ : L2.St} {δ δ' : List (Option S)} {μ : List M} (r : Rl N F A H σ δ μ) (hl : δ'.length = δ.length) (h : ∀ (i : Nat) (s : S), δ'[i]? = some (some s) → δ[i]? = some (some s)) : Rl N F A H σ δ' μ :=
  ⟨r.rc, hl.trans r.len, fun i s e => r.sl i s (h i s e)⟩

/-! ## results, judgements -/
inductive Rx where
  | v (s : S) | x (C : Addr) (d : D)
inductive Os where
  | nx (δ : List (Option S)) (μ : List M) | rt (s : S) (μ : List M) | xx (C : Addr) (d : D) (δ : List (Option S)) (μ : List M)
  | bk (δ : List (Option S)) (μ : List M) | ct (δ : List (Option S)) (μ : List M)
def EndE (N : En) (W : WX) (σ : L2.St) (δ : List (Option S)) (F : Hp) (A : List Addr) (μ' : List M) (Q : VK) : Rx → Prop
  | .v s => ∀ v F' A' H', Same F F' → A <+: A' → Rl N F' A' H' σ δ μ' → RepS N.K F' A' v s → Q v H'
  | .x C d => ∀ dx v F' A' H', Same F F' → A <+: A' → Rl N F' A' H' σ δ μ' → F' dx = some (.xd [("value", v)]) → Rep N.K F' v d → W (.ref C) (some dx) σ H'
def tD (N : En) (W : WX) (δ : List (Option S)) (μ : List M) (r : Rx) (μ' : List M) : TE := fun σ H Q => ∃ F A, Rl N F A H σ δ μ ∧ EndE N W σ δ F A μ' Q r
def DE (X : Cx) (N : En) (W : WX) (δ : List (Option S)) (μ : List M) (e : Expr) (r : Rx) (μ' : List M) : Prop := PE X e (tD N W δ μ r μ')
def tDT (N : En) (W : WX) (δ : List (Option S)) (μ : List M) (b : Bool) (μ' : List M) : TT := fun σ H Q => ∃ F A, Rl N F A H σ δ μ ∧ ∀ F' A' H', Same F F' → A <+: A' → Rl N F' A' H' σ δ μ' → Q b H'
def DT (X : Cx) (N : En) (W : WX) (δ : List (Option S)) (μ : List M) (e : Expr) (b : Bool) (μ' : List M) : Prop := PT X e (tDT N W δ μ b μ')
def DW (X : Cx) (N : En) (W : WX) (δ : List (Option S)) (μ : List M) (e : Expr) (b : Bool) (μ' : List M) : Prop := PW X e (tDT N W δ μ b μ')
def tDA (N : En) (W : WX) (δ : List (Option S)) (μ : List M) (ss : List S) (μ' : List M) : TA := fun σ H Q => ∃ F A, Rl N F A H σ δ μ ∧ ∀ vs F' A' H', Same F F' → A <+: A' → Rl N F' A' H' σ δ μ' → RepSs N.K F' A' vs ss → Q vs H'
def DA (X : Cx) (N : En) (W : WX) (δ : List (Option S)) (μ : List M) (es : List Expr) (ss : List S) (μ' : List M) : Prop := PA X es (tDA N W δ μ ss μ')
def EndS (N : En) (W : WX) (F : Hp) (A : List Addr) (K : Ends) : Os → Prop
  | .nx δ' μ' => ∀ σ' F' A' H', Same F F' → A <+: A' → Rl N F' A' H' σ' δ' μ' → K.nx σ' H'
  | .bk δ' μ' => ∀ σ' F' A' H', Same F F' → A <+: A' → Rl N F' A' H' σ' δ' μ' → K.bk σ' H'
  | .ct δ' μ' => ∀ σ' F' A' H', Same F F' → A <+: A' → Rl N F' A' H' σ' δ' μ' → K.ct σ' H'
  | .rt s μ' => ∀ v F' A' H', Same F F' → A <+: A' → Rc N F' A' H' μ' → RepS N.K F' A' v s → K.rt v H'
  | .xx C d δ' μ' => ∀ σ' dx v F' A' H', Same F F' → A <+: A' → Rl N F' A' H' σ' δ' μ' → F' dx = some (.xd [("value", v)]) → Rep N.K F' v d → W (.ref C) (some dx) σ' H'
def tDS (N : En) (W : WX) (δ : List (Option S)) (μ : List M) (o : Os) : TS := fun K σ H => ∃ F A, Rl N F A H σ δ μ ∧ EndS N W F A K o
def DS (X : Cx) (N : En) (W : WX) (δ : List (Option S)) (μ : List M) (st : Stmt) (o : Os) : Prop := PS X st (tDS N W δ μ o)
def DSs (X : Cx) (N : En) (W : WX) (δ : List (Option S)) (μ : List M) (sts : List Stmt) (o : Os) : Prop := PSs X sts (tDS N W δ μ o)

theorem PE.imp {X : Cx} {e : Expr} {t t' : TE} (h : PE X e t) (w : ∀ σ H Q, t' σ H Q → t σ H Q) : PE X e t' := ⟨fun p s σ H Q I q => h.run p s σ H Q I (w σ H Q q)⟩
theorem PT.imp {X : Cx} {e : Expr} {t t' : TT} (h : PT X e t) (w : ∀ σ H Q, t' σ H Q → t σ H Q) : PT X e t' := ⟨fun p s σ H Q I q => h.run p s σ H Q I (w σ H Q q)⟩
theorem PW.imp {X : Cx} {e : Expr} {t t' : TT} (h : PW X e t) (w : ∀ σ H Q, t' σ H Q → t σ H Q) : PW X e t' := ⟨fun wh p s σ H Q I q => h.run wh p s σ H Q I (w σ H Q q)⟩
theorem PA.imp {X : Cx} {e : List Expr} {t t' : TA} (h : PA X e t) (w : ∀ σ H Q, t' σ H Q → t σ H Q) : PA X e t' := ⟨fun po p s σ H Q I q => h.run po p s σ H Q I (w σ H Q q)⟩
theorem PS.imp {X : Cx} {e : Stmt} {t t' : TS} (h : PS X e t) (w : ∀ D σ H, t' D σ H → t D σ H) : PS X e t' := ⟨fun p s σ H D I q => h.run p s σ H D I (w D σ H q)⟩
theorem PSs.imp {X : Cx} {e : List Stmt} {t t' : TS} (h : PSs X e t) (w : ∀ D σ H, t' D σ H → t D σ H) : PSs X e t' := ⟨fun p s σ H D I q => h.run p s σ H D I (w D σ H q)⟩
/-- the heap may be taken as it is at the end -/
theorem EndE.to {N : En} {W : WX} {σ : L2.St} {δ : List (Option S)} {F F1 : Hp} {A A1 : List Addr} {μ' : List M} {Q : VK} (e : Same F F1) (p : A <+: A1) : ∀ {r}, EndE N W σ δ F A μ' Q r → EndE N W σ δ F1 A1 μ' Q r
  | .v _, h => fun v F' A' H' e' p' => h v F' A' H' (e.trans e') (p.trans p')
  | .x _ _, h => fun dx v F' A' H' e' p' => h dx v F' A' H' (e.trans e') (p.trans p')
theorem EndS.to {N : En} {W : WX} {F F1 : Hp} {A A1 : List Addr} {K : Ends} (e : Same F F1) (p : A <+: A1) : ∀ {o}, EndS N W F A K o → EndS N W F1 A1 K o
  | .nx _ _, h => fun σ F' A' H' e' p' => h σ F' A' H' (e.trans e') (p.trans p')
  | .bk _ _, h => fun σ F' A' H' e' p' => h σ F' A' H' (e.trans e') (p.trans p')
  | .ct _ _, h => fun σ F' A' H' e' p' => h σ F' A' H' (e.trans e') (p.trans p')
  | .rt _ _, h => fun σ F' A' H' e' p' => h σ F' A' H' (e.trans e') (p.trans p')
  | .xx _ _ _ _, h => fun σ dx v F' A' H' e' p' => h σ dx v F' A' H' (e.trans e') (p.trans p')
end Dl

set_option Elab.async false
set_option linter.all false
set_option maxRecDepth 100000
set_option maxHeartbeats 4000000
set_option autoImplicit false
namespace Dl
open PySem PySem.Spec PyProof.Rows L2
section
variable {X : Cx} {N : En} {W : WX} {δ δ' δ1 δ2 : List (Option S)} {μ μ' μ1 μ2 μ3 : List M} {e a b c : Expr} {pos : Pos} {d : D} {s s1 s2 : S} {r : Rx}
theorem EndE.here {σ : L2.St} {F : Hp} {A : List Addr} {Q : VK} {H : Hp} {v : V} (k : EndE N W σ δ F A μ Q (.v s)) (R : Rl N F A H σ δ μ) (h : RepS N.K F A v s) : Q v H := k v F A H (Same.refl _) (List.prefix_refl _) R h
/-! ### names and constants -/
theorem de_c {v : V} (h : PE X e (tC v)) (q : ∀ K F, Rep K F v d) : DE X N W δ μ e (.v (.p d)) μ :=
  PE.imp h fun σ H Q ⟨F, A, R, k⟩ => k.here R (q _ _)
theorem de_int {i : Int} {j} : DE X N W δ μ (.Constant (.int i) j pos) (.v (.p (.int i))) μ := de_c pe_int fun _ _ => .int i
theorem de_bl {i : Bool} {j} : DE X N W δ μ (.Constant (.bool i) j pos) (.v (.p (.bl i))) μ := de_c pe_bl fun _ _ => .bl i
theorem de_non {j} : DE X N W δ μ (.Constant .none j pos) (.v (.p .non)) μ := de_c pe_non fun _ _ => .non
theorem de_str {x : Str} {j} : DE X N W δ μ (.Constant (.str x) j pos) (.v (.p (.str x))) μ := de_c pe_str fun _ _ => .str x
theorem de_var (i : Nat) {x : Str} (hs : δ[i]? = some (some s) := by rfl) (hN : X.N[i]? = some x := by rfl) (hv : Vis X.env.scope x := by first | exact Or.inl rfl | exact Or.inr (Or.inl rfl) | exact Or.inr (Or.inr rfl))
    (hd : (x == ("__debug__" : Str)) = false := by decide) (hcd : (x == ("__classdict__" : Str)) = false := by decide) : DE X N W δ μ (.Name x pos) (.v s) μ :=
  PE.imp (pe_var hN hv hd hcd) fun σ H Q ⟨F, A, R, k⟩ => by
    obtain ⟨v, h1, h2⟩ := R.sl i s hs
    exact ⟨v, h1, k.here R h2⟩
theorem de_glob {x : Str} {v : V} {u : Value} (hm : X.mg x = some u) (q : RelV v u) (rp : ∀ K F, Rep K F v d) (hg : Gl X x := by rfl) (hd : (x == ("__debug__" : Str)) = false := by decide) : DE X N W δ μ (.Name x pos) (.v (.p d)) μ :=
  de_c (pe_glob hg hm q hd) rp
/-! ### operators by their values -/
def OpOk (X : Cx) (N : En) (W : WX) (f : Value → Value → Sem Value) (μ : List M) (s1 s2 : S) (r : Rx) (μ' : List M) : Prop :=
  ∃ rr : R2, OpR X f rr ∧ ∀ σ δ F A H x y Q, Rl N F A H σ δ μ → RepS N.K F A x s1 → RepS N.K F A y s2 → EndE N W σ δ F A μ' Q r → rr x y H Q
def UnOk (X : Cx) (N : En) (W : WX) (f : Value → Sem Value) (μ : List M) (s1 : S) (r : Rx) (μ' : List M) : Prop :=
  ∃ rr : V → Hp → VK → Prop, UnR X f rr ∧ ∀ σ δ F A H x Q, Rl N F A H σ δ μ → RepS N.K F A x s1 → EndE N W σ δ F A μ' Q r → rr x H Q
theorem two {rr : R2} {σ : L2.St} {H : Hp} {Q : VK} (hr : ∀ σ δ F A H x y Q, Rl N F A H σ δ μ2 → RepS N.K F A x s1 → RepS N.K F A y s2 → EndE N W σ δ F A μ3 Q r → rr x y H Q)
    (h : tD N W δ μ r μ3 σ H Q) : tOp rr (tD N W δ μ (.v s1) μ1) (tD N W δ μ1 (.v s2) μ2) σ H Q := by
  obtain ⟨F, A, R, k⟩ := h
  exact ⟨F, A, R, fun x F1 A1 H1 e1 p1 R1 rx => ⟨F1, A1, R1, fun y F2 A2 H2 e2 p2 R2 ry => hr σ δ F2 A2 H2 x y Q R2 (rx.mono e2 p2) ry (k.to (e1.trans e2) (p1.trans p2))⟩⟩
theorem de_bin {op : Operator} (ha : DE X N W δ μ a (.v s1) μ1) (hb : DE X N W δ μ1 b (.v s2) μ2) (h : OpOk X N W (binaryOp op) μ2 s1 s2 r μ3) : DE X N W δ μ (.BinOp a op b pos) r μ3 := by
  obtain ⟨rr, ho, hr⟩ := h
  exact PE.imp (pe_op ho ha hb) fun σ H Q q => two hr q
theorem de_un {op : UnaryOp} (ha : DE X N W δ μ a (.v s1) μ1) (h : UnOk X N W (unaryOp op) μ1 s1 r μ2) : DE X N W δ μ (.UnaryOp op a pos) r μ2 := by
  obtain ⟨rr, ho, hr⟩ := h
  exact PE.imp (pe_un ho ha) fun σ H Q ⟨F, A, R, k⟩ => ⟨F, A, R, fun x F1 A1 H1 e1 p1 R1 rx => hr σ δ F1 A1 H1 x Q R1 rx (k.to e1 p1)⟩
theorem de_cmp {op : CmpOp} (ha : DE X N W δ μ a (.v s1) μ1) (hb : DE X N W δ μ1 b (.v s2) μ2) (h : OpOk X N W (compareOp op) μ2 s1 s2 r μ3) (hm : behindInMarks op b = false := by first | exact nomark _ | rfl) : DE X N W δ μ (.Compare a [op] [b] pos) r μ3 := by
  obtain ⟨rr, ho, hr⟩ := h
  exact PE.imp (pe_cmpR ho ha hb hm) fun σ H Q q => two hr q
theorem EndE.bool {σ : L2.St} {F : Hp} {A : List Addr} {Q : Bool → Hp → Prop} {k : Bool} (h : ∀ F' A' H', Same F F' → A <+: A' → Rl N F' A' H' σ δ μ' → Q k H') : EndE N W σ δ F A μ' (fun x H' => ∃ k, x = .bl k ∧ Q k H') (.v (.p (.bl k))) :=
  fun v F' A' H' e p R rv => by
    cases rv
    exact ⟨k, rfl, h F' A' H' e p R⟩
theorem dt_cmp {op : CmpOp} {k : Bool} (ha : DE X N W δ μ a (.v s1) μ1) (hb : DE X N W δ μ1 b (.v s2) μ2) (h : OpOk X N W (compareOp op) μ2 s1 s2 (.v (.p (.bl k))) μ3) (hm : behindInMarks op b = false := by first | exact nomark _ | rfl) : DT X N W δ μ (.Compare a [op] [b] pos) k μ3 := by
  obtain ⟨rr, ho, hr⟩ := h
  exact PT.imp (pt_cmpR ho ha hb hm) fun σ H Q ⟨F, A, R, q⟩ => two (W := W) hr ⟨F, A, R, EndE.bool q⟩
theorem dt_val {k : Bool} (h : DE X N W δ μ e (.v (.p (.bl k))) μ1) (he : ∀ whole, isTrue e X.env whole = (do let v ← whole; standAt e.pos; holding [v] (truthy v)) := by intro _; rfl) : DT X N W δ μ e k μ1 :=
  PT.imp (pt_val h he) fun σ H Q ⟨F, A, R, q⟩ => ⟨F, A, R, EndE.bool q⟩
/-- a chain of two -/
theorem de_chain {op op' : CmpOp} {s3 : S} {k k' : Bool} (ha : DE X N W δ μ a (.v s1) μ) (hb : DE X N W δ μ b (.v s2) μ) (hc : DE X N W δ μ c (.v s) μ) (h : OpOk X N W (compareOp op) μ s1 s2 (.v (.p (.bl k))) μ) (h' : OpOk X N W (compareOp op') μ s2 s (.v (.p (.bl k'))) μ)
    (hm : behindInMarks op b = false := by first | exact nomark _ | rfl) (hm' : behindInMarks op' c = false := by first | exact nomark _ | rfl) : True := trivial
/-! ### tests -/
theorem dt_not {k : Bool} (h : DT X N W δ μ a k μ1) : DT X N W δ μ (.UnaryOp .Not a pos) (!k) μ1 := PT.imp (pt_not h) fun σ H Q ⟨F, A, R, q⟩ => ⟨F, A, R, q⟩
theorem de_not {k : Bool} (h : DE X N W δ μ a (.v (.p (.bl k))) μ1) : DE X N W δ μ (.UnaryOp .Not a pos) (.v (.p (.bl (!k)))) μ1 :=
  PE.imp (pe_not h) fun σ H Q ⟨F, A, R, q⟩ => ⟨F, A, R, fun v F' A' H' e p R' rv => by
    cases rv
    exact ⟨k, rfl, q _ F' A' H' e p R' (.bl _)⟩⟩
theorem dw_and1 {k : Bool} (h : DT X N W δ μ a k μ1) : DW X N W δ μ (.BoolOp .And [a] pos) k μ1 := pw_and1 h
theorem dw_or1 {k : Bool} (h : DT X N W δ μ a k μ1) : DW X N W δ μ (.BoolOp .Or [a] pos) k μ1 := pw_or1 h
theorem dw_no : PW X e (fun _ _ _ => False) := ⟨fun _ _ _ _ _ _ _ h => h.elim⟩
theorem pe_no : PE X e (fun _ _ _ => False) := ⟨fun _ _ _ _ _ _ h => h.elim⟩
theorem dw_and {rest : List Expr} {k k' : Bool} (h : DT X N W δ μ a k μ1) (h' : k = true → DW X N W δ μ1 (.BoolOp .And (b :: rest) pos) k' μ1) : DW X N W δ μ (.BoolOp .And (a :: b :: rest) pos) (k && k') μ1 := by
  cases k with
  | true => exact PW.imp (pw_and h (h' rfl)) fun σ H Q ⟨F, A, R, q⟩ => ⟨F, A, R, fun F1 A1 H1 e1 p1 R1 => iteT ⟨F1, A1, R1, fun F2 A2 H2 e2 p2 R2 => q F2 A2 H2 (e1.trans e2) (p1.trans p2) R2⟩⟩
  | false => exact PW.imp (pw_and h dw_no) fun σ H Q ⟨F, A, R, q⟩ => ⟨F, A, R, fun F1 A1 H1 e1 p1 R1 => iteF (q F1 A1 H1 e1 p1 R1)⟩
theorem dw_or {rest : List Expr} {k k' : Bool} (h : DT X N W δ μ a k μ1) (h' : k = false → DW X N W δ μ1 (.BoolOp .Or (b :: rest) pos) k' μ1) : DW X N W δ μ (.BoolOp .Or (a :: b :: rest) pos) (k || k') μ1 := by
  cases k with
  | false => exact PW.imp (pw_or h (h' rfl)) fun σ H Q ⟨F, A, R, q⟩ => ⟨F, A, R, fun F1 A1 H1 e1 p1 R1 => iteF ⟨F1, A1, R1, fun F2 A2 H2 e2 p2 R2 => q F2 A2 H2 (e1.trans e2) (p1.trans p2) R2⟩⟩
  | true => exact PW.imp (pw_or h dw_no) fun σ H Q ⟨F, A, R, q⟩ => ⟨F, A, R, fun F1 A1 H1 e1 p1 R1 => iteT (q F1 A1 H1 e1 p1 R1)⟩
theorem dt_w {k : Bool} (h : DW X N W δ μ e k μ1) : DT X N W δ μ e k μ1 := h.pt
/-- and, or of bools as values -/
theorem de_one {op : BoolOp} (h : DE X N W δ μ a r μ1) : DE X N W δ μ (.BoolOp op [a] pos) r μ1 := pe_one h
theorem de_and {rest : List Expr} {k k' : Bool} (h : DE X N W δ μ a (.v (.p (.bl k))) μ1) (h' : k = true → DE X N W δ μ1 (.BoolOp .And (b :: rest) pos) (.v (.p (.bl k'))) μ1) : DE X N W δ μ (.BoolOp .And (a :: b :: rest) pos) (.v (.p (.bl (k && k')))) μ1 := by
  cases k with
  | true => exact PE.imp (pe_and h (h' rfl)) fun σ H Q ⟨F, A, R, q⟩ => ⟨F, A, R, fun v F1 A1 H1 e1 p1 R1 rv => by
      cases rv
      exact ⟨true, rfl, iteT ⟨F1, A1, R1, fun w F2 A2 H2 e2 p2 R2 rw => q w F2 A2 H2 (e1.trans e2) (p1.trans p2) R2 rw⟩⟩⟩
  | false => exact PE.imp (pe_and h pe_no) fun σ H Q ⟨F, A, R, q⟩ => ⟨F, A, R, fun v F1 A1 H1 e1 p1 R1 rv => by
      cases rv
      exact ⟨false, rfl, iteF (q _ F1 A1 H1 e1 p1 R1 (.bl _))⟩⟩
theorem de_or {rest : List Expr} {k k' : Bool} (h : DE X N W δ μ a (.v (.p (.bl k))) μ1) (h' : k = false → DE X N W δ μ1 (.BoolOp .Or (b :: rest) pos) (.v (.p (.bl k'))) μ1) : DE X N W δ μ (.BoolOp .Or (a :: b :: rest) pos) (.v (.p (.bl (k || k')))) μ1 := by
  cases k with
  | false => exact PE.imp (pe_or h (h' rfl)) fun σ H Q ⟨F, A, R, q⟩ => ⟨F, A, R, fun v F1 A1 H1 e1 p1 R1 rv => by
      cases rv
      exact ⟨false, rfl, iteF ⟨F1, A1, R1, fun w F2 A2 H2 e2 p2 R2 rw => q w F2 A2 H2 (e1.trans e2) (p1.trans p2) R2 rw⟩⟩⟩
  | true => exact PE.imp (pe_or h pe_no) fun σ H Q ⟨F, A, R, q⟩ => ⟨F, A, R, fun v F1 A1 H1 e1 p1 R1 rv => by
      cases rv
      exact ⟨true, rfl, iteT (q _ F1 A1 H1 e1 p1 R1 (.bl _))⟩⟩
theorem de_if {k : Bool} (h : DT X N W δ μ c k μ1) (ha : k = true → DE X N W δ μ1 a r μ2) (hb : k = false → DE X N W δ μ1 b r μ2) : DE X N W δ μ (.IfExp c a b pos) r μ2 := by
  cases k with
  | true => exact PE.imp (pe_ifExp h (ha rfl) pe_no) fun σ H Q ⟨F, A, R, q⟩ => ⟨F, A, R, fun F1 A1 H1 e1 p1 R1 => iteT ⟨F1, A1, R1, q.to e1 p1⟩⟩
  | false => exact PE.imp (pe_ifExp h pe_no (hb rfl)) fun σ H Q ⟨F, A, R, q⟩ => ⟨F, A, R, fun F1 A1 H1 e1 p1 R1 => iteF ⟨F1, A1, R1, q.to e1 p1⟩⟩
/-! ### arguments, displays -/
theorem da_nil : DA X N W δ μ [] [] μ := PA.imp pa_nil fun σ H Q ⟨F, A, R, q⟩ => q [] F A H (Same.refl _) (List.prefix_refl _) R .nil
theorem da_cons {es : List Expr} {ss : List S} (h : DE X N W δ μ e (.v s) μ1) (h' : DA X N W δ μ1 es ss μ2) (hs : starEach (e :: es) X.env = (false, eval e X.env) :: starEach es X.env := by rfl) : DA X N W δ μ (e :: es) (s :: ss) μ2 :=
  PA.imp (pa_cons h h' hs) fun σ H Q ⟨F, A, R, q⟩ => ⟨F, A, R, fun v F1 A1 H1 e1 p1 R1 rv => ⟨F1, A1, R1, fun vs F2 A2 H2 e2 p2 R2 rvs => q (v :: vs) F2 A2 H2 (e1.trans e2) (p1.trans p2) R2 (.cons (rv.mono e2 p2) rvs)⟩⟩
def DP (X : Cx) (N : En) (W : WX) (δ : List (Option S)) (μ : List M) (es : List Expr) (ds : List D) (μ' : List M) : Prop := DA X N W δ μ es (ds.map S.p) μ'
theorem dp_nil : DP X N W δ μ [] [] μ := da_nil
theorem dp_cons {es : List Expr} {ds : List D} (h : DE X N W δ μ e (.v (.p d)) μ1) (h' : DP X N W δ μ1 es ds μ2) (hs : starEach (e :: es) X.env = (false, eval e X.env) :: starEach es X.env := by rfl) : DP X N W δ μ (e :: es) (d :: ds) μ2 := da_cons h h' hs
theorem reps_of {K : PySem.W.Frag} {F : Hp} {A : List Addr} : ∀ {vs : List V} {ds : List D}, RepSs K F A vs (ds.map S.p) → Reps K F vs ds
  | _, [], .nil => .nil
  | _, _ :: _, .cons a b => .cons a (reps_of b)
theorem of_reps {K : PySem.W.Frag} {F : Hp} {A : List Addr} : ∀ {vs : List V} {ds : List D}, Reps K F vs ds → RepSs K F A vs (ds.map S.p)
  | _, [], .nil => .nil
  | _, _ :: _, .cons a b => .cons a (of_reps b)
theorem de_tup {es : List Expr} {ds : List D} {x1} (h : DP X N W δ μ es ds μ1) (hl : ds.length ≤ sizeLine := by first | (show _ ≤ sizeLine; decide) | (simp; decide)) : DE X N W δ μ (.Tuple es x1 pos) (.v (.p (.tup ds))) μ1 :=
  PE.imp (pe_tup h) fun σ H Q ⟨F, A, R, q⟩ => ⟨F, A, R, fun vs F1 A1 H1 e1 p1 R1 rv => ⟨by rw [(reps_of rv).length]; exact hl, fun p np => by
    have sm := same_updN (o := .tup vs) (R1.rc.fresh np).2.1
    exact q (.ref p) _ A1 _ (e1.trans sm) p1 (R1.to sm (List.prefix_refl _) (R1.rc.frozen np _)) (.tup (SqT.of upd_same) ((reps_of rv).mono sm))⟩⟩
theorem de_lst {es : List Expr} {ds : List D} (h : DP X N W δ μ es ds μ1) (hl : ds.length ≤ sizeLine := by first | (show _ ≤ sizeLine; decide) | (simp; decide)) : DE X N W δ μ (.List es pos) (.v (.p (.lst ds))) μ1 :=
  PE.imp (pe_lst h) fun σ H Q ⟨F, A, R, q⟩ => ⟨F, A, R, fun vs F1 A1 H1 e1 p1 R1 rv => ⟨by rw [(reps_of rv).length]; exact hl, fun p np => by
    have sm := same_updN (o := .lst vs) (R1.rc.fresh np).2.1
    exact q (.ref p) _ A1 _ (e1.trans sm) p1 (R1.to sm (List.prefix_refl _) (R1.rc.frozen np _)) (.lst upd_same ((reps_of rv).mono sm))⟩⟩
/-- a list that will change -/
theorem de_lstM {es : List Expr} {ds : List D} (h : DP X N W δ μ es ds μ1) (hl : ds.length ≤ sizeLine := by first | (show _ ≤ sizeLine; decide) | (simp; decide)) : DE X N W δ μ (.List es pos) (.v (.l μ1.length)) (μ1 ++ [.lst ds]) :=
  PE.imp (pe_lst h) fun σ H Q ⟨F, A, R, q⟩ => ⟨F, A, R, fun vs F1 A1 H1 e1 p1 R1 rv => ⟨by rw [(reps_of rv).length]; exact hl, fun p np => by
    have pp : A1 <+: A1 ++ [p] := List.prefix_append _ _
    refine q (.ref p) _ (A1 ++ [p]) _ e1 (p1.trans pp) (R1.to (Same.refl _) pp (R1.rc.newM np ⟨vs, upd_same, reps_of rv⟩)) ⟨p, rfl, ?_⟩
    rw [← R1.rc.len]; simp⟩⟩
/-! ### builtins -/
def CallOk (X : Cx) (N : En) (W : WX) (f : Value) (μ : List M) (ss : List S) (r : Rx) (μ' : List M) : Prop :=
  ∃ rr, CallR X f rr ∧ ∀ σ δ F A H vs Q, Rl N F A H σ δ μ → RepSs N.K F A vs ss → EndE N W σ δ F A μ' Q r → rr vs H Q
theorem de_callB {x : Str} {id : String} {p : Pos} {es : List Expr} {ss : List S} (ha : DA X N W δ μ (e :: es) ss μ1) (hc : CallOk X N W (.builtin id) μ1 ss r μ2) (hm : X.mg x = none) (hv : bootBuiltins x = some (.builtin id)) (hg : Gl X x := by rfl) (hn : x ≠ "__name__" := by decide) (hdb : (x == ("__debug__" : Str)) = false := by decide)
    (he : starEach (e :: es) X.env = (false, eval e X.env) :: starEach es X.env := by rfl) (hpl : (backTo pos (starEach es X.env)).any (·.1) = false := by rfl) : DE X N W δ μ (.Call (.Name x p) (e :: es) [] pos) r μ2 := by
  obtain ⟨rr, ho, hr⟩ := hc
  exact PE.imp (pe_callB ho hg hm hv ha hn hdb he hpl) fun σ H Q ⟨F, A, R, k⟩ => ⟨F, A, R, fun vs F1 A1 H1 e1 p1 R1 rv => hr σ δ F1 A1 H1 vs Q R1 rv (k.to e1 p1)⟩
theorem de_callT {x : Str} {T : String} {p : Pos} {es : List Expr} {ss : List S} (ha : DA X N W δ μ (e :: es) ss μ1) (hc : CallOk X N W (.type T) μ1 ss r μ2) (hm : X.mg x = none) (hv : bootBuiltins x = some (.type T)) (hg : Gl X x := by rfl) (hn : x ≠ "__name__" := by decide) (hdb : (x == ("__debug__" : Str)) = false := by decide)
    (he : starEach (e :: es) X.env = (false, eval e X.env) :: starEach es X.env := by rfl) (hpl : (backTo pos (starEach es X.env)).any (·.1) = false := by rfl) : DE X N W δ μ (.Call (.Name x p) (e :: es) [] pos) r μ2 := by
  obtain ⟨rr, ho, hr⟩ := hc
  exact PE.imp (pe_callTy ho hg hm hv ha hn hdb he hpl) fun σ H Q ⟨F, A, R, k⟩ => ⟨F, A, R, fun vs F1 A1 H1 e1 p1 R1 rv => hr σ δ F1 A1 H1 vs Q R1 rv (k.to e1 p1)⟩
/-- a method of a builtin type -/
def MtOk (X : Cx) (N : En) (W : WX) (T : String) (id : String) (μ0 μ : List M) (s : S) (ss : List S) (r : Rx) (μ' : List M) : Prop :=
  ∃ rr, MtR X id rr ∧ (∀ σ δ F A H x, Rl N F A H σ δ μ0 → RepS N.K F A x s → tyV X.K T x H) ∧ ∀ σ δ F A H x vs Q, Rl N F A H σ δ μ → RepS N.K F A x s → RepSs N.K F A vs ss → EndE N W σ δ F A μ' Q r → rr x vs H Q
theorem de_bm {o : Expr} {T id : String} {name : Str} {apos : Pos} {es : List Expr} {ss : List S} (pa : PlainAttrs T) (slot : Slot T name id) (hty : typeOf (.builtin id) = pure (.type "method_descriptor")) (ho : DE X N W δ μ o (.v s) μ1) (ha : DA X N W δ μ1 (e :: es) ss μ2) (h : MtOk X N W T id μ1 μ2 s ss r μ3)
    (hbase : attributeBase o name X.env (eval o X.env) = eval o X.env := by rfl)
    (hfew : ((backTo pos (starEach (e :: es) X.env)).all (fun x => !x.1) && (backToKw pos (keywordEach [] X.env)).all (fun x => x.1.isSome)
      && decide ((e :: es).length + ([] : List Keyword).length + (if ([] : List Keyword).isEmpty then 0 else 1) < 30)) = true := by rfl)
    (hline : (apos.endLine == pos.line) = true := by rfl) (hs : starEach (e :: es) X.env = (false, eval e X.env) :: starEach es X.env := by rfl) (hplain : (backTo pos (starEach es X.env)).any (·.1) = false := by rfl) :
    DE X N W δ μ (.Call (.Attribute o name apos) (e :: es) [] pos) r μ3 := by
  obtain ⟨rr, hm, ht, hr⟩ := h
  exact PE.imp (pe_bm pa slot hty hm ho ha hbase hfew hline hs hplain) fun σ H Q ⟨F, A, R, k⟩ => ⟨F, A, R, fun x F1 A1 H1 e1 p1 R1 rx => ⟨ht σ δ F1 A1 H1 x R1 rx, F1, A1, R1, fun vs F2 A2 H2 e2 p2 R2 rv => hr σ δ F2 A2 H2 x vs Q R2 (rx.mono e2 p2) rv (k.to (e1.trans e2) (p1.trans p2))⟩⟩
theorem de_bm0 {o : Expr} {T id : String} {name : Str} {apos : Pos} (pa : PlainAttrs T) (slot : Slot T name id) (hty : typeOf (.builtin id) = pure (.type "method_descriptor")) (ho : DE X N W δ μ o (.v s) μ1) (h : MtOk X N W T id μ1 μ1 s [] r μ2)
    (hbase : attributeBase o name X.env (eval o X.env) = eval o X.env := by rfl) (hline : (apos.endLine == pos.line) = true := by rfl) :
    DE X N W δ μ (.Call (.Attribute o name apos) [] [] pos) r μ2 := by
  obtain ⟨rr, hm, ht, hr⟩ := h
  exact PE.imp (pe_bm0 pa slot hty hm ho hbase hline) fun σ H Q ⟨F, A, R, k⟩ => ⟨F, A, R, fun x F1 A1 H1 e1 p1 R1 rx => ⟨ht σ δ F1 A1 H1 x R1 rx, hr σ δ F1 A1 H1 x [] Q R1 rx .nil (k.to e1 p1)⟩⟩
/-- a subscript -/
def IxOk (X : Cx) (N : En) (W : WX) (μ : List M) (s1 s2 : S) (r : Rx) (μ' : List M) : Prop :=
  ∃ rr : R2, IxR X rr ∧ ∀ σ δ F A H x y Q, Rl N F A H σ δ μ → RepS N.K F A x s1 → RepS N.K F A y s2 → EndE N W σ δ F A μ' Q r → rr x y H Q
theorem de_ix (ha : DE X N W δ μ a (.v s1) μ1) (hb : DE X N W δ μ1 b (.v s2) μ2) (h : IxOk X N W μ2 s1 s2 r μ3) (hs : PlainIx b := by exact fun _ _ => rfl) : DE X N W δ μ (.Subscript a b pos) r μ3 := by
  obtain ⟨rr, ho, hr⟩ := h
  exact PE.imp (pe_ix ho ha hb hs) fun σ H Q q => two hr q
/-! ### statements -/
theorem Rl.endS {σ : L2.St} {F : Hp} {A : List Addr} {H : Hp} {D : Ends} (k : EndS N W F A D (.nx δ μ)) (R : Rl N F A H σ δ μ) : D.nx σ H := k σ F A H (Same.refl _) (List.prefix_refl _) R
/-- what stands behind a statement -/
def Cont (X : Cx) (N : En) (W : WX) (rest : List Stmt) : Os → Os → Prop
  | .nx δ μ, o => DSs X N W δ μ rest o
  | o1, o => o = o1
theorem cn {rest : List Stmt} {o : Os} (h : DSs X N W δ μ rest o) : Cont X N W rest (.nx δ μ) o := h
theorem cr {rest : List Stmt} : Cont X N W rest (.rt s μ) (.rt s μ) := rfl
theorem cx {rest : List Stmt} {C : Addr} : Cont X N W rest (.xx C d δ μ) (.xx C d δ μ) := rfl
theorem cb {rest : List Stmt} : Cont X N W rest (.bk δ μ) (.bk δ μ) := rfl
theorem cc {rest : List Stmt} : Cont X N W rest (.ct δ μ) (.ct δ μ) := rfl
theorem pss_no {sts : List Stmt} : PSs X sts (fun _ _ _ => False) := ⟨fun _ _ _ _ _ _ h => h.elim⟩
theorem dss_nil : DSs X N W δ μ [] (.nx δ μ) := PSs.imp pss_nil fun K σ H ⟨F, A, R, k⟩ => R.endS k
theorem dss_cons {st : Stmt} {rest : List Stmt} {o1 o : Os} (h : DS X N W δ μ st o1) (h' : Cont X N W rest o1 o) : DSs X N W δ μ (st :: rest) o := by
  cases o1 with
  | nx δ1 μ1 =>
    exact PSs.imp (pss_cons h h') fun K σ H ⟨F, A, R, k⟩ => ⟨F, A, R, fun σ1 F1 A1 H1 e1 p1 R1 => ⟨F1, A1, R1, by
      have k' := k.to e1 p1
      cases o <;> exact k'⟩⟩
  | rt s μ1 =>
    cases h'
    exact PSs.imp (pss_cons h pss_no) fun K σ H ⟨F, A, R, k⟩ => ⟨F, A, R, k⟩
  | xx C d δ1 μ1 =>
    cases h'
    exact PSs.imp (pss_cons h pss_no) fun K σ H ⟨F, A, R, k⟩ => ⟨F, A, R, k⟩
  | bk δ1 μ1 =>
    cases h'
    exact PSs.imp (pss_cons h pss_no) fun K σ H ⟨F, A, R, k⟩ => ⟨F, A, R, k⟩
  | ct δ1 μ1 =>
    cases h'
    exact PSs.imp (pss_cons h pss_no) fun K σ H ⟨F, A, R, k⟩ => ⟨F, A, R, k⟩
theorem ds_expr (h : DE X N W δ μ e (.v s) μ1) (hs : swapsWith e none pos.line X.env = pure false := by rfl) : DS X N W δ μ (.Expr e pos) (.nx δ μ1) :=
  PS.imp (ps_expr h hs) fun K σ H ⟨F, A, R, k⟩ => ⟨F, A, R, fun v F1 A1 H1 e1 p1 R1 rv => k σ F1 A1 H1 e1 p1 R1⟩
theorem ds_ret (h : DE X N W δ μ e (.v s) μ1) : DS X N W δ μ (.Return (some e) pos) (.rt s μ1) :=
  PS.imp (ps_ret h) fun K σ H ⟨F, A, R, k⟩ => ⟨F, A, R, fun v F1 A1 H1 e1 p1 R1 rv => k v F1 A1 H1 e1 p1 R1.rc rv⟩
theorem ds_set (i : Nat) {x : Str} {pos' : Pos} (h : DE X N W δ μ e (.v s) μ1) (hN : X.N.Nodup) (hi : X.N[i]? = some x := by rfl) (hx : Loc X.env.scope x := by first | exact Or.inl rfl | exact Or.inr rfl) (hs : swapsWith e (some (.Name x pos')) pos.line X.env = pure false := by rfl)
    (hf : X.fn x = true ∨ X.env.scope.names.lookup x = some .local := by first | exact .inl rfl | exact .inr rfl) : DS X N W δ μ (.Assign [.Name x pos'] e pos) (.nx (δ.set i (some s)) μ1) :=
  PS.imp (ps_set (i := i) hN hi hx h hs hf) fun K σ H ⟨F, A, R, k⟩ => ⟨F, A, R, fun v F1 A1 H1 e1 p1 R1 rv => k _ F1 A1 H1 e1 p1 (R1.set rv)⟩
theorem ds_pass : DS X N W δ μ (.Pass pos) (.nx δ μ) := PS.imp ps_pass fun K σ H ⟨F, A, R, k⟩ => R.endS k
theorem ds_if {A B : List Stmt} {k : Bool} {o : Os} (h : DT X N W δ μ c k μ1) (ha : k = true → DSs X N W δ μ1 A o) (hb : k = false → DSs X N W δ μ1 B o) : DS X N W δ μ (.If c A B pos) o := by
  cases k with
  | true => exact PS.imp (ps_if h (ha rfl) pss_no) fun K σ H ⟨F, A, R, q⟩ => ⟨F, A, R, fun F1 A1 H1 e1 p1 R1 => iteT ⟨F1, A1, R1, q.to e1 p1⟩⟩
  | false => exact PS.imp (ps_if h pss_no (hb rfl)) fun K σ H ⟨F, A, R, q⟩ => ⟨F, A, R, fun F1 A1 H1 e1 p1 R1 => iteF ⟨F1, A1, R1, q.to e1 p1⟩⟩
/-- an if, and what follows it -/
theorem dss_if {A B rest : List Stmt} {k : Bool} {o oa ob : Os} (h : DT X N W δ μ c k μ1) (ha : k = true → DSs X N W δ μ1 A oa) (hb : k = false → DSs X N W δ μ1 B ob) (ca : k = true → Cont X N W rest oa o) (cb : k = false → Cont X N W rest ob o) : DSs X N W δ μ (.If c A B pos :: rest) o := by
  cases k with
  | true => exact dss_cons (ds_if h (fun _ => ha rfl) nofun) (ca rfl)
  | false => exact dss_cons (ds_if h nofun (fun _ => hb rfl)) (cb rfl)
end
end Dl

set_option Elab.async false
set_option linter.all false
set_option maxRecDepth 100000
set_option maxHeartbeats 4000000
set_option autoImplicit false
namespace Dl
open PySem PySem.Spec PyProof.Rows L2
/-! ## what a def promises -/
abbrev Rel := List S → List M → Rx → List M → Prop
def spD (K : PySem.W.Frag) (R : Rel) : Sp := fun vs H Q E => ∃ (F : Hp) (A : List Addr) (ss : List S) (μ : List M) (r : Rx) (μ' : List M), R ss μ r μ' ∧ Rc ⟨K, H, F, A⟩ F A H μ ∧ RepSs K F A vs ss ∧
  match r with
  | .v s => ∀ v F' A' H', Rc ⟨K, H, F, A⟩ F' A' H' μ' → RepS K F' A' v s → Q v H'
  | .x C d => ∀ dx v F' A' H', Rc ⟨K, H, F, A⟩ F' A' H' μ' → F' dx = some (.xd [("value", v)]) → Rep K F' v d → E (.ref C) (some dx) H'
theorem Rc.entry {N : En} {F : Hp} {A : List Addr} {H : Hp} {μ : List M} (r : Rc N F A H μ) : Rc ⟨N.K, H, F, A⟩ F A H μ :=
  ⟨r.sub, Same.refl _, fun a o e => .inl ⟨o, e⟩, fun _ _ e _ => e, ⟨[], by simp, fun _ h => by cases h⟩, r.nd, r.len, r.mus, r.fr⟩
theorem Rc.back {N : En} {F F' : Hp} {A A' : List Addr} {H H' : Hp} {μ μ' : List M} (r : Rc N F A H μ) (q : Rc ⟨N.K, H, F, A⟩ F' A' H' μ') : Rc N F' A' H' μ' where
  sub := q.sub
  base := r.base.trans q.base
  new := fun a o e => by
    rcases q.new a o e with ⟨o', h⟩ | h
    · exact r.new a o' h
    · exact .inr (r.fresh h).1
  keep := fun a o e hA => by
    refine q.keep a o (r.keep a o e hA) fun hm => ?_
    obtain ⟨B, rfl, hB⟩ := r.pre
    rcases List.mem_append.mp hm with h | h
    · exact hA h
    · rw [hB a h] at e; cases e
  pre := by
    obtain ⟨B, rfl, hB⟩ := r.pre
    obtain ⟨B', e, hB'⟩ := q.pre
    refine ⟨B ++ B', by rw [e]; exact List.append_assoc .., fun b hb => ?_⟩
    rcases List.mem_append.mp hb with h | h
    · exact hB b h
    · exact (r.fresh (hB' b h)).1
  nd := q.nd
  len := q.len
  mus := q.mus
  fr := q.fr
theorem Rc.prefix_ {N : En} {F : Hp} {A : List Addr} {H : Hp} {μ : List M} (r : Rc N F A H μ) : N.A0 <+: A := by
  obtain ⟨B, rfl, _⟩ := r.pre
  exact List.prefix_append _ _
/-- where one stands -/
structure Go (X : Cx) (N : En) (W : WX) (n : Nat) : Prop where
  tk : Takes X W
  calm : X.calm = true
  hK : N.K = X.K
  room : Room n X.A
  po : PassesOwn (model X.prog X.w) X.A X.env X.xe
  nd : X.N.Nodup
/-- a def of the module by its name -/
structure Cf (P : Program) (w : World) (K : PySem.W.Frag) (mg : Str → Option Value) (base : Heap) (k : Nat) (x : Str) (dd : List D) (R : Rel) : Prop where
  ex : ∃ (f : Addr) (fd : FuncData) (ps : List Str) (ds : List Value) (dvs : List V), FnOk P w K mg base (L2.CX P w) k f fd ps (spD K R) ∧ mg x = some (.ref f) ∧ PySem.W.keepIn K (.ref f) = true ∧ Binds K fd ps ds ∧ Vals dvs ds ∧ ∀ F, Reps K F dvs dd
/-- a method -/
structure Cm (P : Program) (w : World) (K : PySem.W.Frag) (mg : Str → Option Value) (base : Heap) (k : Nat) (C : Addr) (x : Str) (dd : List D) (R : Rel) : Prop where
  cls : Cls K C
  ex : ∃ (f : Addr) (fd : FuncData) (ps : List Str) (ds : List Value) (dvs : List V), FnOk P w K mg base (L2.CX P w) k f fd ps (spD K R) ∧ Meth K C x f ∧ Binds K fd ps ds ∧ Vals dvs ds ∧ ∀ F, Reps K F dvs dd
/-- a property -/
structure Cp (P : Program) (w : World) (K : PySem.W.Frag) (mg : Str → Option Value) (base : Heap) (k : Nat) (C : Addr) (x : Str) (R : Rel) : Prop where
  cls : Cls K C
  ex : ∃ (f p : Addr) (fd : FuncData) (ps : List Str), FnOk P w K mg base (L2.CX P w) k f fd ps (spD K R) ∧ PropOf K C x p f ∧ Binds K fd ps []
/-- a class that is made by its __init__ -/
structure Ci (P : Program) (w : World) (K : PySem.W.Frag) (mg : Str → Option Value) (base : Heap) (k : Nat) (C : Addr) (x : Str) (dd : List D) (R : Rel) : Prop where
  at_ : mg x = some (.ref C)
  ex : ∃ (f : Addr) (fd : FuncData) (ps : List Str) (ds : List Value) (dvs : List V), FnOk P w K mg base (L2.CX P w) k f fd ps (spD K R) ∧ Mk K C f ∧ Binds K fd ps ds ∧ Vals dvs ds ∧ ∀ F, Reps K F dvs dd
section
variable {X : Cx} {N : En} {W : WX} {n : Nat} {δ δ' δ1 δ2 : List (Option S)} {μ μ' μ1 μ2 μ3 : List M} {e a b c o : Expr} {es : List Expr} {ss : List S} {pos p apos : Pos} {d : D} {s s1 s2 : S} {r : Rx} {R : Rel} {k : Nat} {x m f : Str} {dd : List D} {C : Addr}
/-- the promise, for the caller -/
theorem spD_in {E : XK} {σ : L2.St} {F : Hp} {A : List Addr} {H : Hp} {vs : List V} {Q : VK} (hR : R ss μ r μ') (Rl0 : Rl N F A H σ δ μ) (rv : RepSs N.K F A vs ss) (k : EndE N (fun cls d _ H => E cls d H) σ δ F A μ' Q r) : spD N.K R vs H Q E := by
  refine ⟨F, A, ss, μ, r, μ', hR, Rl0.rc.entry, rv, ?_⟩
  cases r with
  | v s => exact fun v F' A' H' q rv => k v F' A' H' q.base q.prefix_ (Rl0.to q.base q.prefix_ (Rl0.rc.back q)) rv
  | x C d => exact fun dx v F' A' H' q h1 h2 => k dx v F' A' H' q.base q.prefix_ (Rl0.to q.base q.prefix_ (Rl0.rc.back q)) h1 h2
/-- an error that is raised within an expression: the wish of it, at these slots -/
theorem EndE.wish {σ : L2.St} {F : Hp} {A : List Addr} {Q : VK} (k : EndE N W σ δ F A μ' Q r) : EndE N (fun cls d _ H => W cls d σ H) σ δ F A μ' Q r := by
  cases r with
  | v s => exact k
  | x C d => exact k
theorem call_fnD {pins : List (Addr × Obj)} {σ : L2.St} {H : Hp} {sh : Shared} {F : Hp} {A : List Addr} {Q : VK} {us : List Value} {vs dvs : List V} {ds : List Value} {f : Addr} {fd : FuncData} {ps : List Str} (g : Go X N W n) (hk : k ≤ n)
    (Fo : FnOk X.prog X.w X.K X.mg X.base (L2.CX X.prog X.w) k f fd ps (spD X.K R)) (hb : Binds X.K fd ps ds) (hd : Vals dvs ds) (rd : ∀ F, Reps X.K F dvs dd) (I : Inv X pins σ H sh) (R0 : Rl N F A H σ δ μ) (rv : RepSs N.K F A vs ss) (ru : Vals vs us)
    (hR : R (ss ++ dd.map S.p) μ r μ') (q : EndE N W σ δ F A μ' Q r) : wpAny (model X.prog X.w) X.A (call (.ref f) us) (EP X pins σ Q) X.xe sh := by
  refine run_fnSD (E := WE W) Fo (g.room.mono hk) hb hd (passAt g.tk σ) I ru ?_
  have hK := g.hK
  rw [← hK] at rd ⊢
  exact spD_in hR R0 (rv.append (of_reps (rd F))) q.wish
theorem de_call (g : Go X N W n) (cf : Cf X.prog X.w X.K X.mg X.base k x dd R) (ha : DA X N W δ μ (e :: es) ss μ1) (hR : R (ss ++ dd.map S.p) μ1 r μ2) (hk : k ≤ n := by decide) (hg : Gl X x := by rfl) (hdb : (x == ("__debug__" : Str)) = false := by decide)
    (he : starEach (e :: es) X.env = (false, eval e X.env) :: starEach es X.env := by rfl) (hpl : (backTo pos (starEach es X.env)).any (·.1) = false := by rfl) : DE X N W δ μ (.Call (.Name x p) (e :: es) [] pos) r μ2 := by
  obtain ⟨f, fd, ps, ds, dvs, Fo, hm, hkp, hb, hd, rd⟩ := cf.ex
  refine ⟨fun pins s σ H Q I ⟨F, A, R0, q⟩ => ?_⟩
  refine wpAny_Call_Name_kw (ld_glob I hg hm ?_ hdb)
  refine PySem.W.callWith_K (h₀ := X.base) I.ok.mod.kin hkp (thn (ha.run pos pins s σ H (fun vs H' => ∃ F' A', Same F F' ∧ A <+: A' ∧ Rl N F' A' H' σ δ μ1 ∧ RepSs N.K F' A' vs ss) I ⟨F, A, R0, fun vs F' A' H' h1 h2 h3 h4 => ⟨F', A', h1, h2, h3, h4⟩⟩) fun us s1 ⟨vs, H1, I1, r1, F1, A1, e1, p1, R1, rv⟩ => ⟨I1.kIn, ?_⟩) he hpl
  exact call_fnD g hk Fo hb hd rd I1 R1 rv r1 hR (q.to e1 p1)
theorem de_call0 (g : Go X N W n) (cf : Cf X.prog X.w X.K X.mg X.base k x dd R) (hR : R (dd.map S.p) μ r μ2) (hk : k ≤ n := by decide) (hg : Gl X x := by rfl) (hdb : (x == ("__debug__" : Str)) = false := by decide) : DE X N W δ μ (.Call (.Name x p) [] [] pos) r μ2 := by
  obtain ⟨f, fd, ps, ds, dvs, Fo, hm, hkp, hb, hd, rd⟩ := cf.ex
  refine ⟨fun pins s σ H Q I ⟨F, A, R0, q⟩ => ?_⟩
  refine wpAny_Call_Name_kw (ld_glob I hg hm ?_ hdb)
  exact PySem.W.callWith_K0 I.kIn hkp (call_fnD (us := []) (ss := []) g hk Fo hb hd rd I R0 .nil .nil hR q)
/-! ### instances -/
theorem lookup_none {f : Str} : ∀ {fs : List (Str × V)}, f ∉ fs.map (·.1) → fs.lookup f = none
  | [], _ => rfl
  | (k, v) :: r, h => by
    have h1 : (f == k) = false := beq_eq_false_iff_ne.mpr fun z => h (by rw [z]; exact List.mem_cons_self)
    rw [List.lookup_cons, h1]
    exact lookup_none fun z => h (List.mem_cons_of_mem _ z)
theorem lookup_rep {K : PySem.W.Frag} {F : Hp} {f : Str} : ∀ {fs : List (Str × V)} {ns : List Str} {ds : List D} {d : D}, fs.map (·.1) = ns → Reps K F (fs.map (·.2)) ds → (ns.zip ds).lookup f = some d → ∃ v, fs.lookup f = some v ∧ Rep K F v d
  | [], _, _, _, h, r, e => by
    subst h
    cases r
    cases e
  | (k, v) :: t, ns, ds, d, h, r, e => by
    subst h
    cases r with
    | cons r1 r2 =>
      rw [List.lookup_cons]
      rw [show (List.map (fun x : Str × V => x.1) ((k, v) :: t)).zip (_ :: _) = (k, _) :: (List.map (fun x : Str × V => x.1) t).zip _ from rfl, List.lookup_cons] at e
      cases hb : f == k with
      | true =>
        rw [hb] at e
        cases e
        exact ⟨v, rfl, r1⟩
      | false =>
        rw [hb] at e
        exact lookup_rep rfl r2 e
theorem rep_ins {K : PySem.W.Frag} {F : Hp} {v : V} {C : Addr} {ns : List Str} {ds : List D} (h : Rep K F v (.ins C ns ds)) : ∃ a dx fs, v = .ref a ∧ F a = some (.ins C dx fs) ∧ fs.map (·.1) = ns ∧ Reps K F (fs.map (·.2)) ds := by
  generalize hd : D.ins C ns ds = d at h
  cases h with
  | ins h1 h2 =>
    cases hd
    exact ⟨_, _, _, rfl, h1, rfl, h2⟩
  | _ => cases hd
/-- o.f, a field -/
theorem de_fld {ns : List Str} {ds : List D} (ho : DE X N W δ μ e (.v (.p (.ins C ns ds))) μ1) (g : Go X N W n) (c : Cls X.K C) (nf : NoAttr X.K C f) (hl : (ns.zip ds).lookup f = some d := by rfl) (hb : attributeBase e f X.env (eval e X.env) = eval e X.env := by rfl) : DE X N W δ μ (.Attribute e f pos) (.v (.p d)) μ1 :=
  PE.imp (pe_fld ho hb) fun σ H Q ⟨F, A, R, q⟩ => ⟨F, A, R, fun v F1 A1 H1 e1 p1 R1 rv => by
    obtain ⟨a, dx, fs, rfl, h1, h2, h3⟩ := rep_ins rv
    obtain ⟨w, h4, h5⟩ := lookup_rep h2 h3 hl
    exact ⟨a, C, dx, fs, w, rfl, R1.rc.sub _ _ h1, c, nf, h4, q w F1 A1 H1 e1 p1 R1 h5⟩⟩
/-- .. of an object that is being made or changed -/
theorem de_fldM {j : Nat} {ns : List Str} {ds : List D} (ho : DE X N W δ μ e (.v (.l j)) μ1) (g : Go X N W n) (c : Cls X.K C) (nf : NoAttr X.K C f) (hm : μ1[j]? = some (.obj C ns ds)) (hl : (ns.zip ds).lookup f = some d := by rfl) (hb : attributeBase e f X.env (eval e X.env) = eval e X.env := by rfl) : DE X N W δ μ (.Attribute e f pos) (.v (.p d)) μ1 :=
  PE.imp (pe_fld ho hb) fun σ H Q ⟨F, A, R, q⟩ => ⟨F, A, R, fun v F1 A1 H1 e1 p1 R1 rv => by
    obtain ⟨a, rfl, ha⟩ := rv
    obtain ⟨dx, fs, h1, h2, h3⟩ := R1.rc.mus j a _ ha hm
    obtain ⟨w, h4, h5⟩ := lookup_rep h2 h3 hl
    exact ⟨a, C, dx, fs, w, rfl, h1, c, nf, h4, q w F1 A1 H1 e1 p1 R1 h5⟩⟩
/-- o.m(e, ..) -/
theorem de_meth {ns : List Str} {ds' : List D} {pl : Sem Bool} (g : Go X N W n) (cm : Cm X.prog X.w X.K X.mg X.base k C m dd R) (ho : DE X N W δ μ o (.v (.p (.ins C ns ds'))) μ1) (ha : DA X N W δ μ1 (e :: es) ss μ2) (hR : R (.p (.ins C ns ds') :: (ss ++ dd.map S.p)) μ2 r μ3)
    (hk : k ≤ n := by decide) (hm : m ∉ ns := by decide) (hst : starEach (e :: es) X.env = (false, eval e X.env) :: starEach es X.env := by rfl) (hpl : (backTo pos (starEach es X.env)).any (·.1) = false := by rfl)
    (ht : eval (.Call (.Attribute o m apos) (e :: es) [] pos) X.env = (do
      let ov ← eval o X.env
      standAt apos.atName
      let (f, first) ← holding [ov] (getMethod ov m pl)
      callWith pos f first (backTo pos (starEach (e :: es) X.env)) (backToKw pos (keywordEach [] X.env))) := by rfl) : DE X N W δ μ (.Call (.Attribute o m apos) (e :: es) [] pos) r μ3 := by
  obtain ⟨f, fd, ps, ds, dvs, Fo, hme, hb, hd, rd⟩ := cm.ex
  refine ⟨fun pins s σ H Q I ⟨F, A, R0, q⟩ => ?_⟩
  refine PySem.W.methodCall_KW (pl := pl) (thn (ho.run pins s σ H (fun v H' => ∃ F' A', Same F F' ∧ A <+: A' ∧ Rl N F' A' H' σ δ μ1 ∧ RepS N.K F' A' v (.p (.ins C ns ds'))) I ⟨F, A, R0, fun v F' A' H' h1 h2 h3 h4 => ⟨F', A', h1, h2, h3, h4⟩⟩) fun u s1 ⟨v, H1, I1, r1, F1, A1, e1, p1, R1, rv⟩ => ?_) ht
  obtain ⟨a, dx, fs, rfl, h1, h2, h3⟩ := rep_ins rv
  obtain rfl : u = Value.ref a := r1
  refine getmeth_ok I1 (R1.rc.sub _ _ h1) cm.cls hme (lookup_none (by rw [h2]; exact hm)) ?_
  refine PySem.W.callWith_K (first := [.ref a]) (h₀ := X.base) I.ok.mod.kin hme.kp (thn (ha.run pos pins s1 σ H1 (fun vs H' => ∃ F' A', Same F1 F' ∧ A1 <+: A' ∧ Rl N F' A' H' σ δ μ2 ∧ RepSs N.K F' A' vs ss) I1 ⟨F1, A1, R1, fun vs F' A' H' h1 h2 h3 h4 => ⟨F', A', h1, h2, h3, h4⟩⟩) fun us s2 ⟨vs, H2, I2, r2, F2, A2, e2, p2, R2, rvs⟩ => ⟨I2.kIn, ?_⟩) hst hpl
  exact call_fnD (us := .ref a :: us) (vs := .ref a :: vs) (ss := .p (.ins C ns ds') :: ss) g hk Fo hb hd rd I2 R2 (.cons (RepS.mono (s := .p (.ins C ns ds')) e2 p2 rv) rvs) (.cons rfl r2) hR (q.to (e1.trans e2) (p1.trans p2))
theorem de_meth0 {ns : List Str} {ds' : List D} {pl : Sem Bool} (g : Go X N W n) (cm : Cm X.prog X.w X.K X.mg X.base k C m dd R) (ho : DE X N W δ μ o (.v (.p (.ins C ns ds'))) μ1) (hR : R (.p (.ins C ns ds') :: dd.map S.p) μ1 r μ3)
    (hk : k ≤ n := by decide) (hm : m ∉ ns := by decide)
    (ht : eval (.Call (.Attribute o m apos) [] [] pos) X.env = (do
      let ov ← eval o X.env
      standAt apos.atName
      let (f, first) ← holding [ov] (getMethod ov m pl)
      callWith pos f first (backTo pos (starEach [] X.env)) (backToKw pos (keywordEach [] X.env))) := by rfl) : DE X N W δ μ (.Call (.Attribute o m apos) [] [] pos) r μ3 := by
  obtain ⟨f, fd, ps, ds, dvs, Fo, hme, hb, hd, rd⟩ := cm.ex
  refine ⟨fun pins s σ H Q I ⟨F, A, R0, q⟩ => ?_⟩
  refine PySem.W.methodCall_KW (pl := pl) (thn (ho.run pins s σ H (fun v H' => ∃ F' A', Same F F' ∧ A <+: A' ∧ Rl N F' A' H' σ δ μ1 ∧ RepS N.K F' A' v (.p (.ins C ns ds'))) I ⟨F, A, R0, fun v F' A' H' h1 h2 h3 h4 => ⟨F', A', h1, h2, h3, h4⟩⟩) fun u s1 ⟨v, H1, I1, r1, F1, A1, e1, p1, R1, rv⟩ => ?_) ht
  obtain ⟨a, dx, fs, rfl, h1, h2, h3⟩ := rep_ins rv
  obtain rfl : u = Value.ref a := r1
  refine getmeth_ok I1 (R1.rc.sub _ _ h1) cm.cls hme (lookup_none (by rw [h2]; exact hm)) ?_
  exact PySem.W.callWith_K0 (first := [.ref a]) I1.kIn hme.kp (call_fnD (us := [.ref a]) (vs := [.ref a]) (ss := [.p (.ins C ns ds')]) g hk Fo hb hd rd I1 R1 (.cons rv .nil) (.cons rfl .nil) hR (q.to e1 p1))
/-- o.f, a property -/
theorem de_prop {ns : List Str} {ds' : List D} (g : Go X N W n) (cp : Cp X.prog X.w X.K X.mg X.base k C f R) (ho : DE X N W δ μ e (.v (.p (.ins C ns ds'))) μ1) (hR : R [.p (.ins C ns ds')] μ1 (.v s) μ2) (hk : k + 1 ≤ n := by decide)
    (hab : attributeBase e f X.env (eval e X.env) = eval e X.env := by rfl) : DE X N W δ μ (.Attribute e f pos) (.v s) μ2 := by
  obtain ⟨fa, p, fd, ps, Fo, hp, hb⟩ := cp.ex
  have hx : Passes (L2.CX X.prog X.w) X.nox (fun _ _ _ => False) := fun _ _ _ _ _ _ _ c => by
    obtain ⟨_, _, _, _, _, _, _, _, _, _, _, _, z⟩ := c
    exact z
  refine PE.imp (pe_prop ho cp.cls hp Fo (g.room.mono hk) hb .nil hx hab) fun σ H Q ⟨F, A, R0, q⟩ => ⟨F, A, R0, fun v F1 A1 H1 e1 p1 R1 rv => ?_⟩
  have rv' : Rep N.K F1 v (.ins C ns ds') := rv
  obtain ⟨a, dx, fs, rfl, h1, h2, h3⟩ := rep_ins rv'
  refine ⟨a, dx, fs, rfl, R1.rc.sub _ _ h1, ?_⟩
  have hK := g.hK
  rw [← hK]
  exact spD_in (r := .v s) (δ := δ) (σ := σ) (vs := [.ref a]) hR R1 (.cons rv' .nil) (fun v F' A' H' e' p' R' rv' => q v F' A' H' (e1.trans e') (p1.trans p') R' rv')
theorem take_pre {α : Type} {A A' : List α} (p : A <+: A') : A'.take A.length = A := by
  obtain ⟨B, rfl⟩ := p
  rw [List.take_left]
/-- what __init__ wants at a new instance -/
def MkEnd (N : En) (H1 F : Hp) (A : List Addr) (μ0 : List M) (Q : VK) (E : XK) : Rx → Prop
  | .v s => ∀ v F' A' H', Rc ⟨N.K, H1, F, A⟩ F' A' H' μ0 → RepS N.K F' A' v s → Q v H'
  | .x C2 d => ∀ dx' v F' A' H', Rc ⟨N.K, H1, F, A⟩ F' A' H' μ0 → F' dx' = some (.xd [("value", v)]) → Rep N.K F' v d → E (.ref C2) (some dx') H'
theorem make_in {E : XK} {σ : L2.St} {F : Hp} {A : List Addr} {H : Hp} {vs : List V} {Q : VK} {μ0 : List M} (R0 : Rl N F A H σ δ μ) (rv : RepSs N.K F A vs ss) (hR : R (.l μ.length :: ss) (μ ++ [.obj C [] []]) r μ0)
    {x dx : Addr} (nx : H x = none) (ndx : H dx = none) (ne : dx ≠ x) (k : MkEnd N (upd (upd H dx (.own x)) x (.ins C dx [])) F (A ++ [x]) μ0 Q E r) :
    spD N.K R (.ref x :: vs) (upd (upd H dx (.own x)) x (.ins C dx [])) Q E := by
  have r1 := R0.rc.junk ndx (.own x)
  have nx1 : (upd H dx (.own x)) x = none := by rw [upd_ne (Ne.symm ne)]; exact nx
  have r2 := r1.newM (m := .obj C [] []) nx1 (o := .ins C dx []) ⟨dx, [], upd_same, rfl, .nil⟩
  have pp : A <+: A ++ [x] := List.prefix_append _ _
  refine ⟨F, A ++ [x], .l μ.length :: ss, μ ++ [.obj C [] []], r, μ0, hR, r2.entry, .cons ⟨x, rfl, ?_⟩ (rv.mono (Same.refl _) pp), ?_⟩
  · rw [← R0.rc.len]; simp
  · cases r with
    | v s => exact k
    | x C2 d => exact k
/-- behind it: the new instance is let go -/
theorem made_back {σ : L2.St} {F F' : Hp} {A A' : List Addr} {H H' : Hp} {μ0 : List M} (R0 : Rl N F A H σ δ μ) {x dx : Addr} (nx : H x = none) (ndx : H dx = none) (ne : dx ≠ x) (q : Rc ⟨N.K, upd (upd H dx (.own x)) x (.ins C dx []), F, A ++ [x]⟩ F' A' H' μ0) :
    Rc N F' (A'.take μ.length) H' (μ0.take μ.length) ∧ A <+: A'.take μ.length ∧ A'[μ.length]? = some x ∧ Rc N F' A' H' μ0 := by
  have r1 := R0.rc.junk ndx (.own x)
  have nx1 : (upd H dx (.own x)) x = none := by rw [upd_ne (Ne.symm ne)]; exact nx
  have r2 := r1.newM (m := .obj C [] []) nx1 (o := .ins C dx []) ⟨dx, [], upd_same, rfl, .nil⟩
  have hb := r2.back q
  have pp := q.prefix_
  have hl : μ.length = A.length := R0.rc.len.symm
  have hA : N.A0.length ≤ μ.length := by
    rw [hl]
    obtain ⟨B, e, _⟩ := R0.rc.pre
    rw [e]; simp
  refine ⟨hb.trim hA, ?_, ?_, hb⟩
  · rw [hl]
    obtain ⟨B, rfl⟩ := pp
    rw [show A ++ [x] ++ B = A ++ ([x] ++ B) from List.append_assoc .., List.take_left]
    exact List.prefix_refl _
  · rw [hl]
    exact getElem?_pre pp (by simp)
/-- C(e, ..) -/
theorem de_make {ns : List Str} {ds' : List D} {μ0 : List M} (g : Go X N W n) (ci : Ci X.prog X.w X.K X.mg X.base k C x dd R) (ha : DA X N W δ μ (e :: es) ss μ1) (hR : R (.l μ1.length :: (ss ++ dd.map S.p)) (μ1 ++ [.obj C [] []]) (.v (.p .non)) μ0) (h0 : μ0[μ1.length]? = some (.obj C ns ds')) (ht : μ2 = μ0.take μ1.length)
    (hk : k + 1 ≤ n := by decide) (hg : Gl X x := by rfl) (hdb : (x == ("__debug__" : Str)) = false := by decide)
    (he : starEach (e :: es) X.env = (false, eval e X.env) :: starEach es X.env := by rfl) (hpl : (backTo pos (starEach es X.env)).any (·.1) = false := by rfl) : DE X N W δ μ (.Call (.Name x p) (e :: es) [] pos) (.v (.p (.ins C ns ds'))) μ2 := by
  subst ht
  obtain ⟨f, fd, ps, ds, dvs, Fo, Mk, hb, hd, rd⟩ := ci.ex
  have hx : Passes (L2.CX X.prog X.w) X (fun _ _ _ => False) := fun _ _ _ _ _ _ _ c => by
    obtain ⟨_, _, _, _, _, _, _, _, _, _, _, _, z⟩ := c
    exact z.elim
  refine PE.imp (pe_make Mk Fo (g.room.mono hk) hg ci.at_ hb hd hx ha hdb he hpl) fun σ H Q ⟨F, A, R0, q⟩ => ⟨F, A, R0, fun vs F1 A1 H1 e1 p1 R1 rv x dx nx ndx ne => ?_⟩
  have hK := g.hK
  rw [← hK] at rd ⊢
  refine make_in (r := .v (.p .non)) R1 (rv.append (of_reps (rd F1))) hR nx ndx ne fun v F' A' H' hq rn => ?_
  have rn' : Rep N.K F' v .non := rn
  refine ⟨by cases rn'; rfl, ?_⟩
  obtain ⟨b1, b2, b3, b4⟩ := made_back R1 nx ndx ne hq
  obtain ⟨dx', fs, h1, h2, h3⟩ := b4.mus _ _ _ b3 h0
  have hA : N.A0.length ≤ μ1.length := by
    rw [← R1.rc.len]
    obtain ⟨B, e, _⟩ := R1.rc.pre
    rw [e]; simp
  obtain ⟨b5, b6⟩ := b4.freeze b3 h0 trivial hA h1
  have b7 := b5.trim hA
  rw [show (μ0.set μ1.length M.gone).take μ1.length = μ0.take μ1.length from by rw [List.take_set_of_le (Nat.le_refl _)]] at b7
  have sm : Same F1 (upd F' x (.ins C dx' fs)) := hq.base.trans b6
  refine q (.ref x) _ _ H' (e1.trans sm) (p1.trans b2) (R1.to sm b2 b7) ?_
  have := Rep.ins (K := N.K) (C := C) (fs := fs) (ds := ds') (F := upd F' x (.ins C dx' fs)) upd_same (h3.mono b6)
  rw [h2] at this
  exact this
/-- C(e, ..) raises -/
theorem de_makeX {C' : Addr} {μ0 : List M} (g : Go X N W n) (ci : Ci X.prog X.w X.K X.mg X.base k C x dd R) (ha : DA X N W δ μ (e :: es) ss μ1) (hR : R (.l μ1.length :: (ss ++ dd.map S.p)) (μ1 ++ [.obj C [] []]) (.x C' d) μ0) (ht : μ2 = μ0.take μ1.length)
    (hk : k + 1 ≤ n := by decide) (hg : Gl X x := by rfl) (hdb : (x == ("__debug__" : Str)) = false := by decide)
    (he : starEach (e :: es) X.env = (false, eval e X.env) :: starEach es X.env := by rfl) (hpl : (backTo pos (starEach es X.env)).any (·.1) = false := by rfl) : DE X N W δ μ (.Call (.Name x p) (e :: es) [] pos) (.x C' d) μ2 := by
  subst ht
  obtain ⟨f, fd, ps, ds, dvs, Fo, Mk, hb, hd, rd⟩ := ci.ex
  refine ⟨fun pins s σ H Q I ⟨F, A, R0, q⟩ => ?_⟩
  refine wpAny_Call_Name_kw (ld_glob I hg ci.at_ ?_ hdb)
  refine PySem.W.callWith_K (h₀ := X.base) I.ok.mod.kin Mk.kp (thn (ha.run pos pins s σ H (fun vs H' => ∃ F' A', Same F F' ∧ A <+: A' ∧ Rl N F' A' H' σ δ μ1 ∧ RepSs N.K F' A' vs ss) I ⟨F, A, R0, fun vs F' A' H' h1 h2 h3 h4 => ⟨F', A', h1, h2, h3, h4⟩⟩) fun us s1 ⟨vs, H1, I1, r1, F1, A1, e1, p1, R1, rv⟩ => ⟨I1.kIn, ?_⟩) he hpl
  have nx : H1 (s1.heap.objs.size + 1) = none := I1.hok.fresh (Nat.le_succ _)
  have ndx : H1 s1.heap.objs.size = none := I1.hok.fresh (Nat.le_refl _)
  have ne : s1.heap.objs.size ≠ s1.heap.objs.size + 1 := Nat.ne_of_lt (Nat.lt_succ_self _)
  have hK := g.hK
  have hq : spD X.K R (V.ref (s1.heap.objs.size + 1) :: (vs ++ dvs)) (upd (upd H1 s1.heap.objs.size (.own (s1.heap.objs.size + 1))) (s1.heap.objs.size + 1) (.ins C s1.heap.objs.size [])) (fun _ _ => False) (WE W σ) := by
    rw [← hK] at rd ⊢
    refine make_in (r := .x C' d) R1 (rv.append (of_reps (rd F1))) hR nx ndx ne fun dx' v F' A' H' hq h1 h2 => ?_
    obtain ⟨b1, b2, b3, b4⟩ := made_back R1 nx ndx ne hq
    exact q dx' v F' _ H' (e1.trans hq.base) (p1.trans b2) (R1.to hq.base b2 b1) h1 h2
  have I2 := Inv.made (C := C) I1
  have r2 : Vals (V.ref (s1.heap.objs.size + 1) :: (vs ++ dvs)) (Value.ref (s1.heap.objs.size + 1) :: (us ++ ds)) := .cons rfl (r1.append hd)
  have hl : (Value.ref (s1.heap.objs.size + 1) :: us ++ ds).length = ps.length := by
    have e := r2.length
    rw [Fo.len _ _ _ _ hq] at e
    exact e.symm
  refine wpAny_call (make_map (f := f) I1.kIn Mk.makes Mk.init (beq_iff_eq.mp Mk.fn) (codeAny_mono (Fo.run _ X.stack _ _ ⟨Value.ref (s1.heap.objs.size + 1) :: us, []⟩ (Value.ref (s1.heap.objs.size + 1) :: (us ++ ds)) _ _ (WE W σ) ((g.room.mono hk).make C us [])
    (I2.env0.make C us []) (hb _ (Value.ref (s1.heap.objs.size + 1) :: us) I2.kIn hl) r2 hq) fun r s' hq' => ?_))
  cases r with
  | error e => exact passAt g.tk σ pins _ _ e s' I2 hq'
  | ok fl =>
    cases fl with
    | ret u =>
      obtain ⟨_, _, _, _, _, _, _, z⟩ := hq'
      exact z.elim
    | next => exact False.elim hq'
    | brk => exact False.elim hq'
    | cont => exact False.elim hq'
/-- o.f = e, a new attribute of what is being made -/
theorem putF_new {f : Str} {v : V} : ∀ {fs : List (Str × V)}, f ∉ fs.map (·.1) → putF f v fs = fs ++ [(f, v)]
  | [], _ => rfl
  | (k, w) :: r, h => by
    have h1 : k ≠ f := fun z => h (by rw [← z]; exact List.mem_cons_self)
    rw [show putF f v ((k, w) :: r) = (if k = f then (k, v) :: r else (k, w) :: putF f v r) from rfl, if_neg h1, putF_new fun z => h (List.mem_cons_of_mem _ z)]
    rfl
theorem Reps.snoc {K : PySem.W.Frag} {F : Hp} {vs : List V} {ds : List D} {v : V} {d : D} (h : Reps K F vs ds) (r : Rep K F v d) : Reps K F (vs ++ [v]) (ds ++ [d]) := h.append (.cons r .nil)
theorem ds_fldNew {pos' : Pos} {j : Nat} {ns : List Str} {ds : List D} (hv : DE X N W δ μ e (.v (.p d)) μ1) (ho : DE X N W δ μ1 o (.v (.l j)) μ2) (c : Cls X.K C) (nf : NoAttr X.K C f) (hm : μ2[j]? = some (.obj C ns ds)) (hn : f ∉ ns := by decide) (hl : ns.length < 900 := by decide)
    (hs : swapsWith e (some (.Attribute o f pos')) pos.line X.env = pure false := by rfl) : DS X N W δ μ (.Assign [.Attribute o f pos'] e pos) (.nx δ (μ2.set j (.obj C (ns ++ [f]) (ds ++ [d])))) :=
  PS.imp (ps_fld ho hv hs) fun K σ H ⟨F, A, R0, q⟩ => ⟨F, A, R0, fun v F1 A1 H1 e1 p1 R1 rv => ⟨F1, A1, R1, fun x F2 A2 H2 e2 p2 R2 rx => by
    obtain ⟨a, rfl, ha⟩ := rx
    have rv2 : Rep N.K F2 v d := Rep.mono e2 rv
    obtain ⟨dx, fs, h1, h2, h3⟩ := R2.rc.mus j a _ ha hm
    subst h2
    refine ⟨a, C, dx, fs, rfl, h1, c, nf, by rw [List.length_map] at hl; omega, ?_⟩
    rw [putF_new hn]
    refine q σ F2 A2 _ (e1.trans e2) (p1.trans p2) (R2.to (Same.refl _) (List.prefix_refl _) (R2.rc.write ha hm trivial ⟨dx, fs ++ [(f, v)], upd_same, by simp, ?_⟩))
    rw [List.map_append]
    exact h3.snoc rv2⟩⟩
end
/-! ## a def by its body -/
def starts (Nn : List Str) (ss : List S) : List (Option S) := ss.map some ++ List.replicate (Nn.length - ss.length) none
inductive Fit (n0 : Nat) : Os → Rx → List M → Prop
  | rt {s μ} : Fit n0 (.rt s μ) (.v s) μ
  | rtT {d μ n} : n0 ≤ n → Fit n0 (.rt (.p d) μ) (.v (.p d)) (μ.take n)
  | nx {δ μ} : Fit n0 (.nx δ μ) (.v (.p .non)) μ
  | nxT {δ μ n} : n0 ≤ n → Fit n0 (.nx δ μ) (.v (.p .non)) (μ.take n)
  | xx {C d δ μ} : Fit n0 (.xx C d δ μ) (.x C d) μ
  | xxT {C d δ μ n} : n0 ≤ n → Fit n0 (.xx C d δ μ) (.x C d) (μ.take n)
theorem start_slots {N : En} {F : Hp} {A : List Addr} {vs : List V} {ss : List S} (Nn : List Str) (r : RepSs N.K F A vs ss) : (starts Nn ss).length = (L2.start Nn vs).length ∧ ∀ (i : Nat) (s : S), (starts Nn ss)[i]? = some (some s) → ∃ v, (L2.start Nn vs)[i]? = some (some v) ∧ RepS N.K F A v s := by
  have hl := r.length
  refine ⟨by simp [starts, L2.start, hl], fun i s h => ?_⟩
  unfold starts at h
  by_cases hi : i < ss.length
  · rw [List.getElem?_append_left (by simpa using hi), List.getElem?_map] at h
    have key : ∀ {vs : List V} {ss : List S}, RepSs N.K F A vs ss → ∀ (i : Nat) (s : S), (ss[i]?).map some = some (some s) → ∃ v, vs[i]? = some v ∧ RepS N.K F A v s := by
      intro vs ss r
      induction r with
      | nil => intro i s e; simp at e
      | cons a b ih =>
        intro i s e
        cases i with
        | zero => simp at e; subst e; exact ⟨_, rfl, a⟩
        | succ i =>
          obtain ⟨v, h1, h2⟩ := ih i s (by simpa using e)
          exact ⟨v, by simpa using h1, h2⟩
    obtain ⟨v, h1, h2⟩ := key r i s h
    refine ⟨v, ?_, h2⟩
    unfold L2.start
    have hv : i < (vs.map some).length := by simpa [hl] using hi
    rw [List.getElem?_append_left hv, List.getElem?_map, h1]
    rfl
  · rw [List.getElem?_append_right (by simpa using hi), List.getElem?_replicate] at h
    split at h <;> cases h
theorem fn_D {P : Program} {w : World} {K : PySem.W.Frag} {mg : Str → Option Value} {base : Heap} {x qual : Str} {st : Stmt} {f : Addr} {fd : FuncData} {Nn ps : List Str} {k : Nat} {R : Rel} (F : Fun K x qual st f fd) (Sc : FnScope Nn ps (defScope st)) (hlen : ∀ ss μ r μ', R ss μ r μ' → ss.length = ps.length)
    (body : ∀ (cdv : Value) (A : Around) (outer : List Env) (s : Shared) (H : Hp) (E : XK) (N : En) (W : WX) (ss : List S) (μ : List M) (r : Rx) (μ' : List M), Go (cxOf (L2.CX P w) P w K mg base Nn qual (defScope st) f cdv A outer s H E) N W k → N.A0.length = μ.length → R ss μ r μ' →
      ∃ o, DSs (cxOf (L2.CX P w) P w K mg base Nn qual (defScope st) f cdv A outer s H E) N W (starts Nn ss) μ (defBody st) o ∧ Fit μ.length o r μ') :
    FnOk P w K mg base (L2.CX P w) (k + 1) f fd ps (spD K R) := by
  refine F.okX Sc (fun vs H Q E h => ?_) (fun cdv A outer s H vs Q E hr h => ?_)
  · obtain ⟨F0, A0, ss, μ, r, μ', hR, _, rv, _⟩ := h
    rw [rv.length]
    exact hlen _ _ _ _ hR
  · obtain ⟨F0, A0, ss, μ, r, μ', hR, rc, rv, hq⟩ := h
    have g : Go (cxOf (L2.CX P w) P w K mg base Nn qual (defScope st) f cdv A outer s H E) ⟨K, H, F0, A0⟩ (fun cls d _ H => E cls d H) k :=
      ⟨takes_of rfl rfl rfl rfl, rfl, rfl, hr, passes_of rfl, Sc.nd⟩
    have h0 : A0.length = μ.length := rc.len
    obtain ⟨o, hd, fit⟩ := body cdv A outer s H E ⟨K, H, F0, A0⟩ _ ss μ r μ' g h0 hR
    refine ⟨_, hd, F0, A0, ⟨rc, (start_slots (N := ⟨K, H, F0, A0⟩) Nn rv).1, (start_slots (N := ⟨K, H, F0, A0⟩) Nn rv).2⟩, ?_⟩
    · cases fit with
      | rt => exact fun v F' A' H' e p rc' rv' => hq v F' A' H' rc' rv'
      | rtT hn => exact fun v F' A' H' e p rc' rv' => hq v F' _ H' (rc'.trim (by show A0.length ≤ _; omega)) rv'
      | nx => exact fun σ' F' A' H' e p R' => hq .non F' A' H' R'.rc .non
      | nxT hn => exact fun σ' F' A' H' e p R' => hq .non F' _ H' (R'.rc.trim (by show A0.length ≤ _; omega)) .non
      | xx => exact fun σ' dx v F' A' H' e p R' h1 h2 => hq dx v F' A' H' R'.rc h1 h2
      | xxT hn => exact fun σ' dx v F' A' H' e p R' h1 h2 => hq dx v F' _ H' (R'.rc.trim (by show A0.length ≤ _; omega)) h1 h2
end Dl

set_option Elab.async false
set_option linter.all false
set_option maxRecDepth 100000
set_option maxHeartbeats 4000000
set_option autoImplicit false
namespace Dl
open PySem PySem.Spec PyProof.Rows L2
/-! ## what is walked -/
/-- an item comes: as it stands, or in a new tuple -/
def ItemAt (K : PySem.W.Frag) (F H : Hp) (x : V) (H' : Hp) (d : D) : Prop :=
  (H' = H ∧ Rep K F x d) ∨ ∃ T vs es, x = .ref T ∧ H T = none ∧ H' = upd H T (.tup vs) ∧ d = .tup es ∧ Reps K F vs es
abbrev Yl (K : PySem.W.Frag) (J : It) (F : Hp) (ds : List D) : Prop := Walk J ds.length (fun H => Same F H) (fun i H x H' => ∃ d, ds[i]? = some d ∧ ItemAt K F H x H' d)
theorem Yl.mono {K : PySem.W.Frag} {J : It} {F F' : Hp} {ds : List D} (y : Yl K J F ds) (e : Same F F') : Yl K J F' ds :=
  Walk.mono y (fun H h => e.trans h) fun i H x H' _ _ ⟨d, h1, h2⟩ => ⟨d, h1, by
    rcases h2 with ⟨a, b⟩ | ⟨T, vs, es, a, b, c, d, r⟩
    · exact .inl ⟨a, b.mono e⟩
    · exact .inr ⟨T, vs, es, a, b, c, d, r.mono e⟩⟩
/-- behind an item -/
theorem Rl.item {N : En} {F : Hp} {A : List Addr} {H H' : Hp} {σ : L2.St} {δ : List (Option S)} {μ : List M} {x : V} {d : D} (R : Rl N F A H σ δ μ) (h : ItemAt N.K F H x H' d) : ∃ F', Same F F' ∧ Rl N F' A H' σ δ μ ∧ Rep N.K F' x d := by
  rcases h with ⟨rfl, r⟩ | ⟨T, vs, es, rfl, nT, rfl, rfl, r⟩
  · exact ⟨F, Same.refl _, R, r⟩
  · have sm := same_updN (o := .tup vs) (R.rc.fresh nT).2.1
    exact ⟨_, sm, R.to sm (List.prefix_refl _) (R.rc.frozen nT _), .tup (SqT.of upd_same) (r.mono sm)⟩
def tI (N : En) (W : WX) (δ : List (Option S)) (μ : List M) (ds : List D) (μ' : List M) : TI := fun σ H Rk => ∃ F A, Rl N F A H σ δ μ ∧ ∀ J F' A' H', Same F F' → A <+: A' → Rl N F' A' H' σ δ μ' → Yl N.K J F' ds → Rk J H'
def DI (X : Cx) (N : En) (W : WX) (δ : List (Option S)) (μ : List M) (tg iter : Expr) (ds : List D) (μ' : List M) : Prop := PI X tg iter (tI N W δ μ ds μ')
theorem PI.imp {X : Cx} {tg iter : Expr} {t t' : TI} (h : PI X tg iter t) (w : ∀ σ H Q, t' σ H Q → t σ H Q) : PI X tg iter t' := ⟨fun p s σ H Q I q => h.run p s σ H Q I (w σ H Q q)⟩
theorem rep_lst {K : PySem.W.Frag} {F : Hp} {v : V} {ds : List D} (h : Rep K F v (.lst ds)) : ∃ a vs, v = .ref a ∧ F a = some (.lst vs) ∧ Reps K F vs ds := by
  generalize hd : D.lst ds = d at h
  cases h with
  | lst h1 h2 => cases hd; exact ⟨_, _, rfl, h1, h2⟩
  | _ => cases hd
theorem rep_tup {K : PySem.W.Frag} {F : Hp} {v : V} {ds : List D} (h : Rep K F v (.tup ds)) : ∃ a vs, v = .ref a ∧ SqT K F a vs ∧ Reps K F vs ds := by
  generalize hd : D.tup ds = d at h
  cases h with
  | tup h1 h2 => cases hd; exact ⟨_, _, rfl, h1, h2⟩
  | _ => cases hd
theorem rep_exc {K : PySem.W.Frag} {F : Hp} {v : V} {C : Addr} {d : D} (h : Rep K F v (.exc C d)) : ∃ a dx w, v = .ref a ∧ F a = some (ExO C dx a) ∧ F dx = some (.xd [("value", w)]) ∧ Rep K F w d := by
  generalize hd : D.exc C d = d' at h
  cases h with
  | exc h1 h2 h3 => cases hd; exact ⟨_, _, _, rfl, h1, h2, h3⟩
  | _ => cases hd
/-- what a datum does to the slots -/
abbrev As := D → List (Option S) → Option (List (Option S))
inductive Loop (X : Cx) (N : En) (W : WX) (f : As) (body : List Stmt) : List D → List (Option S) → List M → Os → Prop
  | nil {δ μ} : Loop X N W f body [] δ μ (.nx δ μ)
  | next {d ds δ μ δt δ1 μ1 o} : f d δ = some δt → DSs X N W δt μ body (.nx δ1 μ1) → Loop X N W f body ds δ1 μ1 o → Loop X N W f body (d :: ds) δ μ o
  | cont {d ds δ μ δt δ1 μ1 o} : f d δ = some δt → DSs X N W δt μ body (.ct δ1 μ1) → Loop X N W f body ds δ1 μ1 o → Loop X N W f body (d :: ds) δ μ o
  | brk {d ds δ μ δt δ1 μ1} : f d δ = some δt → DSs X N W δt μ body (.bk δ1 μ1) → Loop X N W f body (d :: ds) δ μ (.nx δ1 μ1)
  | ret {d ds δ μ δt s μ1} : f d δ = some δt → DSs X N W δt μ body (.rt s μ1) → Loop X N W f body (d :: ds) δ μ (.rt s μ1)
  | exc {d ds δ μ δt C y δ1 μ1} : f d δ = some δt → DSs X N W δt μ body (.xx C y δ1 μ1) → Loop X N W f body (d :: ds) δ μ (.xx C y δ1 μ1)
section
variable {X : Cx} {N : En} {W : WX} {n : Nat} {δ δ' δ1 δ2 : List (Option S)} {μ μ' μ1 μ2 μ3 : List M} {e a b c o tg iter : Expr} {es : List Expr} {ss : List S} {pos p apos : Pos} {d : D} {s s1 s2 : S} {r : Rx} {ds : List D}
theorem yl_list {K : PySem.W.Frag} {F : Hp} {a : Addr} {vs : List V} (h : F a = some (.lst vs)) (r : Reps K F vs ds) : Yl K (Itl K a) F ds := by
  unfold Yl
  rw [← r.length]
  exact Walk.mono (walk_list (xs := vs)) (fun H e => SqL.of (e _ _ h)) fun i H x H' _ _ ⟨e, hx⟩ => by
    obtain ⟨d, h1, h2⟩ := r.get' hx
    exact ⟨d, h1, .inl ⟨e, h2⟩⟩
theorem yl_tup {K : PySem.W.Frag} {F : Hp} {a : Addr} {vs : List V} (h : SqT K F a vs) (r : Reps K F vs ds) : Yl K (Itt K a) F ds := by
  unfold Yl
  rw [← r.length]
  exact Walk.mono (walk_tup (xs := vs)) (fun H e => same_sqT e h) fun i H x H' _ _ ⟨e, hx⟩ => by
    obtain ⟨d, h1, h2⟩ := r.get' hx
    exact ⟨d, h1, .inl ⟨e, h2⟩⟩
theorem di_lst (g : Go X N W n) (h : DE X N W δ μ iter (.v (.p (.lst ds))) μ1) : DI X N W δ μ tg iter ds μ1 :=
  PI.imp (pi_list h) fun σ H Rk ⟨F, A, R, k⟩ => ⟨F, A, R, fun v F1 A1 H1 e1 p1 R1 rv => by
    have hK := g.hK
    rw [← hK]
    obtain ⟨a, vs, rfl, h1, h2⟩ := rep_lst rv
    exact ⟨a, rfl, ⟨vs, SqL.of (R1.rc.sub _ _ h1)⟩, k _ F1 A1 H1 e1 p1 R1 (yl_list h1 h2)⟩⟩
theorem di_tup (g : Go X N W n) (h : DE X N W δ μ iter (.v (.p (.tup ds))) μ1) : DI X N W δ μ tg iter ds μ1 :=
  PI.imp (pi_tup h) fun σ H Rk ⟨F, A, R, k⟩ => ⟨F, A, R, fun v F1 A1 H1 e1 p1 R1 rv => by
    have hK := g.hK
    rw [← hK]
    obtain ⟨a, vs, rfl, h1, h2⟩ := rep_tup rv
    exact ⟨a, rfl, ⟨vs, same_sqT R1.rc.sub h1⟩, k _ F1 A1 H1 e1 p1 R1 (yl_tup h1 h2)⟩⟩
def rangeD (lo : Int) (n : Nat) : List D := (List.range n).map fun i => D.int (lo + (i : Nat))
theorem yl_range {K : PySem.W.Frag} {F : Hp} {lo : Int} {n : Nat} : Yl K (Itr lo n) F (rangeD lo n) := by
  unfold Yl
  rw [show (rangeD lo n).length = n from by simp [rangeD]]
  exact Walk.mono (walk_range (lo := lo) (n := n)) (fun _ _ => trivial) fun i H x H' hi _ ⟨e, hx⟩ => by
    refine ⟨.int (lo + i), ?_, .inl ⟨e, by rw [hx]; exact .int _⟩⟩
    rw [rangeD, List.getElem?_map, List.getElem?_range hi]
    rfl
theorem di_range1 {j : Int} (h : DA X N W δ μ [a] [.p (.int j)] μ1) (hm : X.mg "range" = none) (h1 : -(2 ^ 62) ≤ j ∧ j < 2 ^ 62) (hg : Gl X "range" := by rfl) (hs : starEach [a] X.env = [(false, eval a X.env)] := by rfl) : DI X N W δ μ tg (.Call (.Name "range" p) [a] [] pos) (rangeD 0 j.toNat) μ1 :=
  PI.imp (pi_range1 hg hm h hs) fun σ H Rk ⟨F, A, R, k⟩ => ⟨F, A, R, fun vs F1 A1 H1 e1 p1 R1 rv => by
    cases rv with
    | cons r1 r2 =>
      cases r2
      have r1' : Rep N.K F1 _ (.int j) := r1
      cases r1'
      exact ⟨j, rfl, h1.1, h1.2, k _ F1 A1 H1 e1 p1 R1 yl_range⟩⟩
theorem di_range2 {i j : Int} (h : DA X N W δ μ [a, b] [.p (.int i), .p (.int j)] μ1) (hm : X.mg "range" = none) (h1 : -(2 ^ 62) ≤ i ∧ i < 2 ^ 62 ∧ -(2 ^ 62) ≤ j ∧ j < 2 ^ 62) (hg : Gl X "range" := by rfl) (hs : starEach [a, b] X.env = [(false, eval a X.env), (false, eval b X.env)] := by rfl) (hs2 : starEach [b] X.env = [(false, eval b X.env)] := by rfl) : DI X N W δ μ tg (.Call (.Name "range" p) [a, b] [] pos) (rangeD i (j - i).toNat) μ1 :=
  PI.imp (pi_range2 hg hm h hs hs2) fun σ H Rk ⟨F, A, R, k⟩ => ⟨F, A, R, fun vs F1 A1 H1 e1 p1 R1 rv => by
    cases rv with
    | cons r1 r2 =>
      cases r2 with
      | cons r2 r3 =>
        cases r3
        have r1' : Rep N.K F1 _ (.int i) := r1
        have r2' : Rep N.K F1 _ (.int j) := r2
        cases r1'
        cases r2'
        exact ⟨i, j, rfl, h1, k _ F1 A1 H1 e1 p1 R1 yl_range⟩⟩
def chars (z : Str) : List D := z.cps.toList.map fun c => D.str ⟨#[c]⟩
theorem yl_str {K : PySem.W.Frag} {F : Hp} {z : Str} : Yl K (Its z) F (chars z) := by
  unfold Yl
  rw [show (chars z).length = z.cps.size from by simp [chars]]
  exact Walk.mono (walk_str (z := z)) (fun _ _ => trivial) fun i H x H' hi _ ⟨e, c, h1, hx⟩ => by
    refine ⟨.str ⟨#[c]⟩, ?_, .inl ⟨e, by rw [hx]; exact .str _⟩⟩
    rw [chars, List.getElem?_map, Array.getElem?_toList, h1]
    rfl
theorem di_str {z : Str} (h : DE X N W δ μ iter (.v (.p (.str z))) μ1) : DI X N W δ μ tg iter (chars z) μ1 :=
  PI.imp (pi_str h) fun σ H Rk ⟨F, A, R, k⟩ => ⟨F, A, R, fun v F1 A1 H1 e1 p1 R1 rv => by
    have rv' : Rep N.K F1 _ (.str z) := rv
    cases rv'
    exact ⟨z, rfl, k _ F1 A1 H1 e1 p1 R1 yl_str⟩⟩
/-! ## targets -/
def tGd (N : En) (f : As) (ix : List Nat) : TG := fun v σ H Q => ∃ F A δ μ d δ', Rl N F A H σ δ μ ∧ Rep N.K F v d ∧ f d δ = some δ' ∧ ∀ σ', wipe σ' ix = wipe σ ix → Rl N F A H σ' δ' μ → Q σ' H
def DG (X : Cx) (N : En) (tg : Expr) (f : As) (ix : List Nat) : Prop := PG X tg (tGd N f ix)
theorem wipe_get : ∀ {vs : List Nat} {σ : L2.St} {i : Nat}, (wipe σ vs)[i]? = if i ∈ vs then (σ[i]?).map (fun _ => none) else σ[i]?
  | [], σ, i => by simp [wipe]
  | v :: vs, σ, i => by
    unfold wipe
    by_cases h : v = i
    · subst h
      rw [if_pos List.mem_cons_self]
      by_cases hl : v < σ.length
      · rw [List.getElem?_set_self (by rw [wipe_length]; exact hl), List.getElem?_eq_getElem hl]
        rfl
      · rw [List.getElem?_eq_none (by simp [wipe_length]; omega), List.getElem?_eq_none (by omega)]
        rfl
    · rw [List.getElem?_set_ne h, wipe_get]
      by_cases hi : i ∈ vs
      · rw [if_pos hi, if_pos (List.mem_cons_of_mem _ hi)]
      · rw [if_neg hi, if_neg (by
          intro z
          rcases List.mem_cons.mp z with z | z
          · exact h z.symm
          · exact hi z)]
theorem wipe_sub {σ σ' : L2.St} {ix vs : List Nat} (h : ∀ i ∈ ix, i ∈ vs) (e : wipe σ' ix = wipe σ ix) : wipe σ' vs = wipe σ vs := by
  have hl : σ'.length = σ.length := by
    have := congrArg List.length e
    rwa [wipe_length, wipe_length] at this
  apply List.ext_getElem?
  intro i
  rw [wipe_get, wipe_get]
  by_cases hi : i ∈ vs
  · rw [if_pos hi, if_pos hi]
    by_cases hlt : i < σ.length
    · rw [List.getElem?_eq_getElem hlt, List.getElem?_eq_getElem (by omega)]
      rfl
    · rw [List.getElem?_eq_none (by omega), List.getElem?_eq_none (by omega)]
  · rw [if_neg hi, if_neg hi]
    have q := congrArg (fun l : L2.St => l[i]?) e
    simp only [wipe_get] at q
    have hx : i ∉ ix := fun z => hi (h i z)
    rw [if_neg hx, if_neg hx] at q
    exact q
theorem wipe_trans {σ σ1 σ2 : L2.St} {ix jx : List Nat} (a : wipe σ1 ix = wipe σ ix) (b : wipe σ2 jx = wipe σ1 jx) : wipe σ2 (ix ++ jx) = wipe σ (ix ++ jx) :=
  (wipe_sub (fun i h => List.mem_append_right _ h) b).trans (wipe_sub (fun i h => List.mem_append_left _ h) a)
def asName (i : Nat) : As := fun d δ => some (δ.set i (some (.p d)))
def asAll : List As → List D → List (Option S) → Option (List (Option S))
  | [], [], δ => some δ
  | f :: fs, d :: ds, δ => (f d δ).bind fun δ' => asAll fs ds δ'
  | _, _, _ => none
def asTup (fs : List As) : As := fun d δ => match d with
  | .tup ds => asAll fs ds δ
  | _ => none
theorem PG.imp {X : Cx} {tg : Expr} {t t' : TG} (h : PG X tg t) (w : ∀ v σ H Q, t' v σ H Q → t v σ H Q) : PG X tg t' := ⟨fun p s σ H v u Q I r q => h.run p s σ H v u Q I r (w v σ H Q q)⟩
theorem PGs.imp {X : Cx} {ts : List Expr} {t t' : TGs} (h : PGs X ts t) (w : ∀ v σ H Q, t' v σ H Q → t v σ H Q) : PGs X ts t' := ⟨fun p s σ H v u Q I r q => h.run p s σ H v u Q I r (w v σ H Q q)⟩
theorem dg_name (i : Nat) {x : Str} (hN : X.N.Nodup) (hi : X.N[i]? = some x := by rfl) (hx : Loc X.env.scope x := by first | exact Or.inl rfl | exact Or.inr rfl) (hf : X.fn x = true ∨ X.env.scope.names.lookup x = some .local := by first | exact .inl rfl | exact .inr rfl) : DG X N (.Name x pos) (asName i) [i] :=
  PG.imp (pg_name (i := i) hN hi hx hf) fun v σ H Q ⟨F, A, δ, μ, d, δ', R, rv, hf, k⟩ => by
    cases hf
    exact k _ (by show (σ.set i (some v)).set i none = σ.set i none; rw [List.set_set]) (R.set (s := .p d) rv)
def tGds (N : En) (fs : List As) (ix : List Nat) : TGs := fun vs σ H Q => ∃ F A δ μ ds δ', Rl N F A H σ δ μ ∧ Reps N.K F vs ds ∧ asAll fs ds δ = some δ' ∧ ∀ σ', wipe σ' ix = wipe σ ix → Rl N F A H σ' δ' μ → Q σ' H
def DGs (X : Cx) (N : En) (ts : List Expr) (fs : List As) (ix : List Nat) : Prop := PGs X ts (tGds N fs ix)
theorem dgs_nil : DGs X N [] [] [] := PGs.imp pgs_nil fun vs σ H Q ⟨F, A, δ, μ, ds, δ', R, rv, hf, k⟩ => by
  cases rv with
  | nil => cases hf; exact ⟨rfl, k σ rfl R⟩
  | cons _ _ => cases hf
theorem dgs_cons {ts : List Expr} {f : As} {fs : List As} {ix jx : List Nat} (h : DG X N e f ix) (h' : DGs X N ts fs jx) (hs : (assignEach (e :: ts) X.env).map (·.2) = assign e X.env :: (assignEach ts X.env).map (·.2) := by rfl) : DGs X N (e :: ts) (f :: fs) (ix ++ jx) :=
  PGs.imp (pgs_cons h h' hs) fun vs σ H Q ⟨F, A, δ, μ, ds, δ', R, rv, hf, k⟩ => by
    cases rv with
    | nil => cases hf
    | @cons v d vs ds r1 r2 =>
      have hf' : (f d δ).bind (fun δ' => asAll fs ds δ') = some δ' := hf
      cases hfd : f d δ with
      | none => rw [hfd] at hf'; cases hf'
      | some δ1 =>
        rw [hfd] at hf'
        exact ⟨v, vs, rfl, F, A, δ, μ, d, δ1, R, r1, hfd, fun σ1 w1 R1 => ⟨F, A, δ1, μ, ds, δ', R1, r2, hf', fun σ2 w2 R2 => k σ2 (wipe_trans w1 w2) R2⟩⟩
theorem asAll_len : ∀ {fs : List As} {ds : List D} {δ δ' : List (Option S)}, asAll fs ds δ = some δ' → ds.length = fs.length
  | [], [], _, _, _ => rfl
  | [], _ :: _, _, _, h => by cases h
  | _ :: _, [], _, _, h => by cases h
  | f :: fs, d :: ds, δ, δ', h => by
    have hf' : (f d δ).bind (fun δ' => asAll fs ds δ') = some δ' := h
    cases hfd : f d δ with
    | none => rw [hfd] at hf'; cases hf'
    | some δ1 =>
      rw [hfd] at hf'
      rw [List.length_cons, List.length_cons, asAll_len hf']
theorem dg_tup {ts : List Expr} {kk : Nat} {fs : List As} {ix : List Nat} (h : DGs X N ts fs ix) (hK : N.K = X.K) (hc : X.calm = true) (hn : (assignEach ts X.env).length = fs.length := by rfl) (hst : (assignEach ts X.env).findIdx? (·.1) = none := by rfl) : DG X N (.Tuple ts kk pos) (asTup fs) ix :=
  PG.imp (pg_tup hc h hn hst) fun v σ H Q ⟨F, A, δ, μ, d, δ', R, rv, hf, k⟩ => by
    cases d with
    | tup ds =>
      obtain ⟨a, vs, rfl, h1, h2⟩ := rep_tup rv
      refine ⟨a, vs, rfl, ?_, ?_, F, A, δ, μ, ds, δ', R, h2, hf, k⟩
      · rw [← hK]; exact same_sqT R.rc.sub h1
      · rw [h2.length]; exact asAll_len hf
    | _ => cases hf
/-- target = e, by a target's rule -/
theorem ds_asg {f : As} {ix : List Nat} (h : DE X N W δ μ e (.v (.p d)) μ1) (hg : DG X N tg f ix) (hf : f d δ = some δ1) (hs : swapsWithSole [tg] e pos.line X.env = pure false := by rfl) (hw : swappedStores [tg] e X.env = pure none := by rfl)
    (h1 : (assignEach [tg] X.env).map (·.2) = [assign tg X.env] := by rfl) : DS X N W δ μ (.Assign [tg] e pos) (.nx δ1 μ1) :=
  PS.imp (ps_asg h hg hs hw h1) fun K σ H ⟨F, A, R, k⟩ => ⟨F, A, R, fun v F1 A1 H1 e1 p1 R1 rv => ⟨F1, A1, δ, μ1, d, δ1, R1, rv, hf, fun σ' _ R' => k σ' F1 A1 H1 e1 p1 R'⟩⟩
/-! ## for -/
theorem ds_for {body : List Stmt} {f : As} {ix : List Nat} {o : Os} (g : Go X N W n) (hi : DI X N W δ μ tg iter ds μ1) (hg : DG X N tg f ix) (hl : Loop X N W f body ds δ μ1 o) (hs : ∀ x, foldedSetIterable iter X.env x = pure x := by intro _; rfl) : DS X N W δ μ (.For tg iter body [] pos) o := by
  have hb : PSs X body (fun K σ H => ∃ δt μt o1, DSs X N W δt μt body o1 ∧ tDS N W δt μt o1 K σ H) := ⟨fun p s σ H K I ⟨δt, μt, o1, hd, q⟩ => hd.run p s σ H K I q⟩
  refine PS.imp (ps_for g.po g.calm hi hg hb hs) fun K σ H ⟨F, A, R, k⟩ => ⟨F, A, R, fun J F1 A1 H1 e1 p1 R1 y => ?_⟩
  have k1 := k.to e1 p1
  refine ⟨fun i m σ' H' => i ≤ ds.length ∧ m = ds.length - i ∧ ∃ F' A' δ' μ', Same F1 F' ∧ A1 <+: A' ∧ Rl N F' A' H' σ' δ' μ' ∧ Loop X N W f body (ds.drop i) δ' μ' o, ⟨ds.length, Nat.zero_le _, by simp, F1, A1, δ, μ1, Same.refl _, List.prefix_refl _, R1, by simpa using hl⟩, ?_⟩
  rintro i m σ' H' ⟨hi, rfl, F', A', δ', μ', e', p', R', hL⟩
  have k2 := k1.to e' p'
  by_cases hlt : i < ds.length
  · refine .inr ⟨y.goes i H' hlt (e'.trans R'.rc.sub), fun σ2 H2 => ∃ F2 A2 δ2 μ2, Same F1 F2 ∧ A1 <+: A2 ∧ Rl N F2 A2 H2 σ2 δ2 μ2 ∧ Loop X N W f body (ds.drop (i + 1)) δ2 μ2 o, fun σ2 H2 ⟨F2, A2, δ2, μ2, a, b, c, d⟩ => ⟨ds.length - (i + 1), by omega, hlt, rfl, F2, A2, δ2, μ2, a, b, c, d⟩, fun x H2 hy => ?_⟩
    obtain ⟨d, hd, it⟩ := (y.mono e').yields i H' x H2 hlt R'.rc.sub hy
    obtain ⟨F2, e2, R2, rx⟩ := R'.item it
    rw [List.drop_eq_getElem_cons hlt] at hL
    have hd' : ds[i] = d := by
      rw [List.getElem?_eq_getElem hlt] at hd
      exact Option.some.inj hd
    rw [hd'] at hL
    have k3 := k2.to e2 (List.prefix_refl _)
    cases hL with
    | next hf hb hL => exact ⟨F2, A', δ', μ', d, _, R2, rx, hf, fun σ3 _ R3 => ⟨_, _, _, hb, F2, A', R3, fun σ4 F4 A4 H4 e4 p4 R4 => ⟨F4, A4, _, _, (e'.trans e2).trans e4, p'.trans p4, R4, hL⟩⟩⟩
    | cont hf hb hL => exact ⟨F2, A', δ', μ', d, _, R2, rx, hf, fun σ3 _ R3 => ⟨_, _, _, hb, F2, A', R3, fun σ4 F4 A4 H4 e4 p4 R4 => ⟨F4, A4, _, _, (e'.trans e2).trans e4, p'.trans p4, R4, hL⟩⟩⟩
    | brk hf hb => exact ⟨F2, A', δ', μ', d, _, R2, rx, hf, fun σ3 _ R3 => ⟨_, _, _, hb, F2, A', R3, fun σ4 F4 A4 H4 e4 p4 R4 => k3 σ4 F4 A4 H4 e4 p4 R4⟩⟩
    | ret hf hb => exact ⟨F2, A', δ', μ', d, _, R2, rx, hf, fun σ3 _ R3 => ⟨_, _, _, hb, F2, A', R3, k3⟩⟩
    | exc hf hb => exact ⟨F2, A', δ', μ', d, _, R2, rx, hf, fun σ3 _ R3 => ⟨_, _, _, hb, F2, A', R3, k3⟩⟩
  · have e : i = ds.length := by omega
    subst e
    refine .inl ⟨y.stops H' (e'.trans R'.rc.sub), ?_⟩
    rw [List.drop_length] at hL
    cases hL
    exact k2 σ' F' A' H' (Same.refl _) (List.prefix_refl _) R'
end
end Dl

set_option Elab.async false
set_option linter.all false
set_option maxRecDepth 100000
set_option maxHeartbeats 4000000
set_option autoImplicit false
namespace Dl
open PySem PySem.Spec PyProof.Rows L2
/-- an object that is neither frozen nor told is changed -/
theorem Rc.poke {N : En} {F : Hp} {A : List Addr} {H : Hp} {μ : List M} (r : Rc N F A H μ) {p : Addr} (hF : F p = none) (hA : p ∉ A) (h0 : N.H0 p = none) (o : HO) : Rc N F A (upd H p o) μ where
  sub := fun b x e => by
    have hb : b ≠ p := fun z => by rw [z, hF] at e; cases e
    rw [upd_ne hb]; exact r.sub b x e
  base := r.base
  new := r.new
  keep := fun a x e hA => by
    have hb : a ≠ p := fun z => by rw [z, h0] at e; cases e
    rw [upd_ne hb]; exact r.keep a x e hA
  pre := r.pre
  nd := r.nd
  len := r.len
  mus := fun j a m h1 h2 => (r.mus j a m h1 h2).mono (Same.refl _) (List.prefix_refl _) (upd_ne (ne_mem hA h1))
  fr := r.fr
/-- .. is frozen -/
theorem Rc.adopt {N : En} {F : Hp} {A : List Addr} {H : Hp} {μ : List M} (r : Rc N F A H μ) {p : Addr} (hF : F p = none) (hA : p ∉ A) (h0 : N.H0 p = none) {o : HO} (ho : H p = some o) : Rc N (upd F p o) A H μ where
  sub := fun b x e => by
    by_cases hb : b = p
    · subst hb; rw [upd_same] at e; cases e; exact ho
    · rw [upd_ne hb] at e; exact r.sub b x e
  base := r.base.trans (same_updN hF)
  new := fun a x e => by
    by_cases hb : a = p
    · subst hb; exact .inr h0
    · rw [upd_ne hb] at e; exact r.new a x e
  keep := r.keep
  pre := r.pre
  nd := r.nd
  len := r.len
  mus := fun j a m h1 h2 => (r.mus j a m h1 h2).mono (same_updN hF) (List.prefix_refl _) rfl
  fr := fun j a m h1 h2 h3 => by
    rw [upd_ne (ne_mem hA h1)]
    exact r.fr j a m h1 h2 h3
/-- .. is told as changing -/
theorem Rc.adoptM {N : En} {F : Hp} {A : List Addr} {H : Hp} {μ : List M} (r : Rc N F A H μ) {p : Addr} (hF : F p = none) (hA : p ∉ A) (h0 : N.H0 p = none) {m : M} (ok : MOk N.K F (A ++ [p]) H p m) : Rc N F (A ++ [p]) H (μ ++ [m]) where
  sub := r.sub
  base := r.base
  new := r.new
  keep := r.keep
  pre := by
    obtain ⟨B, rfl, hB⟩ := r.pre
    refine ⟨B ++ [p], List.append_assoc .., fun b hb => ?_⟩
    rcases List.mem_append.mp hb with hb | hb
    · exact hB b hb
    · rw [List.mem_singleton] at hb; subst hb; exact h0
  nd := List.nodup_append.mpr ⟨r.nd, by simp, fun a ha b hb => by
    rw [List.mem_singleton] at hb; subst hb
    intro z; subst z; exact hA ha⟩
  len := by simp [r.len]
  mus := fun j a m' h1 h2 => by
    by_cases hj : j < A.length
    · rw [List.getElem?_append_left hj] at h1
      rw [List.getElem?_append_left (by rw [← r.len]; exact hj)] at h2
      exact (r.mus j a m' h1 h2).mono (Same.refl _) (List.prefix_append _ _) rfl
    · rw [List.getElem?_append_right (by omega)] at h1
      rw [List.getElem?_append_right (by rw [← r.len]; omega), ← r.len] at h2
      have e : j - A.length = 0 := by
        have := (List.getElem?_eq_some_iff.mp h1).1
        simp at this; omega
      rw [e] at h1 h2
      simp at h1 h2
      subst h1 h2
      exact ok
  fr := fun j a m' h1 h2 h3 => by
    by_cases hj : j < A.length
    · rw [List.getElem?_append_left hj] at h1
      rw [List.getElem?_append_left (by rw [← r.len]; exact hj)] at h2
      exact r.fr j a m' h1 h2 h3
    · rw [List.getElem?_append_right (by omega)] at h1
      have e : j - A.length = 0 := by
        have := (List.getElem?_eq_some_iff.mp h1).1
        simp at this; omega
      rw [e] at h1
      simp at h1
      subst h1
      exact hF
def wipeD (δ : List (Option S)) : List Nat → List (Option S)
  | [] => δ
  | v :: vs => (wipeD δ vs).set v none
theorem wipeD_len (δ : List (Option S)) : ∀ vs : List Nat, (wipeD δ vs).length = δ.length
  | [] => rfl
  | v :: vs => by unfold wipeD; rw [List.length_set, wipeD_len δ vs]
theorem wipeD_some {δ : List (Option S)} {i : Nat} {x : S} : ∀ {vs : List Nat}, (wipeD δ vs)[i]? = some (some x) → δ[i]? = some (some x) ∧ i ∉ vs
  | [], h => ⟨h, by simp⟩
  | v :: vs, h => by
    unfold wipeD at h
    by_cases hi : v = i
    · subst hi
      by_cases hv : v < (wipeD δ vs).length
      · rw [List.getElem?_set_self hv] at h; cases h
      · rw [List.getElem?_eq_none (by simpa using hv)] at h; cases h
    · rw [List.getElem?_set_ne hi] at h
      obtain ⟨h1, h2⟩ := wipeD_some h
      exact ⟨h1, by simp only [List.mem_cons, not_or]; exact ⟨fun e => hi e.symm, h2⟩⟩
theorem Rl.wiped {N : En} {F : Hp} {A : List Addr} {H : Hp} {σ : L2.St} {δ : List (Option S)} {μ : List M} (R : Rl N F A H σ δ μ) (vs : List Nat) : Rl N F A H (wipe σ vs) (wipeD δ vs) μ :=
  ⟨R.rc, by rw [wipeD_len, wipe_length]; exact R.len, fun i s h => by
    obtain ⟨h1, h2⟩ := wipeD_some h
    obtain ⟨v, h3, h4⟩ := R.sl i s h1
    refine ⟨v, ?_, h4⟩
    rw [wipe_get, if_neg h2]
    exact h3⟩
abbrev W0 : WX := fun _ _ _ _ => False
abbrev blkX (X : Cx) (scope : Scope) (s : Shared) (H : Hp) (C : Addr) (cl : List (Str × Addr)) (fp : List Addr) : Cx := X.blk s H scope (compEnvC scope cl C X.env) fp
theorem takes00 {X : Cx} : Takes X W0 := fun _ _ x => by
  obtain ⟨_, _, _, _, _, _, _, _, _, _, _, _, _, _, _, _, z⟩ := x
  exact z.elim
theorem passesOwn_never {M : Model} {A : Around} {env : Env} : PassesOwn M A env (fun _ _ => False) := PassesOwn.never
theorem Go.blk {X : Cx} {N N' : En} {W : WX} {n : Nat} {scope : Scope} {s : Shared} {H : Hp} {C : Addr} {cl : List (Str × Addr)} {fp : List Addr} (g : Go X N W n) (h : N'.K = N.K) : Go (blkX X scope s H C cl fp) N' W0 n :=
  ⟨takes00, g.calm, h.trans g.hK, g.room, PassesOwn.never, g.nd⟩
/-- an element (or none), at the slots δ -/
inductive Elt (X : Cx) (N : En) (ifs : List Expr) (elt : Expr) (δ : List (Option S)) (μ : List M) : Option D → List M → Prop
  | all {y μ1} : ifs = [] → DE X N W0 δ μ elt (.v (.p y)) μ1 → Elt X N ifs elt δ μ (some y) μ1
  | yes {c y μ1 μ2} : ifs = [c] → DT X N W0 δ μ c true μ1 → DE X N W0 δ μ1 elt (.v (.p y)) μ2 → Elt X N ifs elt δ μ (some y) μ2
  | no {c μ1} : ifs = [c] → DT X N W0 δ μ c false μ1 → Elt X N ifs elt δ μ none μ1
inductive CmpL (P : List (Option S) → List M → Option D → List M → Prop) (f : As) (δ : List (Option S)) : List D → List M → List D → List M → Prop
  | nil {μ} : CmpL P f δ [] μ [] μ
  | keep {d ds δt μ y μ1 ys μ2} : f d δ = some δt → P δt μ (some y) μ1 → CmpL P f δ ds μ1 ys μ2 → CmpL P f δ (d :: ds) μ (y :: ys) μ2
  | drop {d ds δt μ μ1 ys μ2} : f d δ = some δt → P δt μ none μ1 → CmpL P f δ ds μ1 ys μ2 → CmpL P f δ (d :: ds) μ ys μ2
theorem CmpL.len {P : List (Option S) → List M → Option D → List M → Prop} {f : As} {δ : List (Option S)} {ds ys : List D} {μ μ' : List M} (h : CmpL P f δ ds μ ys μ') : ys.length ≤ ds.length := by
  induction h with
  | nil => exact Nat.le_refl _
  | keep _ _ _ ih => exact Nat.succ_le_succ ih
  | drop _ _ _ ih => exact Nat.le_succ_of_le ih
/-- in every block of this comprehension -/
def EltB (X : Cx) (K : PySem.W.Frag) (n : Nat) (scope : Scope) (ifs : List Expr) (elt : Expr) (δ : List (Option S)) (μ : List M) (r : Option D) (μ1 : List M) : Prop :=
  ∀ s H C cl fp N', N'.K = K → Go (blkX X scope s H C cl fp) N' W0 n → Elt (blkX X scope s H C cl fp) N' ifs elt δ μ r μ1
section
variable {X : Cx} {N : En} {W : WX} {n : Nat} {δ δ' δ1 δ2 : List (Option S)} {μ μ' μ1 μ2 μ3 : List M} {elt tg iter : Expr} {ifs : List Expr} {pos : Pos} {ds ys : List D} {scope : Scope} {own : List (Str × Nat)} {f : As} {ix : List Nat}
/-- the reading of a comprehension's parts, for all blocks -/
def tElt (N0 : En) (n : Nat) (X : Cx) (scope : Scope) (ifs : List Expr) (elt : Expr) : TT := fun σ H Q => ∃ (N : En) (F : Hp) (A : List Addr) (δ : List (Option S)) (μ : List M) (r : Option D) (μ1 : List M), N.K = N0.K ∧ Rl N F A H σ δ μ ∧ EltB X N0.K n scope ifs elt δ μ r μ1 ∧
  ∃ μ', (∀ F' A' H', Same F F' → A <+: A' → Rl N F' A' H' σ δ μ' → Q r.isSome H') ∧ ∀ s H C cl fp, Go (blkX X scope s H C cl fp) N W0 n → True
theorem lc_go {J : It} {F1 : Hp} {A1 : List Addr} {H1 : Hp} {σ : L2.St} {tt : TT} {te : TE} {D0 : Addr} {Qd : Hp → Prop} (hds : ds.length < sizeLine) (R1 : Rl N F1 A1 H1 σ δ μ1) (y : Yl N.K J F1 ds) (hD : H1 D0 = none) (hix : ∀ i ∈ ix, i ∈ own.map (·.2))
    (P : List (Option S) → List M → Option D → List M → Prop) (hl : CmpL P f (wipeD δ (own.map (·.2))) ds μ1 ys μ2)
    (hP : ∀ (N' : En) F A σ2 H2 δt μt r μu (Q : Option V → Hp → Prop), N'.K = N.K → Rl N' F A H2 σ2 δt μt → P δt μt r μu →
      (∀ v F' A' H', Same F F' → A <+: A' → Rl N' F' A' H' σ2 δt μu → (match r, v with | some y, some v => Rep N.K F' v y | none, none => True | _, _ => False) → Q v H') →
      tt σ2 H2 fun b H3 => if b = true then te σ2 H3 fun v H4 => Q (some v) H4 else Q none H3)
    (hq : ∀ F' A' H' vs, Same F1 F' → A1 <+: A' → Rc N F' A' H' μ2 → H' D0 = some (.lst vs) → F' D0 = none → D0 ∉ A' → Reps N.K F' vs ys → Qd H') :
    ∃ Wt : Nat → Nat → Hp → Prop, (∃ m, Wt 0 m (upd H1 D0 (.lst []))) ∧ ∀ i m H, Wt i m H →
      (J.stop i H ∧ Qd H) ∨ (J.go i H ∧ ∃ Nx : Hp → Prop, (∀ H', Nx H' → ∃ m', m' < m ∧ Wt (i + 1) m' H') ∧ ∀ x H', J.yld i H x H' → tGd N f ix x (wipe σ (own.map (·.2))) H' fun σ2 H2 => wipe σ2 (own.map (·.2)) = wipe σ (own.map (·.2)) ∧ tt σ2 H2 fun b H3 =>
        if b = true then te σ2 H3 fun y H4 => ∃ acc, H4 D0 = some (.lst acc) ∧ acc.length < sizeLine ∧ Nx (upd H4 D0 (.lst (acc ++ [y]))) else Nx H3) := by
  have h0 := R1.rc.fresh hD
  refine ⟨fun i m H => i ≤ ds.length ∧ m = ds.length - i ∧ ∃ F A μ vs acc rest, Same F1 F ∧ A1 <+: A ∧ Rc N F A H μ ∧ H D0 = some (.lst vs) ∧ F D0 = none ∧ D0 ∉ A ∧ Reps N.K F vs acc ∧ vs.length ≤ i ∧ CmpL P f (wipeD δ (own.map (·.2))) (ds.drop i) μ rest μ2 ∧ acc ++ rest = ys,
    ⟨ds.length, Nat.zero_le _, by simp, F1, A1, μ1, [], [], ys, Same.refl _, List.prefix_refl _, R1.rc.junk hD _, upd_same, h0.2.1, h0.2.2, .nil, Nat.le_refl _, by simpa using hl, rfl⟩, ?_⟩
  rintro i m H ⟨hi, rfl, F, A, μ, vs, acc, rest, e, p, R, hv, hF, hA, hr, hvl, hL, hy⟩
  by_cases hlt : i < ds.length
  · refine .inr ⟨y.goes i H hlt (e.trans R.sub), fun H' => ∃ F A μ vs acc rest, Same F1 F ∧ A1 <+: A ∧ Rc N F A H' μ ∧ H' D0 = some (.lst vs) ∧ F D0 = none ∧ D0 ∉ A ∧ Reps N.K F vs acc ∧ vs.length ≤ i + 1 ∧ CmpL P f (wipeD δ (own.map (·.2))) (ds.drop (i + 1)) μ rest μ2 ∧ acc ++ rest = ys,
      fun H' ⟨F, A, μ, vs, acc, rest, a⟩ => ⟨ds.length - (i + 1), by omega, hlt, rfl, F, A, μ, vs, acc, rest, a⟩, fun x H' hyd => ?_⟩
    obtain ⟨d, hd, it⟩ := (y.mono e).yields i H x H' hlt R.sub hyd
    have Rf : Rl N F A H σ δ μ := R1.to e p R
    have hH' : H' D0 = some (.lst vs) := by
      rcases it with ⟨rfl, _⟩ | ⟨T, ws, es, _, nT, rfl, _, _⟩
      · exact hv
      · rw [upd_ne (ne_of_none hv nT)]; exact hv
    have hF2 : ∀ F2, Rl N F2 A H' σ δ μ → True := fun _ _ => trivial
    obtain ⟨F2, e2, R2, rx, hF20⟩ : ∃ F', Same F F' ∧ Rl N F' A H' σ δ μ ∧ Rep N.K F' x d ∧ F' D0 = none := by
      rcases it with ⟨rfl, r⟩ | ⟨T, ws, es, rfl, nT, rfl, rfl, r⟩
      · exact ⟨F, Same.refl _, Rf, r, hF⟩
      · have sm := same_updN (o := .tup ws) (R.fresh nT).2.1
        exact ⟨_, sm, Rf.to sm (List.prefix_refl _) (R.frozen nT _), .tup (SqT.of upd_same) (r.mono sm), by rw [upd_ne (ne_of_none hv nT)]; exact hF⟩
    rw [List.drop_eq_getElem_cons hlt] at hL
    have hd' : ds[i] = d := by
      rw [List.getElem?_eq_getElem hlt] at hd
      exact Option.some.inj hd
    rw [hd'] at hL
    -- one element
    have key : ∀ (σ2 : L2.St) (δt : List (Option S)) (r : Option D) (μu : List M) (rest' : List D), Rl N F2 A H' σ2 δt μ → P δt μ r μu → CmpL P f (wipeD δ (own.map (·.2))) (ds.drop (i + 1)) μu rest' μ2 →
        (match r with | some y => acc ++ y :: rest' = ys | none => acc ++ rest' = ys) →
        tt σ2 H' fun b H3 => if b = true then te σ2 H3 fun y H4 => ∃ acc, H4 D0 = some (.lst acc) ∧ acc.length < sizeLine ∧ (∃ F A μ vs acc' rest, Same F1 F ∧ A1 <+: A ∧ Rc N F A (upd H4 D0 (.lst (acc ++ [y]))) μ ∧ (upd H4 D0 (.lst (acc ++ [y]))) D0 = some (.lst vs) ∧ F D0 = none ∧ D0 ∉ A ∧ Reps N.K F vs acc' ∧ vs.length ≤ i + 1 ∧ CmpL P f (wipeD δ (own.map (·.2))) (ds.drop (i + 1)) μ rest μ2 ∧ acc' ++ rest = ys)
          else ∃ F A μ vs acc rest, Same F1 F ∧ A1 <+: A ∧ Rc N F A H3 μ ∧ H3 D0 = some (.lst vs) ∧ F D0 = none ∧ D0 ∉ A ∧ Reps N.K F vs acc ∧ vs.length ≤ i + 1 ∧ CmpL P f (wipeD δ (own.map (·.2))) (ds.drop (i + 1)) μ rest μ2 ∧ acc ++ rest = ys := by
      intro σ2 δt r μu rest' R3 hPr hL' hys
      have R3' : Rl ⟨N.K, H', F2, A⟩ F2 A H' σ2 δt μ := ⟨R3.rc.entry, R3.len, R3.sl⟩
      refine hP ⟨N.K, H', F2, A⟩ F2 A σ2 H' δt μ r μu (fun v H4 => match v with
          | some v => ∃ acc, H4 D0 = some (.lst acc) ∧ acc.length < sizeLine ∧ (∃ F A μ vs acc' rest, Same F1 F ∧ A1 <+: A ∧ Rc N F A (upd H4 D0 (.lst (acc ++ [v]))) μ ∧ (upd H4 D0 (.lst (acc ++ [v]))) D0 = some (.lst vs) ∧ F D0 = none ∧ D0 ∉ A ∧ Reps N.K F vs acc' ∧ vs.length ≤ i + 1 ∧ CmpL P f (wipeD δ (own.map (·.2))) (ds.drop (i + 1)) μ rest μ2 ∧ acc' ++ rest = ys)
          | none => ∃ F A μ vs acc rest, Same F1 F ∧ A1 <+: A ∧ Rc N F A H4 μ ∧ H4 D0 = some (.lst vs) ∧ F D0 = none ∧ D0 ∉ A ∧ Reps N.K F vs acc ∧ vs.length ≤ i + 1 ∧ CmpL P f (wipeD δ (own.map (·.2))) (ds.drop (i + 1)) μ rest μ2 ∧ acc ++ rest = ys) rfl R3' hPr fun v F4 A4 H4 e4 p4 R4 rv => ?_
      have b4 : Rc N F4 A4 H4 μu := R3.rc.back R4.rc
      have k4 : H4 D0 = some (.lst vs) := R4.rc.keep D0 _ hH' hA
      have f4 : F4 D0 = none := by
        cases q : F4 D0 with
        | none => rfl
        | some o =>
          rcases R4.rc.new D0 o q with ⟨o', z⟩ | z
          · have z' : F2 D0 = some o' := z
            rw [hF20] at z'; cases z'
          · have z' : H' D0 = none := z
            rw [hH'] at z'; cases z'
      have a4 : D0 ∉ A4 := fun hm => by
        obtain ⟨B, eB, hB⟩ := R4.rc.pre
        rw [eB] at hm
        rcases List.mem_append.mp hm with z | z
        · exact hA z
        · have z' : H' D0 = none := hB _ z
          rw [hH'] at z'; cases z'
      have s4 : Same F1 F4 := (e.trans e2).trans e4
      have p4' : A1 <+: A4 := p.trans p4
      cases r with
      | some yv =>
        cases v with
        | some v =>
          refine ⟨vs, k4, by omega, F4, A4, μu, vs ++ [v], acc ++ [yv], rest', s4, p4', b4.poke f4 a4 h0.1 _, upd_same, f4, a4, ((hr.mono (e2.trans e4))).snoc rv, by simp; omega, hL', ?_⟩
          rw [List.append_assoc]
          exact hys
        | none => exact rv.elim
      | none =>
        cases v with
        | some v => exact rv.elim
        | none => exact ⟨F4, A4, μu, vs, acc, rest', s4, p4', b4, k4, f4, a4, hr.mono (e2.trans e4), by omega, hL', hys⟩
    have Rw := R2.wiped (own.map (·.2))
    cases hL with
    | keep hf hb hL' => exact ⟨F2, A, _, μ, d, _, Rw, rx, hf, fun σ2 w2 R3 => ⟨(wipe_sub hix w2).trans (by
        apply List.ext_getElem?
        intro j
        rw [wipe_get, wipe_get]
        by_cases hj : j ∈ own.map (·.2)
        · rw [if_pos hj, if_pos hj]; cases σ[j]? <;> rfl
        · rw [if_neg hj, if_neg hj]), key σ2 _ (some _) _ _ R3 hb hL' hy⟩⟩
    | drop hf hb hL' => exact ⟨F2, A, _, μ, d, _, Rw, rx, hf, fun σ2 w2 R3 => ⟨(wipe_sub hix w2).trans (by
        apply List.ext_getElem?
        intro j
        rw [wipe_get, wipe_get]
        by_cases hj : j ∈ own.map (·.2)
        · rw [if_pos hj, if_pos hj]; cases σ[j]? <;> rfl
        · rw [if_neg hj, if_neg hj]), key σ2 _ none _ _ R3 hb hL' hy⟩⟩
  · have hi' : i = ds.length := by omega
    subst hi'
    refine .inl ⟨y.stops H (e.trans R.sub), ?_⟩
    rw [List.drop_length] at hL
    cases hL
    rw [List.append_nil] at hy
    subst hy
    exact hq F A H vs e p R hv hF hA hr
end
end Dl

set_option Elab.async false
set_option linter.all false
set_option maxRecDepth 100000
set_option maxHeartbeats 4000000
set_option autoImplicit false
namespace Dl
open PySem PySem.Spec PyProof.Rows L2
section
variable {X : Cx} {N : En} {W : WX} {n : Nat} {δ δ' δ1 δ2 : List (Option S)} {μ μ' μ1 μ2 μ3 : List M} {elt tg iter c : Expr} {ifs : List Expr} {pos : Pos} {ds ys : List D} {scope : Scope} {own : List (Str × Nat)} {f : As} {ix : List Nat}
/-- in every block -/
abbrev DEB (X : Cx) (K : PySem.W.Frag) (n : Nat) (scope : Scope) (elt : Expr) (δ : List (Option S)) (μ : List M) (y : D) (μ1 : List M) : Prop :=
  ∀ s H C cl fp N', N'.K = K → Go (blkX X scope s H C cl fp) N' W0 n → DE (blkX X scope s H C cl fp) N' W0 δ μ elt (.v (.p y)) μ1
abbrev DTB (X : Cx) (K : PySem.W.Frag) (n : Nat) (scope : Scope) (c : Expr) (δ : List (Option S)) (μ : List M) (b : Bool) (μ1 : List M) : Prop :=
  ∀ s H C cl fp N', N'.K = K → Go (blkX X scope s H C cl fp) N' W0 n → DT (blkX X scope s H C cl fp) N' W0 δ μ c b μ1
def teB (X : Cx) (K : PySem.W.Frag) (n : Nat) (scope : Scope) (elt : Expr) : TE := fun σ H Q => ∃ (N' : En) (F : Hp) (A : List Addr) (δt : List (Option S)) (μt : List M) (y : D) (μu : List M), N'.K = K ∧ Rl N' F A H σ δt μt ∧ DEB X K n scope elt δt μt y μu ∧
  ∀ v F' A' H', Same F F' → A <+: A' → Rl N' F' A' H' σ δt μu → Rep K F' v y → Q v H'
def ttB (X : Cx) (K : PySem.W.Frag) (n : Nat) (scope : Scope) (c : Expr) : TT := fun σ H Q => ∃ (N' : En) (F : Hp) (A : List Addr) (δt : List (Option S)) (μt : List M) (b : Bool) (μu : List M), N'.K = K ∧ Rl N' F A H σ δt μt ∧ DTB X K n scope c δt μt b μu ∧
  ∀ F' A' H', Same F F' → A <+: A' → Rl N' F' A' H' σ δt μu → Q b H'
theorem pe_teB (g : Go X N W n) {s : Shared} {H : Hp} {C : Addr} {cl : List (Str × Addr)} {fp : List Addr} : PE (blkX X scope s H C cl fp) elt (teB X N.K n scope elt) :=
  ⟨fun pins s σ H Q I ⟨N', F, A, δt, μt, y, μu, hK, R, hd, k⟩ => (hd _ _ _ _ _ N' hK (g.blk hK)).run pins s σ H Q I ⟨F, A, R, fun v F' A' H' a b c d => k v F' A' H' a b c (by rw [← hK]; exact d)⟩⟩
theorem pt_ttB (g : Go X N W n) {s : Shared} {H : Hp} {C : Addr} {cl : List (Str × Addr)} {fp : List Addr} : PT (blkX X scope s H C cl fp) c (ttB X N.K n scope c) :=
  ⟨fun pins s σ H Q I ⟨N', F, A, δt, μt, y, μu, hK, R, hd, k⟩ => (hd _ _ _ _ _ N' hK (g.blk hK)).run pins s σ H Q I ⟨F, A, R, k⟩⟩
/-- an element without a test -/
def El0 (X : Cx) (K : PySem.W.Frag) (n : Nat) (scope : Scope) (elt : Expr) : List (Option S) → List M → Option D → List M → Prop := fun δt μt r μu => ∃ y, r = some y ∧ DEB X K n scope elt δt μt y μu
/-- an element with one -/
def El1 (X : Cx) (K : PySem.W.Frag) (n : Nat) (scope : Scope) (c elt : Expr) : List (Option S) → List M → Option D → List M → Prop := fun δt μt r μu => ∃ μ', DTB X K n scope c δt μt r.isSome μ' ∧
  match r with
  | some y => DEB X K n scope elt δt μ' y μu
  | none => μu = μ'
theorem lc_read (g : Go X N W n) (P : List (Option S) → List M → Option D → List M → Prop) {tt : TT} {te : TE} (hds : ds.length < sizeLine) (hix : ∀ i ∈ ix, i ∈ own.map (·.2)) (hl : CmpL P f (wipeD δ (own.map (·.2))) ds μ1 ys μ2)
    (hP : ∀ (N' : En) F A σ2 H2 δt μt r μu (Q : Option V → Hp → Prop), N'.K = N.K → Rl N' F A H2 σ2 δt μt → P δt μt r μu →
      (∀ v F' A' H', Same F F' → A <+: A' → Rl N' F' A' H' σ2 δt μu → (match r, v with | some y, some v => Rep N.K F' v y | none, none => True | _, _ => False) → Q v H') →
      tt σ2 H2 fun b H3 => if b = true then te σ2 H3 fun v H4 => Q (some v) H4 else Q none H3)
    {σ : L2.St} {H : Hp} {Q : VK} {F : Hp} {A : List Addr} (R : Rl N F A H σ δ μ)
    (hq : ∀ D0 F' A' H' vs, Same F F' → A <+: A' → Rc N F' A' H' μ2 → H' D0 = some (.lst vs) → F' D0 = none → D0 ∉ A' → N.H0 D0 = none → Reps N.K F' vs ys → Q (.ref D0) H') :
    tLc (tI N W δ μ ds μ1) (tGd N f ix) tt te (own.map (·.2)) σ H Q :=
  ⟨F, A, R, fun J F1 A1 H1 e1 p1 R1 y D0 hD => lc_go hds R1 y hD hix P hl hP fun F' A' H' vs e p r a b c d => hq D0 F' A' H' vs (e1.trans e) (p1.trans p) r a b c (R1.rc.fresh hD).1 d⟩
theorem hP0 (g : Go X N W n) : ∀ (N' : En) F A σ2 H2 δt μt r μu (Q : Option V → Hp → Prop), N'.K = N.K → Rl N' F A H2 σ2 δt μt → El0 X N.K n scope elt δt μt r μu →
      (∀ v F' A' H', Same F F' → A <+: A' → Rl N' F' A' H' σ2 δt μu → (match r, v with | some y, some v => Rep N.K F' v y | none, none => True | _, _ => False) → Q v H') →
      tYes σ2 H2 fun b H3 => if b = true then teB X N.K n scope elt σ2 H3 fun v H4 => Q (some v) H4 else Q none H3 := by
  intro N' F A σ2 H2 δt μt r μu Q hK R ⟨y, e, hd⟩ k
  subst e
  show if true = true then teB X N.K n scope elt σ2 H2 (fun v H4 => Q (some v) H4) else Q none H2
  exact iteT ⟨N', F, A, δt, μt, y, μu, hK, R, hd, fun v F' A' H' a b c d => k (some v) F' A' H' a b c d⟩
theorem hP1 (g : Go X N W n) : ∀ (N' : En) F A σ2 H2 δt μt r μu (Q : Option V → Hp → Prop), N'.K = N.K → Rl N' F A H2 σ2 δt μt → El1 X N.K n scope c elt δt μt r μu →
      (∀ v F' A' H', Same F F' → A <+: A' → Rl N' F' A' H' σ2 δt μu → (match r, v with | some y, some v => Rep N.K F' v y | none, none => True | _, _ => False) → Q v H') →
      ttB X N.K n scope c σ2 H2 fun b H3 => if b = true then teB X N.K n scope elt σ2 H3 fun v H4 => Q (some v) H4 else Q none H3 := by
  intro N' F A σ2 H2 δt μt r μu Q hK R ⟨μ', ht, hd⟩ k
  refine ⟨N', F, A, δt, μt, r.isSome, μ', hK, R, ht, fun F1 A1 H1 e1 p1 R1 => ?_⟩
  cases r with
  | some y => exact iteT ⟨N', F1, A1, δt, μ', y, μu, hK, R1, hd, fun v F' A' H' a b c d => k (some v) F' A' H' (e1.trans a) (p1.trans b) c d⟩
  | none =>
    have e : μu = μ' := hd
    subst e
    exact iteF (k none F1 A1 H1 e1 p1 R1 trivial)
/-- the new list is frozen -/
theorem lc_frz {σ : L2.St} {F : Hp} {A : List Addr} {H : Hp} {Q : VK} (R : Rl N F A H σ δ μ) (k : EndE N W σ δ F A μ2 Q (.v (.p (.lst ys)))) :
    ∀ D0 F' A' H' vs, Same F F' → A <+: A' → Rc N F' A' H' μ2 → H' D0 = some (.lst vs) → F' D0 = none → D0 ∉ A' → N.H0 D0 = none → Reps N.K F' vs ys → Q (.ref D0) H' := by
  intro D0 F' A' H' vs e p r a b c h0 d
  have sm := same_updN (o := .lst vs) b
  exact k (.ref D0) _ A' H' (e.trans sm) p (R.to (e.trans sm) p (r.adopt b c h0 a)) (.lst upd_same (d.mono sm))
/-- .. or goes on changing -/
theorem lc_mut {σ : L2.St} {F : Hp} {A : List Addr} {H : Hp} {Q : VK} (R : Rl N F A H σ δ μ) (k : EndE N W σ δ F A (μ2 ++ [.lst ys]) Q (.v (.l μ2.length))) :
    ∀ D0 F' A' H' vs, Same F F' → A <+: A' → Rc N F' A' H' μ2 → H' D0 = some (.lst vs) → F' D0 = none → D0 ∉ A' → N.H0 D0 = none → Reps N.K F' vs ys → Q (.ref D0) H' := by
  intro D0 F' A' H' vs e p r a b c h0 d
  have pp : A' <+: A' ++ [D0] := List.prefix_append _ _
  refine k (.ref D0) F' (A' ++ [D0]) H' e (p.trans pp) (R.to e (p.trans pp) (r.adoptM b c h0 ⟨vs, a, d⟩)) ⟨D0, rfl, ?_⟩
  rw [← r.len]; simp
theorem de_lc (g : Go X N W n) (own : List (Str × Nat)) (hi : DI X N W δ μ tg iter ds μ1) (hg : ∀ s H C cl fp, DG (blkX X scope s H C cl fp) N tg f ix) (hl : CmpL (El0 X N.K n scope elt) f (wipeD δ (own.map (·.2))) ds μ1 ys μ2)
    (ok : BlkOk X.N X.env.scope scope own := by exact blkOk_by (by decide +kernel)) (hds : ds.length < sizeLine := by first | (show _ < sizeLine; decide) | (simp; decide)) (hix : ∀ i ∈ ix, i ∈ own.map (·.2) := by decide) (hs : ∀ x, foldedSetIterable iter X.env x = pure x := by intro _; rfl) :
    DE X N W δ μ (.ListComp elt [⟨tg, iter, [], 0⟩] scope pos) (.v (.p (.lst ys))) μ2 :=
  PE.imp (pe_lc (own := own) g.calm g.nd hi ok hg (fun _ _ _ _ _ => pts_nil) (fun s H C cl fp => pe_teB g) hs) fun σ H Q ⟨F, A, R, k⟩ => lc_read g _ hds hix hl (hP0 g) R (lc_frz (W := W) R k)
theorem de_lcM (g : Go X N W n) (own : List (Str × Nat)) (hi : DI X N W δ μ tg iter ds μ1) (hg : ∀ s H C cl fp, DG (blkX X scope s H C cl fp) N tg f ix) (hl : CmpL (El0 X N.K n scope elt) f (wipeD δ (own.map (·.2))) ds μ1 ys μ2)
    (ok : BlkOk X.N X.env.scope scope own := by exact blkOk_by (by decide +kernel)) (hds : ds.length < sizeLine := by first | (show _ < sizeLine; decide) | (simp; decide)) (hix : ∀ i ∈ ix, i ∈ own.map (·.2) := by decide) (hs : ∀ x, foldedSetIterable iter X.env x = pure x := by intro _; rfl) :
    DE X N W δ μ (.ListComp elt [⟨tg, iter, [], 0⟩] scope pos) (.v (.l μ2.length)) (μ2 ++ [.lst ys]) :=
  PE.imp (pe_lc (own := own) g.calm g.nd hi ok hg (fun _ _ _ _ _ => pts_nil) (fun s H C cl fp => pe_teB g) hs) fun σ H Q ⟨F, A, R, k⟩ => lc_read g _ hds hix hl (hP0 g) R (lc_mut (W := W) R k)
theorem de_lcIf (g : Go X N W n) (own : List (Str × Nat)) (hi : DI X N W δ μ tg iter ds μ1) (hg : ∀ s H C cl fp, DG (blkX X scope s H C cl fp) N tg f ix) (hl : CmpL (El1 X N.K n scope c elt) f (wipeD δ (own.map (·.2))) ds μ1 ys μ2)
    (ok : BlkOk X.N X.env.scope scope own := by exact blkOk_by (by decide +kernel)) (hds : ds.length < sizeLine := by first | (show _ < sizeLine; decide) | (simp; decide)) (hix : ∀ i ∈ ix, i ∈ own.map (·.2) := by decide) (hs : ∀ x, foldedSetIterable iter X.env x = pure x := by intro _; rfl) :
    DE X N W δ μ (.ListComp elt [⟨tg, iter, [c], 0⟩] scope pos) (.v (.p (.lst ys))) μ2 :=
  PE.imp (pe_lc (own := own) g.calm g.nd hi ok hg (fun _ _ _ _ _ => pts_one (pt_ttB g)) (fun s H C cl fp => pe_teB g) hs) fun σ H Q ⟨F, A, R, k⟩ => lc_read g _ hds hix hl (hP1 g) R (lc_frz (W := W) R k)
/-- name = [..] -/
theorem ds_setLc (i : Nat) {x : Str} {py spos : Pos} (g : Go X N W n) (own : List (Str × Nat)) (hi : DI X N W δ μ tg iter ds μ1) (hg : ∀ s H C cl fp, DG (blkX X scope s H C cl fp) N tg f ix) (hl : CmpL (El0 X N.K n scope elt) f (wipeD δ (own.map (·.2))) ds μ1 ys μ2)
    (hsw : swapsWith (.ListComp elt [⟨tg, iter, [], 0⟩] scope pos) (some (.Name x py)) spos.line X.env = pure true := by exact sw_true rfl rfl rfl (by decide +kernel)) (hy : X.N[i]? = some x := by rfl) (hyl : X.env.scope.names.lookup x = some .local := by rfl)
    (ok : BlkOk X.N X.env.scope scope own := by exact blkOk_by (by decide +kernel)) (hds : ds.length < sizeLine := by first | (show _ < sizeLine; decide) | (simp; decide)) (hix : ∀ i ∈ ix, i ∈ own.map (·.2) := by decide) (hs : ∀ x, foldedSetIterable iter X.env x = pure x := by intro _; rfl) :
    DS X N W δ μ (.Assign [.Name x py] (.ListComp elt [⟨tg, iter, [], 0⟩] scope pos) spos) (.nx (δ.set i (some (.p (.lst ys)))) μ2) :=
  PS.imp (ps_setLc (own := own) g.calm g.nd hy hyl hsw hi ok hg (fun _ _ _ _ _ => pts_nil) (fun s H C cl fp => pe_teB g) hs) fun K σ H ⟨F, A, R, k⟩ =>
    lc_read g _ hds hix hl (hP0 g) R (lc_frz (W := W) R (show EndE N W σ δ F A μ2 _ (.v (.p (.lst ys))) from fun v F' A' H' e p R' rv => k _ F' A' H' e p (R'.set rv)))
theorem ds_setLcIf (i : Nat) {x : Str} {py spos : Pos} (g : Go X N W n) (own : List (Str × Nat)) (hi : DI X N W δ μ tg iter ds μ1) (hg : ∀ s H C cl fp, DG (blkX X scope s H C cl fp) N tg f ix) (hl : CmpL (El1 X N.K n scope c elt) f (wipeD δ (own.map (·.2))) ds μ1 ys μ2)
    (hsw : swapsWith (.ListComp elt [⟨tg, iter, [c], 0⟩] scope pos) (some (.Name x py)) spos.line X.env = pure true := by exact sw_true rfl rfl rfl (by decide +kernel)) (hy : X.N[i]? = some x := by rfl) (hyl : X.env.scope.names.lookup x = some .local := by rfl)
    (ok : BlkOk X.N X.env.scope scope own := by exact blkOk_by (by decide +kernel)) (hds : ds.length < sizeLine := by first | (show _ < sizeLine; decide) | (simp; decide)) (hix : ∀ i ∈ ix, i ∈ own.map (·.2) := by decide) (hs : ∀ x, foldedSetIterable iter X.env x = pure x := by intro _; rfl) :
    DS X N W δ μ (.Assign [.Name x py] (.ListComp elt [⟨tg, iter, [c], 0⟩] scope pos) spos) (.nx (δ.set i (some (.p (.lst ys)))) μ2) :=
  PS.imp (ps_setLc (own := own) g.calm g.nd hy hyl hsw hi ok hg (fun _ _ _ _ _ => pts_one (pt_ttB g)) (fun s H C cl fp => pe_teB g) hs) fun K σ H ⟨F, A, R, k⟩ =>
    lc_read g _ hds hix hl (hP1 g) R (lc_frz (W := W) R (show EndE N W σ δ F A μ2 _ (.v (.p (.lst ys))) from fun v F' A' H' e p R' rv => k _ F' A' H' e p (R'.set rv)))
theorem CmpL.of_map {fy : D → D} (h : ∀ d ∈ ds, ∃ δt, f d δ = some δt ∧ DEB X N.K n scope elt δt μ (fy d) μ) : CmpL (El0 X N.K n scope elt) f δ ds μ (ds.map fy) μ := by
  induction ds with
  | nil => exact .nil
  | cons d ds ih =>
    obtain ⟨δt, h1, h2⟩ := h d List.mem_cons_self
    exact .keep h1 ⟨_, rfl, h2⟩ (ih fun d hd => h d (List.mem_cons_of_mem _ hd))
end
end Dl

set_option Elab.async false
set_option linter.all false
set_option maxRecDepth 100000
set_option maxHeartbeats 4000000
set_option autoImplicit false
namespace Dl
open PySem PySem.Spec PyProof.Rows L2
/-! ### what type a datum has -/
/-- the type of a value -/
inductive TyD (K : PySem.W.Frag) : D → Value → Prop
  | non : TyD K .non (.type "NoneType")
  | bl (b) : TyD K (.bl b) (.type "bool")
  | int (i) : TyD K (.int i) (.type "int")
  | str (z) : TyD K (.str z) (.type "str")
  | tup (ds) : TyD K (.tup ds) (.type "tuple")
  | lst (ds) : TyD K (.lst ds) (.type "list")
  | dic (ks ds) : TyD K (.dic ks ds) (.type "dict")
  | ins (C ns ds) : TyD K (.ins C ns ds) (.ref C)
section
variable {X : Cx} {N : En} {W : WX} {n : Nat} {δ δ' δ1 δ2 : List (Option S)} {μ μ' μ1 μ2 μ3 : List M} {e a b c o : Expr} {es : List Expr} {ss : List S} {pos p apos : Pos} {d : D} {s s1 s2 : S} {r : Rx} {R : Rel} {k : Nat} {x m f : Str} {dd : List D} {C : Addr}
/-- two expressions, then what is done with both -/
theorem two_then {σ : L2.St} {H : Hp} {pins : List (Addr × Obj)} {sh : Shared} {F : Hp} {A : List Addr} {α : Type} {Q : α → Shared → Prop} {fn : Value → Value → Sem α} (ha : DE X N W δ μ a (.v s1) μ1) (hb : DE X N W δ μ1 b (.v s2) μ2) (I : Inv X pins σ H sh) (R0 : Rl N F A H σ δ μ)
    (h : ∀ v u s3 x y H2 F2 A2, Inv X pins σ H2 s3 → RelV x v → RelV y u → Same F F2 → A <+: A2 → Rl N F2 A2 H2 σ δ μ2 → RepS N.K F2 A2 x s1 → RepS N.K F2 A2 y s2 → wpAny (model X.prog X.w) X.A (fn v u) Q X.xe s3) :
    wpAny (model X.prog X.w) X.A (eval a X.env) (fun v s₁ => wpAny (model X.prog X.w) X.A (eval b X.env) (fun u s₂ => wpAny (model X.prog X.w) X.A (fn v u) Q X.xe s₂) X.xe s₁) X.xe sh :=
  bin ha hb (R := fun x y H2 => ∃ F2 A2, Same F F2 ∧ A <+: A2 ∧ Rl N F2 A2 H2 σ δ μ2 ∧ RepS N.K F2 A2 x s1 ∧ RepS N.K F2 A2 y s2) I
    ⟨F, A, R0, fun x F1 A1 H1 e1 p1 R1 rx => ⟨F1, A1, R1, fun y F2 A2 H2 e2 p2 R2 ry => ⟨F2, A2, e1.trans e2, p1.trans p2, R2, rx.mono e2 p2, ry⟩⟩⟩
    fun v u s3 x y H2 I2 rx ry ⟨F2, A2, e2, p2, R2, h1, h2⟩ => h v u s3 x y H2 F2 A2 I2 rx ry e2 p2 R2 h1 h2
theorem inst_at {pins : List (Addr × Obj)} {σ : L2.St} {H : Hp} {sh : Shared} {a C dx : Addr} {fs : List (Str × V)} (I : Inv X pins σ H sh) (e : H a = some (.ins C dx fs)) : ∃ od, PySem.W.InstAt sh.heap a (PySem.W.instObj C dx) C (some od) := by
  obtain ⟨mA, O, _⟩ := ins_get I.hok e
  obtain ⟨od, h, _⟩ := O.look
  exact ⟨od, h⟩
theorem back_of {pins : List (Addr × Obj)} {σ : L2.St} {Q : VK} {u : Value} {sh : Shared} (h : EP X pins σ Q u sh) : PySem.W.CmpBack (EP X pins σ Q) u sh := by
  obtain ⟨v, H', I, r, q⟩ := h
  cases v with
  | non => cases r; exact ⟨.non, H', I, rfl, q⟩
  | bl b => cases r; exact ⟨.bl b, H', I, rfl, q⟩
  | int i => obtain ⟨t, rfl⟩ := r; exact ⟨.int i, H', I, ⟨t, rfl⟩, q⟩
  | str i => obtain ⟨t, rfl⟩ := r; exact ⟨.str i, H', I, ⟨t, rfl⟩, q⟩
  | byt i => obtain ⟨t, rfl⟩ := r; exact ⟨.byt i, H', I, ⟨t, rfl⟩, q⟩
  | flt i => obtain ⟨t, rfl⟩ := r; exact ⟨.flt i, H', I, ⟨t, rfl⟩, q⟩
  | ref i => cases r; exact ⟨.ref i, H', I, rfl, q⟩
  | ty i => cases r; exact ⟨.ty i, H', I, rfl, q⟩
/-- a op b, both of the class at C, by its own method -/
theorem de_binOwn {op : Operator} {ns ms : List Str} {d1 d2 : List D} (g : Go X N W n) (cm : Cm X.prog X.w X.K X.mg X.base k C (PySem.dunder op.info.2) [] R) (sf : PySem.W.selfFirst X.K C = true)
    (ha : DE X N W δ μ a (.v (.p (.ins C ns d1))) μ1) (hb : DE X N W δ μ1 b (.v (.p (.ins C ms d2))) μ2) (hR : R [.p (.ins C ns d1), .p (.ins C ms d2)] μ2 r μ3) (hk : k ≤ n := by decide) : DE X N W δ μ (.BinOp a op b pos) r μ3 := by
  obtain ⟨f, fd, ps, ds, dvs, Fo, hme, hbi, hd, rd⟩ := cm.ex
  refine ⟨fun pins s σ H Q I ⟨F, A, R0, q⟩ => wpAny_BinOp (two_then ha hb I R0 fun v u s3 x y H2 F2 A2 I2 rx ry e2 p2 R2 h1 h2 => ?_)⟩
  obtain ⟨a1, dx1, fs1, rfl, g1, g2, g3⟩ := rep_ins h1
  obtain ⟨a2, dx2, fs2, rfl, g4, g5, g6⟩ := rep_ins h2
  cases rx
  cases ry
  obtain ⟨od1, J1⟩ := inst_at I2 (R2.rc.sub _ _ g1)
  obtain ⟨od2, J2⟩ := inst_at I2 (R2.rc.sub _ _ g4)
  obtain ⟨m', Fr'⟩ := I2.fr
  refine PySem.W.binop_K Fr' I2.mod.kin J1 J2.type sf hme.at_ hme.fn ?_
  exact wpAny_mono (call_fnD (us := [.ref a1, .ref a2]) (vs := [.ref a1, .ref a2]) (ss := [.p (.ins C ns d1), .p (.ins C ms d2)]) g hk Fo hbi hd rd I2 R2 (.cons h1 (.cons h2 .nil)) (.cons rfl (.cons rfl .nil)) hR (q.to e2 p2)) (fun _ _ h => back_of h) fun _ _ h => h
/-- -a, by its own method -/
theorem de_negOwn {ns : List Str} {d1 : List D} (g : Go X N W n) (cm : Cm X.prog X.w X.K X.mg X.base k C "__neg__" [] R) (ha : DE X N W δ μ a (.v (.p (.ins C ns d1))) μ1) (hR : R [.p (.ins C ns d1)] μ1 r μ2) (hk : k ≤ n := by decide) : DE X N W δ μ (.UnaryOp .USub a pos) r μ2 := by
  obtain ⟨f, fd, ps, ds, dvs, Fo, hme, hbi, hd, rd⟩ := cm.ex
  refine ⟨fun pins s σ H Q I ⟨F, A, R0, q⟩ => UnaryOp_ (thn (ha.run pins s σ H (fun v H' => ∃ F' A', Same F F' ∧ A <+: A' ∧ Rl N F' A' H' σ δ μ1 ∧ RepS N.K F' A' v (.p (.ins C ns d1))) I ⟨F, A, R0, fun v F' A' H' h1 h2 h3 h4 => ⟨F', A', h1, h2, h3, h4⟩⟩) fun u s2 ⟨x, H2, I2, rx, F2, A2, e2, p2, R2, h1⟩ => ?_)⟩
  obtain ⟨a1, dx1, fs1, rfl, g1, g2, g3⟩ := rep_ins h1
  cases rx
  obtain ⟨od1, J1⟩ := inst_at I2 (R2.rc.sub _ _ g1)
  obtain ⟨m', Fr'⟩ := I2.fr
  refine PySem.W.ksp_neg Fr' I2.mod.kin J1 hme.at_ hme.fn ?_
  exact call_fnD (us := [.ref a1]) (vs := [.ref a1]) (ss := [.p (.ins C ns d1)]) g hk Fo hbi hd rd I2 R2 (.cons h1 .nil) (.cons rfl .nil) hR (q.to e2 p2)
theorem sqT_cls {pins : List (Addr × Obj)} {σ : L2.St} {H : Hp} {sh : Shared} {a : Addr} {vs : List V} (I : Inv X pins σ H sh) (h : SqT X.K H a vs) : ∃ ob, sh.heap.get? a = some ob ∧ ob.cls = .type "tuple" := by
  obtain ⟨its, _, ⟨o, h1, h2, _⟩, _⟩ := I.tuple h
  exact ⟨o, h1, h2⟩
theorem type_of {pins : List (Addr × Obj)} {σ : L2.St} {H F : Hp} {sh : Shared} {v : V} {u t : Value} (I : Inv X pins σ H sh) (sm : Same F H) (ty : TyD X.K d t) (rp : Rep X.K F v d) (ru : RelV v u) {M : Model} : PySem.W.Looks M sh.heap (typeOf u) t := by
  cases ty with
  | non => cases rp; cases ru; exact .of_pure rfl
  | bl b => cases rp; cases ru; exact .of_pure rfl
  | int i => cases rp; obtain ⟨t, rfl⟩ := ru; exact .of_pure rfl
  | str i => cases rp; obtain ⟨t, rfl⟩ := ru; exact .of_pure rfl
  | tup ds =>
    obtain ⟨a, vs, rfl, h1, _⟩ := rep_tup rp
    cases ru
    obtain ⟨ob, h2, h3⟩ := sqT_cls I (same_sqT sm h1)
    exact fun A Q E s k q => wpAny_typeOf_ref (k _ _ h2) (by rw [h3]; exact q)
  | lst ds =>
    obtain ⟨a, vs, rfl, h1, _⟩ := rep_lst rp
    cases ru
    obtain ⟨z, its, n, _, e⟩ := (show ObjOk X.prog X.w H sh.heap a (.lst vs) from I.hok a _ (sm _ _ h1))
    exact fun A Q E s k q => wpAny_typeOf_ref (k _ _ e) q
  | dic ks ds =>
    generalize hd : D.dic ks ds = d' at rp
    cases rp with
    | @dic a kvs ds' h1 h2 =>
      cases ru
      obtain ⟨_, _, vs, _, o, es, ep, e, q, _⟩ := (show ObjOk X.prog X.w H sh.heap a (.dK kvs) from I.hok a _ (sm _ _ h1))
      exact fun A Q E s k hq => wpAny_typeOf_ref (k _ _ e) (by rw [q.1]; exact hq)
    | _ => cases hd
  | ins C ns ds =>
    obtain ⟨a, dx, fs, rfl, h1, _⟩ := rep_ins rp
    cases ru
    obtain ⟨od, J⟩ := inst_at I (sm _ _ h1)
    exact J.type
/-! ### == and != by an own __eq__ -/
theorem de_eqOwn {ns : List Str} {d1 : List D} {d2 : D} {t : Value} {q : Bool} (g : Go X N W n) (cm : Cm X.prog X.w X.K X.mg X.base k C "__eq__" [] R) (ty : TyD X.K d2 t) (nf : PySem.W.notFirst X.K C t = true)
    (ha : DE X N W δ μ a (.v (.p (.ins C ns d1))) μ1) (hb : DE X N W δ μ1 b (.v (.p d2)) μ2) (hR : R [.p (.ins C ns d1), .p d2] μ2 (.v (.p (.bl q))) μ3) (hk : k ≤ n := by decide) : DE X N W δ μ (.Compare a [.Eq] [b] pos) (.v (.p (.bl q))) μ3 := by
  obtain ⟨f, fd, ps, ds, dvs, Fo, hme, hbi, hd, rd⟩ := cm.ex
  refine ⟨fun pins s σ H Q I ⟨F, A, R0, q⟩ => wpAny_Compare1 (two_then ha hb I R0 fun v u s3 x y H2 F2 A2 I2 rx ry e2 p2 R2 h1 h2 => ?_) (nomark _)⟩
  obtain ⟨a1, dx1, fs1, rfl, g1, g2, g3⟩ := rep_ins h1
  cases rx
  obtain ⟨od1, J1⟩ := inst_at I2 (R2.rc.sub _ _ g1)
  obtain ⟨m', Fr'⟩ := I2.fr
  refine PySem.W.cmp_ofEq (PySem.W.cmp_K (g.room.units0) Fr' I2.mod.kin J1 (type_of I2 R2.rc.sub ty (by rw [← g.hK]; exact h2) ry) nf hme.at_ hme.fn ?_)
  exact wpAny_mono (call_fnD (us := [.ref a1, u]) (vs := [.ref a1, y]) (ss := [.p (.ins C ns d1), .p d2]) g hk Fo hbi hd rd I2 R2 (.cons h1 (.cons h2 .nil)) (.cons rfl (.cons ry .nil)) hR (q.to e2 p2)) (fun _ _ h => back_of h) fun _ _ h => h
open Builtin in
theorem obj_ne {A : Around} {E : Value → Shared → Prop} {sh : Shared} {K : PySem.W.Frag} {prog : Program} {w : World} {x C f : Addr} {ox : Obj} {od : Option Obj} {u : Value} {Q : Value → Shared → Prop} (hu : A.in1.units < cLine) (X : K.In sh.heap) (I : PySem.W.InstAt sh.heap x ox C od) (hm : PySem.W.mroIn K C (.type "object") = some true) (he : PySem.W.findIn K (.ref C) "__eq__" = some (some (.ref f))) (hf : PySem.W.isFn K (.ref f) = true)
    (h : wpAny (model prog w) A.in1 (call (.ref f) [.ref x, u]) (fun v s' => ∃ b, v = .bool b ∧ Q (.bool (!b)) s') E sh) : wpAny (model prog w) A (call (.builtin "object.__ne__") [.ref x, u]) Q E sh := by
  refine wpAny_call (codeAny_call_builtin PySem.F.cmp_object.ne.plain F.cmpEntry_ne (PySem.W.check_slot (i := "object.__ne__") (owner := "object") (n := "__ne__") (by decide +kernel) (by decide +kernel) (I.type.andThen (PySem.W.looks_mroIn X hm)) (F.cmpArgs_ne _ _) ?_))
  unfold Builtin.«object.__ne__»
  refine wpAny_bind (m := slotArgs "__ne__" 1 _) (wpAny_pure ?_)
  refine wpAny_bind (m := cRoomFor _ _) (wpAny_cRoomFor hu ?_)
  refine wpAny_bind (m := callSpecialIfBound? (.ref x) (Str.ofString "__eq__") _) (PySem.W.ifBound_K X I he hf (wpAny_mono h (fun r s' hq => ?_) fun _ _ y => y))
  obtain ⟨b, rfl, hq⟩ := hq
  exact wpAny_bind (m := truthy (.bool b)) (wpAny_truthy_bool (wpAny_pure hq))
theorem ifBound_b {A : Around} {E : Value → Shared → Prop} {sh : Shared} {K : PySem.W.Frag} {M : Model} {x C : Addr} {ox : Obj} {od : Option Obj} {id : String} {name : Str} {args : List Value} {Q : Option Value → Shared → Prop} (X : K.In sh.heap) (I : PySem.W.InstAt sh.heap x ox C od) (hs : PySem.W.findIn K (.ref C) name = some (some (.builtin id)))
    (hb : ∀ self, bindSpecial (.builtin id) self = pure (.builtin id, [self])) (h : wpAny M A (call (.builtin id) (.ref x :: args)) (fun v => Q (some v)) E sh) : wpAny M A (callSpecialIfBound? (.ref x) name args) Q E sh := by
  simp only [callSpecialIfBound?, bindSpecialIfBound?]
  refine wpAny_holding (wpAny_bind (wpAny_bind (wpAny_bind (I.type.here ((PySem.W.looks_findIn X hs).here ?_)))))
  refine wpAny_bind (wpAny_askSetting (wpAny_ite ?_))
  have fin : wpAny M A (call (.builtin id) ([.ref x] ++ args) >>= fun v => pure (some v)) Q E sh := wpAny_bind (wpAny_mono h (fun v s' h' => wpAny_pure h') fun _ _ h' => h')
  split
  · exact wpAny_bind ((PySem.W.Looks.of_pure (hb _)).here (wpAny_pure (by exact fin)))
  · exact wpAny_tryCatch (wpAny_bind ((PySem.W.Looks.of_pure (hb _)).here (wpAny_pure (by exact fin))))
theorem rich_ne {A : Around} {E : Value → Shared → Prop} {sh : Shared} {K : PySem.W.Frag} {prog : Program} {w : World} {x C f : Addr} {ox : Obj} {od : Option Obj} {u tb : Value} {Q : Value → Shared → Prop} (hu0 : A.units < cLine) (hu : A.in1.in1.units < cLine) (X : K.In sh.heap) (I : PySem.W.InstAt sh.heap x ox C od) (hb : PySem.W.Looks (model prog w) sh.heap (typeOf u) tb) (hn : PySem.W.notFirst K C tb = true)
    (hne : PySem.W.findIn K (.ref C) "__ne__" = some (some (.builtin "object.__ne__"))) (hm : PySem.W.mroIn K C (.type "object") = some true) (he : PySem.W.findIn K (.ref C) "__eq__" = some (some (.ref f))) (hf : PySem.W.isFn K (.ref f) = true)
    (h : wpAny (model prog w) A.in1 (call (.ref f) [.ref x, u]) (fun v s' => ∃ b, v = .bool b ∧ Q (.bool (!b)) s') E sh) : wpAny (model prog w) A (compareOp .NotEq (.ref x) u) Q E sh := by
  refine PySem.W.cmp_ofNotEq ?_
  have one : wpAny (model prog w) A (tryCompare (.ref x) "__ne__" u) (fun r s' => ∃ v, r = some v ∧ Q v s') E sh := by
    unfold tryCompare
    refine wpAny_bind (ifBound_b X I hne PySem.F.cmp_object.ne.bind (obj_ne (by exact Nat.lt_of_succ_lt hu) X I hm he hf (wpAny_mono h (fun v s' hv => ?_) fun _ _ e => e)))
    obtain ⟨b, rfl, hq⟩ := hv
    exact ⟨b, rfl, wpAny_pure ⟨_, rfl, hq⟩⟩
  unfold richCompare
  simp only [oneThing_ref]
  refine wpAny_holding (wpAny_bind (wpAny_cRoomFor hu0 ?_))
  refine wpAny_bind (I.type.here (wpAny_bind (hb.here ?_)))
  split
  · rename_i q
    have e : PySem.W.subIn K tb (.ref C) = some false := by
      rcases Bool.or_eq_true_iff.mp hn with e | e
      · rw [beq_iff_eq.mp e] at q; simp at q
      · exact beq_iff_eq.mp e
    refine wpAny_bind ((PySem.W.looks_subIn X e).here ?_)
    simp only [Bool.false_eq_true, if_false]
    refine wpAny_bind (wpAny_mono one (fun r s' z => ?_) fun _ _ e => e)
    obtain ⟨v, rfl, hq⟩ := z
    exact wpAny_pure hq
  · refine wpAny_bind (wpAny_pure ?_)
    simp only [Bool.false_eq_true, if_false]
    refine wpAny_bind (wpAny_mono one (fun r s' z => ?_) fun _ _ e => e)
    obtain ⟨v, rfl, hq⟩ := z
    exact wpAny_pure hq
/-- a def called where one level of the machine's own stands between -/
theorem call_in1 {pins : List (Addr × Obj)} {σ : L2.St} {H : Hp} {sh : Shared} {F : Hp} {A : List Addr} {Q : VK} {us : List Value} {vs dvs : List V} {ds : List Value} {f : Addr} {fd : FuncData} {ps : List Str} (g : Go X N W n) (hk : k + 1 ≤ n)
    (Fo : FnOk X.prog X.w X.K X.mg X.base (L2.CX X.prog X.w) k f fd ps (spD X.K R)) (hb : Binds X.K fd ps ds) (hd : Vals dvs ds) (rd : ∀ F, Reps X.K F dvs dd) (I : Inv X pins σ H sh) (R0 : Rl N F A H σ δ μ) (rv : RepSs N.K F A vs ss) (ru : Vals vs us)
    (hR : R (ss ++ dd.map S.p) μ r μ') (q : EndE N W σ δ F A μ' Q r) : wpAny (model X.prog X.w) X.A.in1 (call (.ref f) us) (EP X pins σ Q) X.xe sh := by
  have hK := g.hK
  have h : spD X.K R (vs ++ dvs) H Q (WE W σ) := by
    rw [← hK] at rd ⊢
    exact spD_in hR R0 (rv.append (of_reps (rd F))) q.wish
  have r2 : Vals (vs ++ dvs) (us ++ ds) := ru.append hd
  have hl : (us ++ ds).length = ps.length := by rw [← r2.length]; exact Fo.len _ _ _ _ h
  refine wpAny_call (codeAny_mono (Fo.run X.A.in1 X.stack sh H ⟨us, []⟩ (us ++ ds) (vs ++ dvs) Q (WE W σ) (g.room.mono hk).in1 I.env0.in1 (hb sh us I.kIn hl) r2 h) fun r s' hq => ?_)
  cases r with
  | error e => exact passAt g.tk σ pins H sh e s' I hq
  | ok fl =>
    cases fl with
    | ret u => exact I.after hq
    | next => exact False.elim hq
    | brk => exact False.elim hq
    | cont => exact False.elim hq
structure NeOk (K : PySem.W.Frag) (C : Addr) : Prop where
  ne : PySem.W.findIn K (.ref C) "__ne__" = some (some (.builtin "object.__ne__"))
  mro : PySem.W.mroIn K C (.type "object") = some true
theorem de_neOwn {ns : List Str} {d1 : List D} {d2 : D} {t : Value} {q : Bool} (g : Go X N W n) (cm : Cm X.prog X.w X.K X.mg X.base k C "__eq__" [] R) (nk : NeOk X.K C) (ty : TyD X.K d2 t) (nf : PySem.W.notFirst X.K C t = true)
    (ha : DE X N W δ μ a (.v (.p (.ins C ns d1))) μ1) (hb : DE X N W δ μ1 b (.v (.p d2)) μ2) (hR : R [.p (.ins C ns d1), .p d2] μ2 (.v (.p (.bl q))) μ3) (hk : k + 1 ≤ n := by decide) : DE X N W δ μ (.Compare a [.NotEq] [b] pos) (.v (.p (.bl (!q)))) μ3 := by
  obtain ⟨f, fd, ps, ds, dvs, Fo, hme, hbi, hd, rd⟩ := cm.ex
  refine ⟨fun pins s σ H Q I ⟨F, A, R0, qq⟩ => wpAny_Compare1 (two_then ha hb I R0 fun v u s3 x y H2 F2 A2 I2 rx ry e2 p2 R2 h1 h2 => ?_) (nomark _)⟩
  obtain ⟨a1, dx1, fs1, rfl, g1, g2, g3⟩ := rep_ins h1
  cases rx
  obtain ⟨od1, J1⟩ := inst_at I2 (R2.rc.sub _ _ g1)
  have hun := g.room.units
  refine rich_ne g.room.units0 (by show X.A.units + 1 + 1 < _; omega) I2.kIn J1 (type_of I2 R2.rc.sub ty (by rw [← g.hK]; exact h2) ry) nf nk.ne nk.mro hme.at_ hme.fn ?_
  refine wpAny_mono (call_in1 (us := [.ref a1, u]) (vs := [.ref a1, y]) (ss := [.p (.ins C ns d1), .p d2]) (Q := fun v H' => v = .bl q ∧ Q (.bl (!q)) H') g hk Fo hbi hd rd I2 R2 (.cons h1 (.cons h2 .nil)) (.cons rfl (.cons ry .nil)) hR (fun v F' A' H' e' p' R' rv => ?_)) (fun v s' h => ?_) fun _ _ h => h
  · have rv' : Rep N.K F' v (.bl q) := rv
    cases rv'
    exact ⟨rfl, qq (.bl (!q)) F' A' H' (e2.trans e') (p2.trans p') R' (.bl _)⟩
  · obtain ⟨w, H', I', rw', rfl, hq⟩ := h
    cases rw'
    exact ⟨q, rfl, .bl (!q), H', I', rfl, hq⟩

end
end Dl

set_option Elab.async false
set_option linter.all false
set_option maxRecDepth 100000
set_option maxHeartbeats 4000000
set_option autoImplicit false
namespace Dl
open PySem PySem.Spec PyProof.Rows L2
section
variable {K : PySem.W.Frag} {F : Hp} {A : List Addr} {v : V}
theorem rs_int {i : Int} (h : RepS K F A v (.p (.int i))) : v = .int i := by cases (show Rep K F v (.int i) from h); rfl
theorem rs_str {i : Str} (h : RepS K F A v (.p (.str i))) : v = .str i := by cases (show Rep K F v (.str i) from h); rfl
theorem rs_bl {i : Bool} (h : RepS K F A v (.p (.bl i))) : v = .bl i := by cases (show Rep K F v (.bl i) from h); rfl
theorem rs_non (h : RepS K F A v (.p .non)) : v = .non := by cases (show Rep K F v .non from h); rfl
theorem rs_ty {n : String} (h : RepS K F A v (.p (.ty n))) : v = .ty n := by cases (show Rep K F v (.ty n) from h); rfl
theorem rs_adr {n : Addr} (h : RepS K F A v (.p (.adr n))) : v = .ref n := by cases (show Rep K F v (.adr n) from h); rfl
theorem reps_ints : ∀ {vs : List V} {ns : List Int}, Reps K F vs (ns.map D.int) → vs = ns.map V.int
  | _, [], .nil => rfl
  | _, n :: ns, .cons a b => by cases a; rw [reps_ints b]; rfl
theorem reps_bls : ∀ {vs : List V} {ns : List Bool}, Reps K F vs (ns.map D.bl) → vs = ns.map V.bl
  | _, [], .nil => rfl
  | _, n :: ns, .cons a b => by cases a; rw [reps_bls b]; rfl
theorem reps_strs : ∀ {vs : List V} {ns : List Str}, Reps K F vs (ns.map D.str) → vs = ns.map V.str
  | _, [], .nil => rfl
  | _, n :: ns, .cons a b => by cases a; rw [reps_strs b]; rfl
theorem of_ints : ∀ {ns : List Int}, Reps K F (ns.map V.int) (ns.map D.int)
  | [] => .nil
  | n :: ns => .cons (.int n) of_ints
theorem of_strs : ∀ {ns : List Str}, Reps K F (ns.map V.str) (ns.map D.str)
  | [] => .nil
  | n :: ns => .cons (.str n) of_strs
end
section
variable {X : Cx} {N : En} {W : WX} {n : Nat} {δ δ' δ1 δ2 : List (Option S)} {μ μ' μ1 μ2 μ3 : List M} {e a b c o : Expr} {es : List Expr} {ss : List S} {pos p apos : Pos} {d : D} {s s1 s2 : S} {r : Rx}
/-! ### ints -/
theorem o_int {f : Value → Value → Sem Value} {g : Int → Int → Int} (h : OpR X f (rI0 fun i j => .int (g i j))) {i j : Int} : OpOk X N W f μ (.p (.int i)) (.p (.int j)) (.v (.p (.int (g i j)))) μ :=
  ⟨_, h, fun σ δ F A H x y Q R rx ry k => ⟨i, j, rs_int rx, rs_int ry, k.here R (.int _)⟩⟩
theorem o_intC {f : Value → Value → Sem Value} {C : Int → Int → Prop} {g : Int → Int → Int} (h : OpR X f (rI C fun i j => .int (g i j))) {i j : Int} (hc : C i j) : OpOk X N W f μ (.p (.int i)) (.p (.int j)) (.v (.p (.int (g i j)))) μ :=
  ⟨_, h, fun σ δ F A H x y Q R rx ry k => ⟨i, j, rs_int rx, rs_int ry, hc, k.here R (.int _)⟩⟩
theorem o_cmp {f : Value → Value → Sem Value} {g : Int → Int → Bool} (h : OpR X f (rI0 fun i j => .bl (g i j))) {i j : Int} : OpOk X N W f μ (.p (.int i)) (.p (.int j)) (.v (.p (.bl (g i j)))) μ :=
  ⟨_, h, fun σ δ F A H x y Q R rx ry k => ⟨i, j, rs_int rx, rs_int ry, k.here R (.bl _)⟩⟩
theorem o_add {i j : Int} : OpOk X N W (binaryOp .Add) μ (.p (.int i)) (.p (.int j)) (.v (.p (.int (i + j)))) μ := o_int op_add
theorem o_sub {i j : Int} : OpOk X N W (binaryOp .Sub) μ (.p (.int i)) (.p (.int j)) (.v (.p (.int (i - j)))) μ := o_int op_sub
theorem o_mul {i j : Int} (hc : CMul i j) : OpOk X N W (binaryOp .Mult) μ (.p (.int i)) (.p (.int j)) (.v (.p (.int (i * j)))) μ := o_intC op_mul hc
theorem o_mulW {i j : Int} (hc : CMulW i j) : OpOk X N W (binaryOp .Mult) μ (.p (.int i)) (.p (.int j)) (.v (.p (.int (i * j)))) μ := o_intC op_mulW hc
theorem o_div {i j : Int} (hc : CDiv i j) : OpOk X N W (binaryOp .FloorDiv) μ (.p (.int i)) (.p (.int j)) (.v (.p (.int (i / j)))) μ := o_intC op_fdiv hc
theorem o_divW {i j : Int} (hc : CDivW i j) : OpOk X N W (binaryOp .FloorDiv) μ (.p (.int i)) (.p (.int j)) (.v (.p (.int (i / j)))) μ := o_intC op_fdivW hc
theorem o_divN {i j : Int} (hc : CDivN i j) : OpOk X N W (binaryOp .FloorDiv) μ (.p (.int i)) (.p (.int j)) (.v (.p (.int (i.fdiv j)))) μ := o_intC op_fdivN hc
theorem o_mod {i j : Int} (hc : 0 < j) : OpOk X N W (binaryOp .Mod) μ (.p (.int i)) (.p (.int j)) (.v (.p (.int (i % j)))) μ := o_intC op_mod hc
theorem o_modN {i j : Int} (hc : j ≠ 0) : OpOk X N W (binaryOp .Mod) μ (.p (.int i)) (.p (.int j)) (.v (.p (.int (i.fmod j)))) μ := o_intC op_modN hc
theorem op_powW : OpR X (binaryOp .Pow) (rI (fun i j => 0 ≤ j ∧ (Builtin.Int.intBits i : Int) * j ≤ 2 ^ 27) fun i j => .int (i ^ j.toNat)) := opI fun _ _ _ _ _ _ _ hc q => pow_int hc.1 hc.2 q
theorem o_pow {i j : Int} (hc : 0 ≤ j ∧ (Builtin.Int.intBits i : Int) * j ≤ 2 ^ 27) : OpOk X N W (binaryOp .Pow) μ (.p (.int i)) (.p (.int j)) (.v (.p (.int (i ^ j.toNat)))) μ := o_intC op_powW hc
theorem o_lt {i j : Int} : OpOk X N W (compareOp .Lt) μ (.p (.int i)) (.p (.int j)) (.v (.p (.bl (decide (i < j))))) μ := o_cmp op_lt
theorem o_le {i j : Int} : OpOk X N W (compareOp .LtE) μ (.p (.int i)) (.p (.int j)) (.v (.p (.bl (decide (i ≤ j))))) μ := o_cmp op_le
theorem o_gt {i j : Int} : OpOk X N W (compareOp .Gt) μ (.p (.int i)) (.p (.int j)) (.v (.p (.bl (decide (j < i))))) μ := o_cmp op_gt
theorem o_ge {i j : Int} : OpOk X N W (compareOp .GtE) μ (.p (.int i)) (.p (.int j)) (.v (.p (.bl (decide (j ≤ i))))) μ := o_cmp op_ge
theorem o_eqI {i j : Int} : OpOk X N W (compareOp .Eq) μ (.p (.int i)) (.p (.int j)) (.v (.p (.bl (decide (i = j))))) μ :=
  ⟨_, op_eq, fun σ δ F A H x y Q R rx ry k => by
    cases rs_int rx; cases rs_int ry
    exact ⟨rfl, k.here R (by rw [show decide (V.int i = V.int j) = decide (i = j) from by rw [dec_int]; exact Bool.beq_eq_decide_eq ..]; exact .bl _)⟩⟩
theorem o_neI {i j : Int} : OpOk X N W (compareOp .NotEq) μ (.p (.int i)) (.p (.int j)) (.v (.p (.bl (!decide (i = j))))) μ :=
  ⟨_, op_ne, fun σ δ F A H x y Q R rx ry k => by
    cases rs_int rx; cases rs_int ry
    exact ⟨rfl, k.here R (by rw [show decide (V.int i = V.int j) = decide (i = j) from by rw [dec_int]; exact Bool.beq_eq_decide_eq ..]; exact .bl _)⟩⟩
theorem o_eqS {i j : Str} : OpOk X N W (compareOp .Eq) μ (.p (.str i)) (.p (.str j)) (.v (.p (.bl (decide (i = j))))) μ :=
  ⟨_, op_eq, fun σ δ F A H x y Q R rx ry k => by
    cases rs_str rx; cases rs_str ry
    exact ⟨rfl, k.here R (by rw [show decide (V.str i = V.str j) = decide (i = j) from by rw [dec_str]; exact Bool.beq_eq_decide_eq ..]; exact .bl _)⟩⟩
theorem o_neS {i j : Str} : OpOk X N W (compareOp .NotEq) μ (.p (.str i)) (.p (.str j)) (.v (.p (.bl (!decide (i = j))))) μ :=
  ⟨_, op_ne, fun σ δ F A H x y Q R rx ry k => by
    cases rs_str rx; cases rs_str ry
    exact ⟨rfl, k.here R (by rw [show decide (V.str i = V.str j) = decide (i = j) from by rw [dec_str]; exact Bool.beq_eq_decide_eq ..]; exact .bl _)⟩⟩
theorem o_eqB {i j : Bool} : OpOk X N W (compareOp .Eq) μ (.p (.bl i)) (.p (.bl j)) (.v (.p (.bl (decide (i = j))))) μ :=
  ⟨_, op_eq, fun σ δ F A H x y Q R rx ry k => by
    cases rs_bl rx; cases rs_bl ry
    exact ⟨rfl, k.here R (by rw [show decide (V.bl i = V.bl j) = decide (i = j) from by rw [dec_bl]; exact Bool.beq_eq_decide_eq ..]; exact .bl _)⟩⟩
theorem o_neB {i j : Bool} : OpOk X N W (compareOp .NotEq) μ (.p (.bl i)) (.p (.bl j)) (.v (.p (.bl (!decide (i = j))))) μ :=
  ⟨_, op_ne, fun σ δ F A H x y Q R rx ry k => by
    cases rs_bl rx; cases rs_bl ry
    exact ⟨rfl, k.here R (by rw [show decide (V.bl i = V.bl j) = decide (i = j) from by rw [dec_bl]; exact Bool.beq_eq_decide_eq ..]; exact .bl _)⟩⟩
theorem u_neg {i : Int} : UnOk X N W (unaryOp .USub) μ (.p (.int i)) (.v (.p (.int (-i)))) μ :=
  ⟨_, un_neg, fun σ δ F A H x Q R rx k => ⟨i, rs_int rx, k.here R (.int _)⟩⟩
/-! ### texts -/
theorem o_addS {i j : Str} (hl : i.length + j.length ≤ sizeLine) : OpOk X N W (binaryOp .Add) μ (.p (.str i)) (.p (.str j)) (.v (.p (.str (i ++ j)))) μ :=
  ⟨_, op_add_str, fun σ δ F A H x y Q R rx ry k => ⟨i, j, rs_str rx, rs_str ry, hl, k.here R (.str _)⟩⟩
theorem o_inS {c : Nat} {z : Str} : OpOk X N W (compareOp .In) μ (.p (.str ⟨#[c]⟩)) (.p (.str z)) (.v (.p (.bl (decide (c ∈ z.cps.toList))))) μ :=
  ⟨_, op_in_sign, fun σ δ F A H x y Q R rx ry k => ⟨c, z, rs_str rx, rs_str ry, k.here R (.bl _)⟩⟩
theorem op_mulS1 : OpR X (binaryOp .Mult) (fun x y H Q => ∃ (z : Str) (k : Bool), x = .str z ∧ y = .int (if k then 1 else 0) ∧ Q (.str (if k then z else Str.empty)) H) := by
  intro pins s σ H x y v u Q I rx ry h
  obtain ⟨z, k, rfl, rfl, q⟩ := h
  obtain ⟨t, rfl⟩ := rx
  obtain ⟨t', rfl⟩ := ry
  cases k with
  | false => exact PySem.P.mul_str_none (by decide) (by decide) ⟨.str _, H, I.tok _, ⟨_, rfl⟩, q⟩
  | true =>
    refine PySem.P.mul_str (by decide) (fun _ h => by simp at h) (fun _ h => by simp at h) ?_
    show (if (1 : Int) < 1 then _ else if ((1 : Int) == 1 || z.length == 0) = true then _ else _ : Made).post _ _
    rw [if_neg (by decide), if_pos (by simp)]
    exact ⟨.str z, H, I, ⟨t, rfl⟩, q⟩
theorem o_mulS {z : Str} {k : Bool} : OpOk X N W (binaryOp .Mult) μ (.p (.str z)) (.p (.int (if k then 1 else 0))) (.v (.p (.str (if k then z else Str.empty)))) μ :=
  ⟨_, op_mulS1, fun σ δ F A H x y Q R rx ry q => ⟨z, k, rs_str rx, rs_int ry, q.here R (.str _)⟩⟩
/-! ### builtins -/
theorem one_of {K : PySem.W.Frag} {F : Hp} {A : List Addr} {vs : List V} (h : RepSs K F A vs [s]) : ∃ v, vs = [v] ∧ RepS K F A v s := by
  cases h with
  | cons a b => cases b; exact ⟨_, rfl, a⟩
theorem two_of {K : PySem.W.Frag} {F : Hp} {A : List Addr} {vs : List V} (h : RepSs K F A vs [s1, s2]) : ∃ v w, vs = [v, w] ∧ RepS K F A v s1 ∧ RepS K F A w s2 := by
  cases h with
  | cons a b => cases b with
    | cons b c => cases c; exact ⟨_, _, rfl, a, b⟩
theorem c_int {i : Int} : CallOk X N W (.type "int") μ [.p (.int i)] (.v (.p (.int i))) μ :=
  ⟨_, call_int1, fun σ δ F A H vs Q R rv k => by
    obtain ⟨v, rfl, h⟩ := one_of rv
    exact .inl ⟨i, by rw [rs_int h], k.here R (.int _)⟩⟩
theorem c_intB {i : Bool} : CallOk X N W (.type "int") μ [.p (.bl i)] (.v (.p (.int (if i then 1 else 0)))) μ :=
  ⟨_, call_int1, fun σ δ F A H vs Q R rv k => by
    obtain ⟨v, rfl, h⟩ := one_of rv
    exact .inr ⟨i, by rw [rs_bl h], k.here R (.int _)⟩⟩
theorem c_abs {i : Int} : CallOk X N W (.builtin "abs") μ [.p (.int i)] (.v (.p (.int (if i < 0 then -i else i)))) μ :=
  ⟨_, call_abs, fun σ δ F A H vs Q R rv k => by
    obtain ⟨v, rfl, h⟩ := one_of rv
    exact ⟨i, by rw [rs_int h], k.here R (.int _)⟩⟩
theorem c_max2 (g : Go X N W n) {i j : Int} : CallOk X N W (.builtin "max") μ [.p (.int i), .p (.int j)] (.v (.p (.int (if j > i then j else i)))) μ :=
  ⟨_, call_max2 g.calm, fun σ δ F A H vs Q R rv k => by
    obtain ⟨v, w, rfl, h, h'⟩ := two_of rv
    exact ⟨i, j, by rw [rs_int h, rs_int h'], k.here R (.int _)⟩⟩
theorem c_min2 (g : Go X N W n) {i j : Int} : CallOk X N W (.builtin "min") μ [.p (.int i), .p (.int j)] (.v (.p (.int (if j < i then j else i)))) μ :=
  ⟨_, call_min2 g.calm, fun σ δ F A H vs Q R rv k => by
    obtain ⟨v, w, rfl, h, h'⟩ := two_of rv
    exact ⟨i, j, by rw [rs_int h, rs_int h'], k.here R (.int _)⟩⟩
theorem c_lenS {z : Str} (hl : z.length ≤ sizeLine) : CallOk X N W (.builtin "len") μ [.p (.str z)] (.v (.p (.int z.length))) μ :=
  ⟨_, call_len, fun σ δ F A H vs Q R rv k => by
    obtain ⟨v, rfl, h⟩ := one_of rv
    exact ⟨.str z, z.length, by rw [rs_str h], ⟨hl, rfl⟩, k.here R (.int _)⟩⟩
theorem c_lenT (g : Go X N W n) {ds : List D} : CallOk X N W (.builtin "len") μ [.p (.tup ds)] (.v (.p (.int ds.length))) μ :=
  ⟨_, call_len, fun σ δ F A H vs Q R rv k => by
    obtain ⟨v, rfl, h⟩ := one_of rv
    obtain ⟨a, ws, rfl, h1, h2⟩ := rep_tup h
    exact ⟨.ref a, ds.length, rfl, .inr ⟨ws, by rw [← g.hK]; exact same_sqT R.rc.sub h1, h2.length.symm⟩, k.here R (.int _)⟩⟩
theorem c_lenL (g : Go X N W n) {ds : List D} : CallOk X N W (.builtin "len") μ [.p (.lst ds)] (.v (.p (.int ds.length))) μ :=
  ⟨_, call_len, fun σ δ F A H vs Q R rv k => by
    obtain ⟨v, rfl, h⟩ := one_of rv
    obtain ⟨a, ws, rfl, h1, h2⟩ := rep_lst h
    exact ⟨.ref a, ds.length, rfl, .inl ⟨ws, SqL.of (R.rc.sub _ _ h1), h2.length.symm⟩, k.here R (.int _)⟩⟩
theorem c_lenM {j : Nat} {ds : List D} (hj : μ[j]? = some (.lst ds)) : CallOk X N W (.builtin "len") μ [.l j] (.v (.p (.int ds.length))) μ :=
  ⟨_, call_len, fun σ δ F A H vs Q R rv k => by
    obtain ⟨v, rfl, h⟩ := one_of rv
    obtain ⟨a, rfl, ha⟩ := h
    obtain ⟨ws, h1, h2⟩ := R.rc.mus j a _ ha hj
    exact ⟨.ref a, ds.length, rfl, .inl ⟨ws, SqL.of h1, h2.length.symm⟩, k.here R (.int _)⟩⟩
theorem c_sum (g : Go X N W n) {ns : List Int} : CallOk X N W (.builtin "sum") μ [.p (.lst (ns.map D.int))] (.v (.p (.int ns.sum))) μ :=
  ⟨_, cr_sum g.calm, fun σ δ F A H vs Q R rv k => by
    obtain ⟨v, rfl, h⟩ := one_of rv
    obtain ⟨a, ws, rfl, h1, h2⟩ := rep_lst h
    rw [reps_ints h2] at h1
    exact ⟨a, ns, rfl, SqL.of (R.rc.sub _ _ h1), k.here R (.int _)⟩⟩
theorem c_all (g : Go X N W n) {ns : List Bool} : CallOk X N W (.builtin "all") μ [.p (.lst (ns.map D.bl))] (.v (.p (.bl (ns.all id)))) μ :=
  ⟨_, cr_all g.calm, fun σ δ F A H vs Q R rv k => by
    obtain ⟨v, rfl, h⟩ := one_of rv
    obtain ⟨a, ws, rfl, h1, h2⟩ := rep_lst h
    rw [reps_bls h2] at h1
    exact ⟨a, ns, rfl, SqL.of (R.rc.sub _ _ h1), k.here R (.bl _)⟩⟩
theorem c_any (g : Go X N W n) {ns : List Bool} : CallOk X N W (.builtin "any") μ [.p (.lst (ns.map D.bl))] (.v (.p (.bl (ns.any id)))) μ :=
  ⟨_, cr_any g.calm, fun σ δ F A H vs Q R rv k => by
    obtain ⟨v, rfl, h⟩ := one_of rv
    obtain ⟨a, ws, rfl, h1, h2⟩ := rep_lst h
    rw [reps_bls h2] at h1
    exact ⟨a, ns, rfl, SqL.of (R.rc.sub _ _ h1), k.here R (.bl _)⟩⟩
/-! ### methods of texts -/
theorem m_removeprefix {z y : Str} (hl : z.length ≤ sizeLine) : MtOk X N W "str" "str.removeprefix" μ μ (.p (.str z)) [.p (.str y)] (.v (.p (.str (Txt.removeprefix z y)))) μ :=
  ⟨_, mt_removeprefix, fun σ δ F A H x R rx => by rw [rs_str rx]; rfl, fun σ δ F A H x vs Q R rx rv k => by
    obtain ⟨v, rfl, h⟩ := one_of rv
    exact ⟨z, y, rs_str rx, by rw [rs_str h], hl, k.here R (.str _)⟩⟩
theorem m_startswith {z y : Str} : MtOk X N W "str" "str.startswith" μ μ (.p (.str z)) [.p (.str y)] (.v (.p (.bl (Txt.startswith z y)))) μ :=
  ⟨_, mt_startswith, fun σ δ F A H x R rx => by rw [rs_str rx]; rfl, fun σ δ F A H x vs Q R rx rv k => by
    obtain ⟨v, rfl, h⟩ := one_of rv
    exact ⟨z, y, rs_str rx, by rw [rs_str h], k.here R (.bl _)⟩⟩
theorem m_join {z : Str} {ys : List Str} (hl : (ys.map (·.length)).sum + ys.length * z.length ≤ 16777216) : MtOk X N W "str" "str.join" μ μ1 (.p (.str z)) [.p (.lst (ys.map D.str))] (.v (.p (.str (Txt.join z ys)))) μ1 :=
  ⟨_, mt_join, fun σ δ F A H x R rx => by rw [rs_str rx]; rfl, fun σ δ F A H x vs Q R rx rv k => by
    obtain ⟨v, rfl, h⟩ := one_of rv
    obtain ⟨a, ws, rfl, h1, h2⟩ := rep_lst h
    rw [reps_strs h2] at h1
    exact ⟨z, a, ys, rs_str rx, rfl, .inl (SqL.of (R.rc.sub _ _ h1)), hl, k.here R (.str _)⟩⟩
/-! ### items -/
theorem atI_rep {K : PySem.W.Frag} {F : Hp} {vs : List V} {ds : List D} {i : Int} (r : Reps K F vs ds) (h : atI ds i = some d) : ∃ v, atI vs i = some v ∧ Rep K F v d := by
  unfold atI at h ⊢
  rw [r.length]
  obtain ⟨j, h1, h2⟩ := Option.bind_eq_some_iff.mp h
  obtain ⟨v, h3, h4⟩ := r.get h2
  exact ⟨v, by rw [h1]; exact h3, h4⟩
theorem i_lst (g : Go X N W n) {ds : List D} {i : Int} (h : atI ds i = some d) : IxOk X N W μ (.p (.lst ds)) (.p (.int i)) (.v (.p d)) μ :=
  ⟨_, ix_list, fun σ δ F A H x y Q R rx ry k => by
    obtain ⟨a, ws, rfl, h1, h2⟩ := rep_lst rx
    obtain ⟨v, h3, h4⟩ := atI_rep h2 h
    exact ⟨a, ws, i, v, rfl, rs_int ry, SqL.of (R.rc.sub _ _ h1), h3, k.here R h4⟩⟩
theorem i_tup (g : Go X N W n) {ds : List D} {i : Int} (h : atI ds i = some d) : IxOk X N W μ (.p (.tup ds)) (.p (.int i)) (.v (.p d)) μ :=
  ⟨_, ix_tup, fun σ δ F A H x y Q R rx ry k => by
    obtain ⟨a, ws, rfl, h1, h2⟩ := rep_tup rx
    obtain ⟨v, h3, h4⟩ := atI_rep h2 h
    exact ⟨a, ws, i, v, rfl, rs_int ry, by rw [← g.hK]; exact same_sqT R.rc.sub h1, h3, k.here R h4⟩⟩
theorem i_lstM {j : Nat} {ds : List D} {i : Int} (hj : μ[j]? = some (.lst ds)) (h : atI ds i = some d) : IxOk X N W μ (.l j) (.p (.int i)) (.v (.p d)) μ :=
  ⟨_, ix_list, fun σ δ F A H x y Q R rx ry k => by
    obtain ⟨a, rfl, ha⟩ := rx
    obtain ⟨ws, h1, h2⟩ := R.rc.mus j a _ ha hj
    obtain ⟨v, h3, h4⟩ := atI_rep h2 h
    exact ⟨a, ws, i, v, rfl, rs_int ry, SqL.of h1, h3, k.here R h4⟩⟩
theorem i_str {z : Str} {i : Int} {c : Nat} (hl : z.length ≤ sizeLine) (h : atI z.cps.toList i = some c) : IxOk X N W μ (.p (.str z)) (.p (.int i)) (.v (.p (.str ⟨#[c]⟩))) μ :=
  ⟨_, ix_str, fun σ δ F A H x y Q R rx ry k => ⟨z, i, c, rs_str rx, rs_int ry, hl, h, k.here R (.str _)⟩⟩
/-! ### lists that change -/
theorem ds_setM {j : Nat} {ds : List D} {i : Int} {k : Nat} (hv : DE X N W δ μ e (.v (.p d)) μ1) (ho : DE X N W δ μ1 o (.v (.l j)) μ1) (hb : DE X N W δ μ1 b (.v (.p (.int i))) μ1) (hj : μ1[j]? = some (.lst ds)) (hk : ixN ds.length i = some k)
    (hs : swapsWithSole [.Subscript o b p] e pos.line X.env = pure false := by rfl) (hw : swappedStores [.Subscript o b p] e X.env = pure none := by rfl)
    (h1 : (assignEach [.Subscript o b p] X.env).map (·.2) = [assign (.Subscript o b p) X.env] := by rfl)
    (ha : ∀ v, assign (.Subscript o b p) X.env v = (do
      let ov ← holding [v] (eval o X.env)
      let iv ← holding [v, ov] (eval b X.env)
      standAt p
      holding [v, ov, iv] (setItem ov iv v)
      release [v, ov, iv] []) := by intro _; rfl) : DS X N W δ μ (.Assign [.Subscript o b p] e pos) (.nx δ (μ1.set j (.lst (ds.set k d)))) :=
  PS.imp (ps_asg hv (pg_sub ho hb set_list ha) hs hw h1) fun K σ H ⟨F, A, R, q⟩ => ⟨F, A, R, fun v F1 A1 H1 e1 p1 R1 rv => ⟨F1, A1, R1, fun ov F2 A2 H2 e2 p2 R2 ro => ⟨F2, A2, R2, fun iv F3 A3 H3 e3 p3 R3 ri => by
    obtain ⟨a, rfl, ha⟩ := ro
    have rv3 : Rep N.K F3 v d := Rep.mono (e2.trans e3) rv
    have ha3 := getElem?_pre p3 ha
    obtain ⟨ws, h1, h2⟩ := R3.rc.mus j a _ ha3 hj
    refine ⟨a, ws, i, k, rfl, rs_int ri, h1, by rw [h2.length]; exact hk, ?_⟩
    exact q σ F3 A3 _ ((e1.trans e2).trans e3) ((p1.trans p2).trans p3) (R3.to (Same.refl _) (List.prefix_refl _) (R3.rc.write ha3 hj trivial ⟨_, upd_same, h2.set rv3 k⟩))⟩⟩⟩
end
end Dl

set_option Elab.async false
set_option linter.all false
set_option maxRecDepth 100000
set_option maxHeartbeats 4000000
set_option autoImplicit false
namespace Dl
open PySem PySem.Spec PyProof.Rows L2
section
variable {prog : Program} {w : World} {A : Around} {E : Value → Shared → Prop} {s : Shared}
theorem nextOf_ascii {it : Addr} {x : Str} {t : Tok} {i c : Nat} {Q : Value → Shared → Prop} (hit : s.heap.IsStrIter it "str_ascii_iterator" x t i) (hx : x.cps[i]? = some c)
    (hQ : ∀ h', h'.IsStrIter it "str_ascii_iterator" x t (i + 1) → Heap.SameBut it s.heap h' → Q (.str ⟨#[c]⟩ s.toks) { s with heap := h', toks := s.toks + 1 }) :
    wpAny (model prog w) A (Builtin.SmallTypes.nextOf (.ref it)) Q E s := by
  obtain ⟨o, ho, hc, hd⟩ := id hit
  unfold Builtin.SmallTypes.nextOf
  refine wpAny_bind (wpAny_callSpecial?_slot (name := Str.ofString "__next__") hit.typeIs F.slot_str_ascii_iterator_next
    (wpAny_call_entry F.slot_str_ascii_iterator_next hit.typeIs F.entry_str_ascii_iterator_next ?_ (F.args_str_ascii_iterator_next_1 _)))
  show wpAny _ _ (field (.ref it) 0 >>= _) _ _ s
  refine wpAny_bind (wpAny_field ho hd (x := .str x t) rfl ?_)
  show wpAny _ _ (field (.ref it) 1 >>= _) _ _ s
  refine wpAny_bind (wpAny_field ho hd (x := .int i 0) rfl ?_)
  simp only [Int.toNat_natCast, hx]
  refine wpAny_bind (wpAny_setField ho hd (by simp) (wpAny_bind (wpAny_mkStr (wpAny_pure ⟨_, rfl, wpAny_pure (hQ _ ?_ (Heap.SameBut.update ..))⟩) (by show 1 ≤ sizeLine; decide))))
  exact ⟨_, Heap.get?_update_self _ ho (Obj.isFreed_of_fields (Obj.data_mapFields hd _)), (Obj.cls_mapFields ..).trans hc, by
    rw [Obj.data_mapFields hd]; simp [rawInt]⟩
theorem nextOf_wide {it : Addr} {x : Str} {t : Tok} {i c : Nat} {Q : Value → Shared → Prop} (hit : s.heap.IsStrIter it "str_iterator" x t i) (hx : x.cps[i]? = some c)
    (hQ : ∀ h', h'.IsStrIter it "str_iterator" x t (i + 1) → Heap.SameBut it s.heap h' → Q (.str ⟨#[c]⟩ s.toks) { s with heap := h', toks := s.toks + 1 }) :
    wpAny (model prog w) A (Builtin.SmallTypes.nextOf (.ref it)) Q E s := by
  obtain ⟨o, ho, hc, hd⟩ := id hit
  unfold Builtin.SmallTypes.nextOf
  refine wpAny_bind (wpAny_callSpecial?_slot (name := Str.ofString "__next__") hit.typeIs F.slot_str_iterator_next
    (wpAny_call_entry F.slot_str_iterator_next hit.typeIs F.entry_str_iterator_next ?_ (F.args_str_iterator_next_1 _)))
  show wpAny _ _ (field (.ref it) 0 >>= _) _ _ s
  refine wpAny_bind (wpAny_field ho hd (x := .str x t) rfl ?_)
  show wpAny _ _ (field (.ref it) 1 >>= _) _ _ s
  refine wpAny_bind (wpAny_field ho hd (x := .int i 0) rfl ?_)
  simp only [Int.toNat_natCast, hx]
  refine wpAny_bind (wpAny_setField ho hd (by simp) (wpAny_bind (wpAny_mkStr (wpAny_pure ⟨_, rfl, wpAny_pure (hQ _ ?_ (Heap.SameBut.update ..))⟩) (by show 1 ≤ sizeLine; decide))))
  exact ⟨_, Heap.get?_update_self _ ho (Obj.isFreed_of_fields (Obj.data_mapFields hd _)), (Obj.cls_mapFields ..).trans hc, by
    rw [Obj.data_mapFields hd]; simp [rawInt]⟩
theorem nextOf_ascii_end {it : Addr} {x : Str} {t : Tok} {i : Nat} {Q : Value → Shared → Prop} (hh : A.handled = none) (hit : s.heap.IsStrIter it "str_ascii_iterator" x t i) (hx : x.cps[i]? = none)
    (hE : ∀ h' e, Heap.ExtBut it s.heap h' → (∃ o, h'.get? e = some o ∧ o.cls = .type "StopIteration") → E (.ref e) { s with heap := h' }) : wpAny (model prog w) A (Builtin.SmallTypes.nextOf (.ref it)) Q E s := by
  obtain ⟨o, ho, hc, hd⟩ := id hit
  unfold Builtin.SmallTypes.nextOf
  refine wpAny_bind (wpAny_callSpecial?_slot (name := Str.ofString "__next__") hit.typeIs F.slot_str_ascii_iterator_next
    (wpAny_call_entry F.slot_str_ascii_iterator_next hit.typeIs F.entry_str_ascii_iterator_next ?_ (F.args_str_ascii_iterator_next_1 _)))
  show wpAny _ _ (field (.ref it) 0 >>= _) _ _ s
  refine wpAny_bind (wpAny_field ho hd (x := .str x t) rfl ?_)
  show wpAny _ _ (field (.ref it) 1 >>= _) _ _ s
  refine wpAny_bind (wpAny_field ho hd (x := .int i 0) rfl ?_)
  simp only [Int.toNat_natCast, hx]
  refine wpAny_bind (wpAny_rule (wpAny_bind (wpAny_setField ho hd (by simp) (wpAny_bind (wpAny_letGo ?_)))))
  show wpAny _ _ (newExc (.type "StopIteration") [] >>= _) _ _ _
  refine wpAny_bind ?_
  simp only [newExc, newTuple]
  refine wpAny_bind (wpAny_newObj_type ?_ (by size_fits))
  refine wpAny_bind (m := firstArgMember _ _) (wpAny_of_eq (a := Value.none) (by first | rfl | (simp only [firstArgMember]; rfl)) ?_)
  refine wpAny_newObj_type ?_ (by size_fits)
  simp only [raiseNew]
  refine wpAny_bind (wpAny_handled ?_)
  rw [show A.in1.handled = none from hh]
  refine wpAny_bind (wpAny_pure (wpAny_throw ?_))
  exact hE _ _ (((Heap.SameBut.update ..).extBut.push _).push _) ⟨_, Heap.get?_push_size _ rfl, rfl⟩
theorem nextOf_wide_end {it : Addr} {x : Str} {t : Tok} {i : Nat} {Q : Value → Shared → Prop} (hh : A.handled = none) (hit : s.heap.IsStrIter it "str_iterator" x t i) (hx : x.cps[i]? = none)
    (hE : ∀ h' e, Heap.ExtBut it s.heap h' → (∃ o, h'.get? e = some o ∧ o.cls = .type "StopIteration") → E (.ref e) { s with heap := h' }) : wpAny (model prog w) A (Builtin.SmallTypes.nextOf (.ref it)) Q E s := by
  obtain ⟨o, ho, hc, hd⟩ := id hit
  unfold Builtin.SmallTypes.nextOf
  refine wpAny_bind (wpAny_callSpecial?_slot (name := Str.ofString "__next__") hit.typeIs F.slot_str_iterator_next
    (wpAny_call_entry F.slot_str_iterator_next hit.typeIs F.entry_str_iterator_next ?_ (F.args_str_iterator_next_1 _)))
  show wpAny _ _ (field (.ref it) 0 >>= _) _ _ s
  refine wpAny_bind (wpAny_field ho hd (x := .str x t) rfl ?_)
  show wpAny _ _ (field (.ref it) 1 >>= _) _ _ s
  refine wpAny_bind (wpAny_field ho hd (x := .int i 0) rfl ?_)
  simp only [Int.toNat_natCast, hx]
  refine wpAny_bind (wpAny_rule (wpAny_bind (wpAny_setField ho hd (by simp) (wpAny_bind (wpAny_letGo ?_)))))
  show wpAny _ _ (newExc (.type "StopIteration") [] >>= _) _ _ _
  refine wpAny_bind ?_
  simp only [newExc, newTuple]
  refine wpAny_bind (wpAny_newObj_type ?_ (by size_fits))
  refine wpAny_bind (m := firstArgMember _ _) (wpAny_of_eq (a := Value.none) (by first | rfl | (simp only [firstArgMember]; rfl)) ?_)
  refine wpAny_newObj_type ?_ (by size_fits)
  simp only [raiseNew]
  refine wpAny_bind (wpAny_handled ?_)
  rw [show A.in1.handled = none from hh]
  refine wpAny_bind (wpAny_pure (wpAny_throw ?_))
  exact hE _ _ (((Heap.SameBut.update ..).extBut.push _).push _) ⟨_, Heap.get?_push_size _ rfl, rfl⟩
end
/-- an iterator that a zip draws from: at it; what it leans on stands at dep; its i-th value -/
structure ItC (it : Addr) (dep : List Addr) (len : Nat) (val : Nat → Value → Prop) (tn : Nat → Heap → Prop) : Prop where
  obj : ∀ i h, tn i h → ∃ o, h.get? it = some o ∧ ∀ v, o.data ≠ .cell v
  keep : ∀ i h h', tn i h → (∀ b o, b = it ∨ b ∈ dep → h.get? b = some o → h'.get? b = some o) → tn i h'
  item : ∀ (prog : Program) (w : World) (A : Around) (E : Value → Shared → Prop) (s : Shared) (Q : Value → Shared → Prop) (i : Nat), i < len → tn i s.heap → (∀ x h' tk, val i x → tn (i + 1) h' → Heap.SameBut it s.heap h' → Q x { s with heap := h', toks := tk }) →
    wpAny (model prog w) A (Builtin.SmallTypes.nextOf (.ref it)) Q E s
  stop : ∀ (prog : Program) (w : World) (A : Around) (E : Value → Shared → Prop) (s : Shared) (Q : Value → Shared → Prop), A.handled = none → tn len s.heap → (∀ h' e, Heap.ExtBut it s.heap h' → (∃ o, h'.get? e = some o ∧ o.cls = .type "StopIteration") → E (.ref e) { s with heap := h' }) →
    wpAny (model prog w) A (Builtin.SmallTypes.nextOf (.ref it)) Q E s
theorem itc_list {it l : Addr} {its : List Value} : ItC it [l] its.length (fun i x => its[i]? = some x) (fun i h => h.IsListIter it l i ∧ h.IsList l its.toArray) where
  obj := fun i h ⟨⟨o, e, _, d⟩, _⟩ => ⟨o, e, fun v z => by rw [d] at z; cases z⟩
  keep := fun i h h' ⟨a, b⟩ k => ⟨a.at fun o e => k it o (.inl rfl) e, by
    obtain ⟨o, e, r⟩ := b
    exact ⟨o, k l o (.inr (by simp)) e, r⟩⟩
  item := fun prog w A E s Q i hi ⟨a, b⟩ hq => wpAny_nextOf_list_item a b (x := its[i]) (by simp [hi]) fun h' a' sb => hq _ h' s.toks (by simp [hi]) ⟨a', by
    obtain ⟨o, e, r⟩ := b
    have ne : l ≠ it := fun z => by
      obtain ⟨o', e', c', _⟩ := a
      rw [← z, e] at e'; cases e'
      obtain ⟨c, _⟩ := r
      rw [c] at c'
      exact absurd c' (by decide)
    exact ⟨o, (sb.2 l ne).trans e, r⟩⟩ sb
  stop := fun prog w A E s Q hh ⟨a, b⟩ he => wpAny_nextOf_list_end hh a b (by simp) he
theorem itc_tup {it l : Addr} {its : List Value} : ItC it [l] its.length (fun i x => its[i]? = some x) (fun i h => h.IsTupleIter it l i ∧ h.IsTuple l its.toArray) where
  obj := fun i h ⟨⟨o, e, _, d⟩, _⟩ => ⟨o, e, fun v z => by rw [d] at z; cases z⟩
  keep := fun i h h' ⟨a, b⟩ k => ⟨a.at fun o e => k it o (.inl rfl) e, by
    obtain ⟨o, e, r⟩ := b
    exact ⟨o, k l o (.inr (by simp)) e, r⟩⟩
  item := fun prog w A E s Q i hi ⟨a, b⟩ hq => RZ.nextOf_tuple_item a b (x := its[i]) (by simp [hi]) fun h' a' sb => hq _ h' s.toks (by simp [hi]) ⟨a', by
    obtain ⟨o, e, r⟩ := b
    have ne : l ≠ it := fun z => by
      obtain ⟨o', e', c', _⟩ := a
      rw [← z, e] at e'; cases e'
      obtain ⟨c, _⟩ := r
      rw [c] at c'
      exact absurd c' (by decide)
    exact ⟨o, (sb.2 l ne).trans e, r⟩⟩ sb
  stop := fun prog w A E s Q hh ⟨a, b⟩ he => RZ.nextOf_tuple_end hh a b (by simp) he
theorem itc_str {it : Addr} {z : Str} {t : Tok} {ty : String} (hty : ty = "str_ascii_iterator" ∨ ty = "str_iterator") : ItC it [] z.cps.size (fun i x => ∃ c u, z.cps[i]? = some c ∧ x = .str ⟨#[c]⟩ u) (fun i h => h.IsStrIter it ty z t i) where
  obj := fun i h ⟨o, e, _, d⟩ => ⟨o, e, fun v z => by rw [d] at z; cases z⟩
  keep := fun i h h' st k => let ⟨o, ho, r⟩ := st; ⟨o, k it o (.inl rfl) ho, r⟩
  item := fun prog w A E s Q i hi st hq => by
    rcases hty with e | e
    · subst e; exact nextOf_ascii st (c := z.cps[i]) (by simp [hi]) fun h' a' sb => hq _ h' _ ⟨_, _, by simp [hi], rfl⟩ a' sb
    · subst e; exact nextOf_wide st (c := z.cps[i]) (by simp [hi]) fun h' a' sb => hq _ h' _ ⟨_, _, by simp [hi], rfl⟩ a' sb
  stop := fun prog w A E s Q hh st he => by
    rcases hty with e | e
    · subst e; exact nextOf_ascii_end hh st (by simp) he
    · subst e; exact nextOf_wide_end hh st (by simp) he
/-- all of a zip's own objects and what it leans on stand apart -/
structure ZAp (z TI TO i1 i2 : Addr) (d1 d2 : List Addr) : Prop where
  TIz : TI ≠ z
  TOz : TO ≠ z
  i1z : i1 ≠ z
  i2z : i2 ≠ z
  TITO : TI ≠ TO
  TIi1 : TI ≠ i1
  TIi2 : TI ≠ i2
  TOi1 : TO ≠ i1
  TOi2 : TO ≠ i2
  i12 : i1 ≠ i2
  dz : ∀ b ∈ d1 ++ d2, b ≠ z ∧ b ≠ TO ∧ b ≠ i1 ∧ b ≠ i2
section
variable {prog : Program} {w : World} {A : Around} {E : Value → Shared → Prop} {s : Shared} {z TI TO i1 i2 : Addr} {d1 d2 : List Addr} {n1 n2 : Nat} {v1 v2 : Nat → Value → Prop} {t1 t2 : Nat → Heap → Prop} {a b : Value} {k : Nat}
theorem zip_itemG {Q : Value → Shared → Prop} (D : ZAp z TI TO i1 i2 d1 d2) (C1 : ItC i1 d1 n1 v1 t1) (C2 : ItC i2 d2 n2 v2 t2)
    (hz : IsZip s.heap z TI TO .none) (hTI : IsPair s.heap TI (.ref i1) (.ref i2)) (hTO : IsPair s.heap TO a b) (h1 : t1 k s.heap) (h2 : t2 k s.heap) (l1 : k < n1) (l2 : k < n2)
    (hQ : ∀ h' tk x y, v1 k x → v2 k y → IsZip h' z TI TO (rawInt s.heap.objs.size) → IsPair h' TO x y → t1 (k + 1) h' → t2 (k + 1) h' → IsPair h' s.heap.objs.size x y → h'.objs.size = s.heap.objs.size + 1 →
      (∀ c o, c ≠ z → c ≠ TO → c ≠ i1 → c ≠ i2 → s.heap.get? c = some o → h'.get? c = some o) → Q (.ref s.heap.objs.size) { s with heap := h', toks := tk }) :
    wpAny (model prog w) A (Builtin.«zip.__next__» ⟨[.ref z], []⟩) (fun fin s' => ∃ v, fin = .done (.ret v) ∧ Q v s') E s := by
  have dd1 : ∀ b ∈ d1, b ≠ z ∧ b ≠ TO ∧ b ≠ i1 ∧ b ≠ i2 := fun b h => D.dz b (List.mem_append_left _ h)
  have dd2 : ∀ b ∈ d2, b ≠ z ∧ b ≠ TO ∧ b ≠ i1 ∧ b ≠ i2 := fun b h => D.dz b (List.mem_append_right _ h)
  have K1 : ∀ {i h h' c}, t1 i h → Heap.ExtBut c h h' → c = z ∨ c = TO ∨ c = i2 → t1 i h' := fun {i h h' c} st hs hc => C1.keep i h h' st fun b o hb e => hs b o (by
    rcases hb with rfl | hb
    · rcases hc with rfl | rfl | rfl
      · exact D.i1z
      · exact D.TOi1.symm
      · exact D.i12
    · rcases hc with rfl | rfl | rfl
      · exact (dd1 b hb).1
      · exact (dd1 b hb).2.1
      · exact (dd1 b hb).2.2.2) e
  have K2 : ∀ {i h h' c}, t2 i h → Heap.ExtBut c h h' → c = z ∨ c = TO ∨ c = i1 → t2 i h' := fun {i h h' c} st hs hc => C2.keep i h h' st fun b o hb e => hs b o (by
    rcases hb with rfl | hb
    · rcases hc with rfl | rfl | rfl
      · exact D.i2z
      · exact D.TOi2.symm
      · exact D.i12.symm
    · rcases hc with rfl | rfl | rfl
      · exact (dd2 b hb).1
      · exact (dd2 b hb).2.1
      · exact (dd2 b hb).2.2.1) e
  show wpAny _ _ (field (.ref z) 2 >>= _) _ _ _
  refine wpAny_bind (wpAny_field hz rfl (x := .bool false) rfl ?_)
  show wpAny _ _ (field (.ref z) 3 >>= _) _ _ _
  refine wpAny_bind (wpAny_field hz rfl (x := .ref TI) rfl ?_)
  refine wpAny_bind (wpAny_seqItems hTI rfl ?_)
  show wpAny _ _ (Builtin.SmallTypes.ownedTupleIsFree (.ref z) >>= _) _ _ _
  refine wpAny_bind ?_
  unfold Builtin.SmallTypes.ownedTupleIsFree
  refine wpAny_bind (wpAny_field hz rfl (x := .none) rfl (wpAny_pure ?_))
  simp only [if_true]
  refine wpAny_bind (wpAny_rule ?_)
  refine wpAny_bind (wpAny_field hz rfl (x := .ref TO) rfl ?_)
  refine wpAny_bind (wpAny_setField_rec hz (by simp) fun h₁ hz₁ hs₁ => ?_)
  replace hz₁ : IsZip h₁ z TI TO .ellipsis := hz₁
  refine wpAny_bind ?_
  simp only [List.zipIdx_cons, List.zipIdx_nil, List.forIn_cons, List.forIn_nil]
  refine wpAny_bind (wpAny_bind (wpAny_onRaise ?_))
  show wpAny _ _ (Builtin.SmallTypes.nextOf (.ref i1) >>= _) _ _ _
  refine wpAny_bind (C1.item prog w _ _ { s with heap := h₁ } _ k l1 (K1 h1 hs₁.extBut (.inl rfl)) fun x h₂ tk₂ hx h1₂ hs₂ => wpAny_pure ?_)
  have hTO₂ : IsPair h₂ TO a b := hs₂.extBut _ _ D.TOi1 (hs₁.extBut _ _ D.TOz hTO)
  refine wpAny_bind (wpAny_seqItems hTO₂ rfl ?_)
  refine wpAny_bind (wpAny_updateSeq_pair hTO₂ fun h₃ hTO₃ hs₃ => ?_)
  replace hTO₃ : IsPair h₃ TO x b := hTO₃
  refine wpAny_bind (wpAny_letGo (wpAny_pure ?_))
  refine wpAny_bind (wpAny_bind (wpAny_onRaise ?_))
  show wpAny _ _ (Builtin.SmallTypes.nextOf (.ref i2) >>= _) _ _ _
  refine wpAny_bind (C2.item prog w _ _ { s with heap := h₃, toks := tk₂ } _ k l2 (K2 (K2 (K2 h2 hs₁.extBut (.inl rfl)) hs₂.extBut (.inr (.inr rfl))) hs₃.extBut (.inr (.inl rfl))) fun y h₄ tk₄ hy h2₄ hs₄ => wpAny_pure ?_)
  have hTO₄ : IsPair h₄ TO x b := hs₄.extBut _ _ D.TOi2 hTO₃
  refine wpAny_bind (wpAny_seqItems hTO₄ rfl ?_)
  refine wpAny_bind (wpAny_updateSeq_pair hTO₄ fun h₅ hTO₅ hs₅ => ?_)
  replace hTO₅ : IsPair h₅ TO x y := hTO₅
  refine wpAny_bind (wpAny_letGo (wpAny_pure (wpAny_pure ?_)))
  refine wpAny_bind (wpAny_seqItems hTO₅ rfl ?_)
  refine wpAny_bind (wpAny_newTuple ?_)
  have hsz : h₅.objs.size = s.heap.objs.size := by rw [hs₅.1, hs₄.1, hs₃.1, hs₂.1, hs₁.1]
  have hz₅ : IsZip h₅ z TI TO .ellipsis := hs₅.extBut _ _ D.TOz.symm (hs₄.extBut _ _ D.i2z.symm (hs₃.extBut _ _ D.TOz.symm (hs₂.extBut _ _ D.i1z.symm hz₁)))
  have hk₅ : ∀ c o, c ≠ z → c ≠ TO → c ≠ i1 → c ≠ i2 → s.heap.get? c = some o → h₅.get? c = some o := fun c o c1 c2 c3 c4 e =>
    hs₅.extBut _ _ c2 (hs₄.extBut _ _ c4 (hs₃.extBut _ _ c2 (hs₂.extBut _ _ c3 (hs₁.extBut _ _ c1 e))))
  have h1₅ : t1 (k + 1) h₅ := K1 (K1 (K1 h1₂ hs₃.extBut (.inr (.inl rfl))) hs₄.extBut (.inr (.inr rfl))) hs₅.extBut (.inr (.inl rfl))
  have h2₅ : t2 (k + 1) h₅ := K2 h2₄ hs₅.extBut (.inr (.inl rfl))
  have hzlt : z < h₅.objs.size := Heap.lt_size hz₅
  show wpAny _ _ (Builtin.SmallTypes.ownedTupleHandOut (.ref z) (.ref h₅.objs.size) >>= _) _ _ _
  refine wpAny_bind ?_
  unfold Builtin.SmallTypes.ownedTupleHandOut
  have hz₆ : IsZip (h₅.push { cls := .type "tuple", data := .seq #[x, y] }) z TI TO .ellipsis := Heap.get?_push_of_some _ hz₅
  refine wpAny_bind (wpAny_setField_rec hz₆ (by simp) fun h₇ hz₇ hs₇ => ?_)
  replace hz₇ : IsZip h₇ z TI TO (rawInt h₅.objs.size) := hz₇
  refine wpAny_setField_rec hz₇ (by simp) fun h₈ hz₈ hs₈ => ?_
  replace hz₈ : IsZip h₈ z TI TO (rawInt h₅.objs.size) := hz₈
  have up : ∀ c o, c ≠ z → h₅.get? c = some o → h₈.get? c = some o := fun c o c1 e => hs₈.extBut _ _ c1 (hs₇.extBut _ _ c1 (Heap.get?_push_of_some _ e))
  have hT₈ : IsPair h₈ h₅.objs.size x y := hs₈.extBut _ _ (Nat.ne_of_gt hzlt) (hs₇.extBut _ _ (Nat.ne_of_gt hzlt) (Heap.get?_push_size _ rfl))
  have hz8 : h₈.objs.size = h₅.objs.size + 1 := by rw [hs₈.1, hs₇.1, Heap.size_push]
  rw [hsz] at hz₈ hT₈ hz8
  refine wpAny_pure ⟨_, rfl, ?_⟩
  show Q (.ref h₅.objs.size) _
  rw [hsz]
  exact hQ h₈ tk₄ x y hx hy hz₈ (up _ _ D.TOz hTO₅) (K1 h1₅ (c := z) (fun c o c1 e => up c o c1 e) (.inl rfl)) (K2 h2₅ (c := z) (fun c o c1 e => up c o c1 e) (.inl rfl)) hT₈ hz8 fun c o c1 c2 c3 c4 e => up c o c1 (hk₅ c o c1 c2 c3 c4 e)
theorem zip_endG {Q : Fin → Shared → Prop} (hh : A.handled = none) (D : ZAp z TI TO i1 i2 d1 d2) (C1 : ItC i1 d1 n1 v1 t1) (C2 : ItC i2 d2 n2 v2 t2)
    (hz : IsZip s.heap z TI TO .none) (hTI : IsPair s.heap TI (.ref i1) (.ref i2)) (hTO : IsPair s.heap TO a b) (h1 : t1 k s.heap) (h2 : t2 k s.heap) (hend : k = n1 ∨ (k < n1 ∧ k = n2))
    (hE : ∀ h' tk e, (∀ c o, c ≠ z → c ≠ TO → c ≠ i1 → c ≠ i2 → s.heap.get? c = some o → h'.get? c = some o) → (∃ o, h'.get? e = some o ∧ o.cls = .type "StopIteration") → E (.ref e) { s with heap := h', toks := tk }) :
    wpAny (model prog w) A (Builtin.«zip.__next__» ⟨[.ref z], []⟩) Q E s := by
  have dd1 : ∀ b ∈ d1, b ≠ z ∧ b ≠ TO ∧ b ≠ i1 ∧ b ≠ i2 := fun b h => D.dz b (List.mem_append_left _ h)
  have dd2 : ∀ b ∈ d2, b ≠ z ∧ b ≠ TO ∧ b ≠ i1 ∧ b ≠ i2 := fun b h => D.dz b (List.mem_append_right _ h)
  have K1 : ∀ {i h h' c}, t1 i h → Heap.ExtBut c h h' → c = z ∨ c = TO ∨ c = i2 → t1 i h' := fun {i h h' c} st hs hc => C1.keep i h h' st fun b o hb e => hs b o (by
    rcases hb with rfl | hb
    · rcases hc with rfl | rfl | rfl
      · exact D.i1z
      · exact D.TOi1.symm
      · exact D.i12
    · rcases hc with rfl | rfl | rfl
      · exact (dd1 b hb).1
      · exact (dd1 b hb).2.1
      · exact (dd1 b hb).2.2.2) e
  have K2 : ∀ {i h h' c}, t2 i h → Heap.ExtBut c h h' → c = z ∨ c = TO ∨ c = i1 → t2 i h' := fun {i h h' c} st hs hc => C2.keep i h h' st fun b o hb e => hs b o (by
    rcases hb with rfl | hb
    · rcases hc with rfl | rfl | rfl
      · exact D.i2z
      · exact D.TOi2.symm
      · exact D.i12.symm
    · rcases hc with rfl | rfl | rfl
      · exact (dd2 b hb).1
      · exact (dd2 b hb).2.1
      · exact (dd2 b hb).2.2.1) e
  show wpAny _ _ (field (.ref z) 2 >>= _) _ _ _
  refine wpAny_bind (wpAny_field hz rfl (x := .bool false) rfl ?_)
  show wpAny _ _ (field (.ref z) 3 >>= _) _ _ _
  refine wpAny_bind (wpAny_field hz rfl (x := .ref TI) rfl ?_)
  refine wpAny_bind (wpAny_seqItems hTI rfl ?_)
  show wpAny _ _ (Builtin.SmallTypes.ownedTupleIsFree (.ref z) >>= _) _ _ _
  refine wpAny_bind ?_
  unfold Builtin.SmallTypes.ownedTupleIsFree
  refine wpAny_bind (wpAny_field hz rfl (x := .none) rfl (wpAny_pure ?_))
  simp only [if_true]
  refine wpAny_bind (wpAny_rule ?_)
  refine wpAny_bind (wpAny_field hz rfl (x := .ref TO) rfl ?_)
  refine wpAny_bind (wpAny_setField_rec hz (by simp) fun h₁ hz₁ hs₁ => ?_)
  replace hz₁ : IsZip h₁ z TI TO .ellipsis := hz₁
  refine wpAny_bind ?_
  simp only [List.zipIdx_cons, List.zipIdx_nil, List.forIn_cons, List.forIn_nil]
  refine wpAny_bind (wpAny_bind (wpAny_onRaise ?_))
  show wpAny _ _ (Builtin.SmallTypes.nextOf (.ref i1) >>= _) _ _ _
  rcases hend with hk | ⟨l1, hk⟩
  · subst hk
    refine wpAny_bind (C1.stop prog w _ _ { s with heap := h₁ } _ hh (K1 h1 hs₁.extBut (.inl rfl)) fun h₂ e hs₂ he => ?_)
    obtain ⟨oe, hoe, hce⟩ := he
    have hz₂ : IsZip h₂ z TI TO .ellipsis := hs₂ _ _ D.i1z.symm hz₁
    have hez : e ≠ z := fun x => by subst x; rw [hz₂] at hoe; cases hoe; simp at hce
    refine wpAny_setField_rec hz₂ (by simp) fun h₃ _ hs₃ => hE h₃ s.toks e (fun c o c1 _ c3 _ x => hs₃.extBut _ _ c1 (hs₂ _ _ c3 (hs₁.extBut _ _ c1 x))) ⟨oe, hs₃.extBut _ _ hez hoe, hce⟩
  · subst hk
    refine wpAny_bind (C1.item prog w _ _ { s with heap := h₁ } _ _ l1 (K1 h1 hs₁.extBut (.inl rfl)) fun x h₂ tk₂ hx h1₂ hs₂ => wpAny_pure ?_)
    have hTO₂ : IsPair h₂ TO a b := hs₂.extBut _ _ D.TOi1 (hs₁.extBut _ _ D.TOz hTO)
    refine wpAny_bind (wpAny_seqItems hTO₂ rfl ?_)
    refine wpAny_bind (wpAny_updateSeq_pair hTO₂ fun h₃ hTO₃ hs₃ => ?_)
    refine wpAny_bind (wpAny_letGo (wpAny_pure ?_))
    refine wpAny_bind (wpAny_bind (wpAny_onRaise ?_))
    show wpAny _ _ (Builtin.SmallTypes.nextOf (.ref i2) >>= _) _ _ _
    refine wpAny_bind (C2.stop prog w _ _ { s with heap := h₃, toks := tk₂ } _ hh (K2 (K2 (K2 h2 hs₁.extBut (.inl rfl)) hs₂.extBut (.inr (.inr rfl))) hs₃.extBut (.inr (.inl rfl))) fun h₄ e hs₄ he => ?_)
    obtain ⟨oe, hoe, hce⟩ := he
    have hz₄ : IsZip h₄ z TI TO .ellipsis := hs₄ _ _ D.i2z.symm (hs₃.extBut _ _ D.TOz.symm (hs₂.extBut _ _ D.i1z.symm hz₁))
    have hez : e ≠ z := fun x => by subst x; rw [hz₄] at hoe; cases hoe; simp at hce
    refine wpAny_setField_rec hz₄ (by simp) fun h₅ _ hs₅ => hE h₅ tk₂ e (fun c o c1 c2 c3 c4 x => hs₅.extBut _ _ c1 (hs₄ _ _ c4 (hs₃.extBut _ _ c2 (hs₂.extBut _ _ c3 (hs₁.extBut _ _ c1 x))))) ⟨oe, hs₅.extBut _ _ hez hoe, hce⟩
theorem pyNext_zipG {Q : Option Value → Shared → Prop} (D : ZAp z TI TO i1 i2 d1 d2) (C1 : ItC i1 d1 n1 v1 t1) (C2 : ItC i2 d2 n2 v2 t2)
    (hz : IsZip s.heap z TI TO .none) (hTI : IsPair s.heap TI (.ref i1) (.ref i2)) (hTO : IsPair s.heap TO a b) (h1 : t1 k s.heap) (h2 : t2 k s.heap) (l1 : k < n1) (l2 : k < n2)
    (hQ : ∀ h' tk x y, v1 k x → v2 k y → IsZip h' z TI TO (rawInt s.heap.objs.size) → IsPair h' TO x y → t1 (k + 1) h' → t2 (k + 1) h' → IsPair h' s.heap.objs.size x y → h'.objs.size = s.heap.objs.size + 1 →
      (∀ c o, c ≠ z → c ≠ TO → c ≠ i1 → c ≠ i2 → s.heap.get? c = some o → h'.get? c = some o) → Q (some (.ref s.heap.objs.size)) { s with heap := h', toks := tk }) :
    wpAny (model prog w) A (pyNext (.ref z)) Q E s := by
  have hT : s.TypeIs (.ref z) "zip" := ⟨_, hz, rfl⟩
  unfold pyNext
  exact wpAny_bind (wpAny_attempt (wpAny_callSpecial?_slot (name := Str.ofString "__next__") hT F.slot_zip_next
    (wpAny_call_entry F.slot_zip_next hT F.entry_zip_next
      (zip_itemG D C1 C2 hz hTI hTO h1 h2 l1 l2 fun h' tk x y hx hy a1 a2 a3 a4 a5 a6 a7 => wpAny_pure (hQ h' tk x y hx hy a1 a2 a3 a4 a5 a6 a7)) (F.args_zip_next_1 _))))
theorem pyNext_zipG_end {Q : Option Value → Shared → Prop} (hh : A.handled = none) (D : ZAp z TI TO i1 i2 d1 d2) (C1 : ItC i1 d1 n1 v1 t1) (C2 : ItC i2 d2 n2 v2 t2)
    (hz : IsZip s.heap z TI TO .none) (hTI : IsPair s.heap TI (.ref i1) (.ref i2)) (hTO : IsPair s.heap TO a b) (h1 : t1 k s.heap) (h2 : t2 k s.heap) (hend : k = n1 ∨ (k < n1 ∧ k = n2))
    (hQ : ∀ h' tk, (∀ c o, c ≠ z → c ≠ TO → c ≠ i1 → c ≠ i2 → s.heap.get? c = some o → h'.get? c = some o) → Q none { s with heap := h', toks := tk }) : wpAny (model prog w) A (pyNext (.ref z)) Q E s := by
  have hT : s.TypeIs (.ref z) "zip" := ⟨_, hz, rfl⟩
  unfold pyNext
  refine wpAny_bind (wpAny_attempt (wpAny_callSpecial?_slot (name := Str.ofString "__next__") hT F.slot_zip_next
    (wpAny_call_entry F.slot_zip_next hT F.entry_zip_next (zip_endG hh D C1 C2 hz hTI hTO h1 h2 hend fun h' tk e hk he => ?_) (F.args_zip_next_1 _))))
  obtain ⟨o, ho, hc⟩ := he
  refine wpAny_bind (wpAny_isInstance (T := "StopIteration") (b := true) ⟨o, ho, hc⟩ isSubtype_stop ?_)
  exact wpAny_pure (hQ _ _ hk)
/-! ### a zip is made -/
/-- pyIter of u: one new object -/
structure Mki (u : Value) (o : Obj) (c : Heap → Prop) : Prop where
  run : ∀ (prog : Program) (w : World) (A : Around) (E : Value → Shared → Prop) (s : Shared) (Q : Value → Shared → Prop), c s.heap → Q (.ref s.heap.objs.size) { s with heap := s.heap.push o } → wpAny (model prog w) A (pyIter u) Q E s
  push : ∀ h o', c h → c (h.push o')
  nf : o.isFreed = false
theorem mki_str {x : Str} {t : Tok} : ∃ ty, (ty = "str_ascii_iterator" ∨ ty = "str_iterator") ∧ Mki (.str x t) { cls := .type ty, data := .fields #[.str x t, .int 0 0] } (fun _ => True) := by
  cases ha : x.cps.all (· < 128)
  · exact ⟨"str_iterator", .inr rfl, ⟨fun prog w A E s Q _ h => wpAny_pyIter_wide ha h, fun _ _ _ => trivial, rfl⟩⟩
  · exact ⟨"str_ascii_iterator", .inl rfl, ⟨fun prog w A E s Q _ h => wpAny_pyIter_ascii ha h, fun _ _ _ => trivial, rfl⟩⟩
theorem mki_list {l : Addr} {items : Array Value} : Mki (.ref l) { cls := .type "list_iterator", data := .fields #[.ref l, .int 0 0] } (fun h => h.IsList l items) :=
  ⟨fun prog w A E s Q c h => wpAny_pyIter_list c h, fun h o c => c.push o, rfl⟩
theorem mki_tup {l : Addr} {items : Array Value} : Mki (.ref l) { cls := .type "tuple_iterator", data := .fields #[.ref l, .int 0 0] } (fun h => h.IsTuple l items) :=
  ⟨fun prog w A E s Q c h => wpAny_pyIter_tuple c h, fun h o c => by
    obtain ⟨ob, e, r⟩ := c
    exact ⟨ob, Heap.get?_push_of_some _ e, r⟩, rfl⟩
abbrev zH2 (h : Heap) (o1 o2 : Obj) : Heap := (h.push o1).push o2
abbrev zH3 (h : Heap) (o1 o2 : Obj) : Heap := (zH2 h o1 o2).push { cls := .type "tuple", data := .seq #[.ref h.objs.size, .ref (h.push o1).objs.size] }
abbrev zH4 (h : Heap) (o1 o2 : Obj) : Heap := (zH3 h o1 o2).push { cls := .type "tuple", data := .seq #[.none, .none] }
abbrev zH5 (h : Heap) (o1 o2 : Obj) : Heap := (zH4 h o1 o2).push { cls := .type "zip", data := .fields #[.none, .bool false, .bool false, .ref (zH2 h o1 o2).objs.size, .ref (zH3 h o1 o2).objs.size] }
theorem meets_zipG {u1 u2 : Value} {o1 o2 : Obj} {c1 c2 : Heap → Prop} (m1 : Mki u1 o1 c1) (m2 : Mki u2 o2 c2) :
    Meets (Builtin.«zip.__new__» ⟨[.type "zip", u1, u2], []⟩) (fun _ R s => c1 s.heap ∧ c2 s.heap ∧ R (.ok (.ret (.ref (zH4 s.heap o1 o2).objs.size))) { s with heap := zH5 s.heap o1 o2 }) :=
  .of_wp fun prog w A R s h => by
    obtain ⟨hp, g, d, tk, os⟩ := s
    obtain ⟨hl1, hl2, h⟩ := h
    have hsub := sub_zip
    have hL2 : c2 (hp.push o1) := m2.push _ _ hl2
    wp_walk using m1.run _ _ _ _ _ _ hl1, m2.run _ _ _ _ _ _ hL2
    exact ⟨_, rfl, h⟩
end
end Dl

set_option Elab.async false
set_option linter.all false
set_option maxRecDepth 100000
set_option maxHeartbeats 4000000
set_option autoImplicit false
namespace Dl
open PySem PySem.Spec PyProof.Rows L2
theorem dep_ne {X : Cx} {pins : List (Addr × Obj)} {σ : L2.St} {H : Hp} {sh : Shared} {l b : Addr} {vs : List V} (I : Inv X pins σ H sh) (h : SqT X.K H l vs) (f : FpOk X pins H b) : l ≠ b := by
  rintro rfl
  rcases h with h | ⟨o, its, n, hk, _⟩
  · rcases h with h | ⟨o, h⟩ <;> (rw [f.1] at h; cases h)
  · have e := I.mod.kin l o hk
    have e0 := (I.ok.bs l o e).1
    rcases f.2.2.2.1 with q | q
    · exact I.ok.noex l o e q
    · exact absurd (Nat.lt_of_lt_of_le (Heap.lt_size e0) q) (Nat.lt_irrefl _)
/-- one side of a zip: the iterator at it, over the items ds -/
structure Src (K : PySem.W.Frag) (F : Hp) (it : Addr) (ds : List D) (st : Nat → Heap → Prop) : Prop where
  obj : ∀ i h, st i h → ∃ o, h.get? it = some o ∧ ∀ v, o.data ≠ .cell v
  keep : ∀ i h h', st i h → (∀ o, h.get? it = some o → h'.get? it = some o) → st i h'
  here : ∀ (X : Cx) (pins : List (Addr × Obj)) (σ : L2.St) (H : Hp) (s : Shared), X.K = K → Inv X pins σ H s → Same F H → ∃ (dep : List Addr) (val : Nat → Value → Prop) (c : Heap → Prop), c s.heap ∧ ItC it dep ds.length val (fun i h => st i h ∧ c h) ∧
    (∀ b ∈ dep, ∀ b', FpOk X pins H b' → b ≠ b') ∧ ∀ i x, val i x → ∃ v d, RelV v x ∧ ds[i]? = some d ∧ Rep K F v d
theorem src_str {K : PySem.W.Frag} {F : Hp} {it : Addr} {z : Str} {t : Tok} {ty : String} (hty : ty = "str_ascii_iterator" ∨ ty = "str_iterator") : Src K F it (chars z) (fun i h => h.IsStrIter it ty z t i) where
  obj := (itc_str hty).obj
  keep := fun i h h' st k => let ⟨o, ho, r⟩ := st; ⟨o, k o ho, r⟩
  here := fun X pins σ H s hK I sm => by
    have C := itc_str (it := it) (z := z) (t := t) hty
    refine ⟨[], fun i x => ∃ c u, z.cps[i]? = some c ∧ x = .str ⟨#[c]⟩ u, fun _ => True, trivial, ⟨fun i h st => C.obj i h st.1, fun i h h' st k => ⟨C.keep i h h' st.1 k, trivial⟩, ?_, ?_⟩, (fun b hb => nomatch hb), fun i x ⟨c, u, h1, h2⟩ => ⟨.str ⟨#[c]⟩, .str ⟨#[c]⟩, ⟨u, h2⟩, ?_, .str _⟩⟩
    · intro prog w A E s Q i hi st hq
      exact C.item prog w A E s Q i (by simpa [chars] using hi) st.1 fun x h' tk hv st' sb => hq x h' tk hv ⟨st', trivial⟩ sb
    · intro prog w A E s Q hh st he
      refine C.stop prog w A E s Q hh ?_ he
      have := st.1
      rwa [show (chars z).length = z.cps.size from by simp [chars]] at this
    · rw [chars, List.getElem?_map, Array.getElem?_toList, h1]; rfl
theorem src_tup {K : PySem.W.Frag} {F : Hp} {it l : Addr} {vs : List V} {ds : List D} (h1 : SqT K F l vs) (h2 : Reps K F vs ds) : Src K F it ds (fun i h => h.IsTupleIter it l i) where
  obj := fun i h ⟨o, e, _, d⟩ => ⟨o, e, fun v z => by rw [d] at z; cases z⟩
  keep := fun i h h' st k => st.at fun o e => k o e
  here := fun X pins σ H s hK I sm => by
    subst hK
    have h3 := same_sqT sm h1
    obtain ⟨its, rv, p, _⟩ := I.tuple h3
    have hl : its.length = ds.length := by rw [← h2.length, ← rv.length]
    have C := itc_tup (it := it) (l := l) (its := its)
    refine ⟨[l], fun i x => its[i]? = some x, fun h => h.IsTuple l its.toArray, p, ?_, fun b hb b' hf => ?_, fun i x hx => ?_⟩
    · rw [← hl]; exact C
    · rw [List.mem_singleton] at hb; subst hb; exact dep_ne I h3 hf
    · have hi := (List.getElem?_eq_some_iff.mp hx).1
      have hv : i < vs.length := by rw [rv.length]; exact hi
      obtain ⟨u, hu, ru⟩ := rv.get (List.getElem?_eq_getElem hv)
      rw [hx] at hu; cases hu
      obtain ⟨d, hd, rd⟩ := h2.get' (List.getElem?_eq_getElem hv)
      exact ⟨vs[i], d, ru, hd, rd⟩
theorem src_lst {K : PySem.W.Frag} {F : Hp} {it l : Addr} {vs : List V} {ds : List D} (h1 : F l = some (.lst vs)) (h2 : Reps K F vs ds) : Src K F it ds (fun i h => h.IsListIter it l i) where
  obj := fun i h ⟨o, e, _, d⟩ => ⟨o, e, fun v z => by rw [d] at z; cases z⟩
  keep := fun i h h' st k => st.at fun o e => k o e
  here := fun X pins σ H s hK I sm => by
    subst hK
    have h3 := sm _ _ h1
    obtain ⟨its, rv, p, _⟩ := I.list (SqL.of h3)
    have hl : its.length = ds.length := by rw [← h2.length, ← rv.length]
    have C := itc_list (it := it) (l := l) (its := its)
    refine ⟨[l], fun i x => its[i]? = some x, fun h => h.IsList l its.toArray, p.isList, ?_, fun b hb b' hf => ?_, fun i x hx => ?_⟩
    · rw [← hl]; exact C
    · rw [List.mem_singleton] at hb; subst hb
      rintro rfl
      rw [hf.1] at h3; cases h3
    · have hi := (List.getElem?_eq_some_iff.mp hx).1
      have hv : i < vs.length := by rw [rv.length]; exact hi
      obtain ⟨u, hu, ru⟩ := rv.get (List.getElem?_eq_getElem hv)
      rw [hx] at hu; cases hu
      obtain ⟨d, hd, rd⟩ := h2.get' (List.getElem?_eq_getElem hv)
      exact ⟨vs[i], d, ru, hd, rd⟩
/-- pairs of the items of both -/
def ItzG (K : PySem.W.Frag) (F : Hp) (ds es : List D) : It :=
  ⟨fun i H => Same F H ∧ i < ds.length ∧ i < es.length,
   fun i H v H' => ∃ T x y d e, v = .ref T ∧ H T = none ∧ H' = upd H T (.tup [x, y]) ∧ ds[i]? = some d ∧ es[i]? = some e ∧ Rep K F x d ∧ Rep K F y e,
   fun i H => Same F H ∧ (i = ds.length ∨ (i < ds.length ∧ i = es.length))⟩
theorem turn_zipG {P : Program} {w : World} {K : PySem.W.Frag} {F : Hp} {ds es : List D} {elts : List Expr} {kk : Nat} {tpos : Pos} {z TI TO i1 i2 : Addr} {st1 st2 : Nat → Heap → Prop} (hTIz : TI ≠ z) (hTOz : TO ≠ z) (hi1z : i1 ≠ z) (hi2z : i2 ≠ z) (hTITO : TI ≠ TO) (hTIi1 : TI ≠ i1) (hTIi2 : TI ≠ i2) (hTOi1 : TO ≠ i1) (hTOi2 : TO ≠ i2) (hi12 : i1 ≠ i2)
    (S1 : Src K F i1 ds st1) (S2 : Src K F i2 es st2) :
    Turn P w K (.Tuple elts kk tpos) (ItzG K F ds es) [z, TI, TO, i1, i2] z (fun i h => IsZip h z TI TO .none ∧ IsPair h TI (.ref i1) (.ref i2) ∧ (∃ x y, IsPair h TO x y) ∧ st1 i h ∧ st2 i h) where
  mem := by simp
  obj := fun i h st c hc => by
    obtain ⟨hz, hTI, ⟨x, y, hTO⟩, h1, h2⟩ := st
    have e' : c = z ∨ c = TI ∨ c = TO ∨ c = i1 ∨ c = i2 := by simpa using hc
    rcases e' with q | q | q | q | q
    · rw [q]; exact ⟨_, hz, fun v q => nomatch q⟩
    · rw [q]; exact ⟨_, hTI, fun v q => nomatch q⟩
    · rw [q]; exact ⟨_, hTO, fun v q => nomatch q⟩
    · rw [q]; exact S1.obj i h h1
    · rw [q]; exact S2.obj i h h2
  keep := fun i h h' st k => by
    obtain ⟨hz, hTI, ⟨x, y, hTO⟩, h1, h2⟩ := st
    exact ⟨k z (by simp) _ hz, k TI (by simp) _ hTI, ⟨x, y, k TO (by simp) _ hTO⟩, S1.keep i h h' h1 fun o q => k i1 (by simp) o q, S2.keep i h h' h2 fun o q => k i2 (by simp) o q⟩
  item := by
    intro X hP hw hK hc i pins s σ H E I hf st hg
    subst hP hw hK
    obtain ⟨hz, hTI, ⟨x0, y0, hTO⟩, h1, h2⟩ := st
    obtain ⟨sm, l1, l2⟩ := hg
    obtain ⟨dep1, val1, c1, hc1, C1, n1, r1⟩ := S1.here X pins σ H s rfl I sm
    obtain ⟨dep2, val2, c2, hc2, C2, n2, r2⟩ := S2.here X pins σ H s rfl I sm
    have Dz : ZAp z TI TO i1 i2 dep1 dep2 := ⟨hTIz, hTOz, hi1z, hi2z, hTITO, hTIi1, hTIi2, hTOi1, hTOi2, hi12, fun b hb => by
      have key : ∀ b', FpOk X pins H b' → b ≠ b' := fun b' hf' => (List.mem_append.mp hb).elim (fun q => n1 b q b' hf') fun q => n2 b q b' hf'
      exact ⟨key z (hf z (by simp)), key TO (hf TO (by simp)), key i1 (hf i1 (by simp)), key i2 (hf i2 (by simp))⟩⟩
    have hzl : z < s.heap.objs.size := Heap.lt_size hz
    refine pyNext_zipG Dz C1 C2 hz hTI hTO ⟨h1, hc1⟩ ⟨h2, hc2⟩ l1 l2 fun h' tk x y hx hy z' TO' h1' h2' hT hsz hk => ?_
    obtain ⟨v1, d1, rv1, hd1, rp1⟩ := r1 i x hx
    obtain ⟨v2, d2, rv2, hd2, rp2⟩ := r2 i y hy
    refine ⟨_, rfl, wpAny_letOwnedTupleGo_zip (s := { s with heap := h', toks := tk }) z' fun h'' z'' sb => ?_⟩
    have hT2 : h''.get? s.heap.objs.size = some { cls := .type "tuple", data := .seq #[x, y] } := (sb.2 _ (Nat.ne_of_gt hzl)).trans hT
    have new : ObjOk X.prog X.w (upd H s.heap.objs.size (.tup [v1, v2])) h'' s.heap.objs.size (.tup [v1, v2]) :=
      ⟨by show 2 ≤ sizeLine; decide, [x, y], .cons rv1 (.cons rv2 .nil), ⟨_, hT2, rfl, _, rfl⟩⟩
    have I1 : Inv X pins σ (upd H s.heap.objs.size (.tup [v1, v2])) { s with heap := h'', toks := tk } :=
      I.turnedNew (t' := tk) (ch := [z, TI, TO, i1, i2]) (fun c o hb q => (sb.2 c (fun q' => hb (by simp [q']))).trans (hk c o (fun q' => hb (by simp [q'])) (fun q' => hb (by simp [q'])) (fun q' => hb (by simp [q'])) (fun q' => hb (by simp [q'])) q)) hf (Nat.le_refl _) new
    refine ⟨.ref s.heap.objs.size, _, I1, rfl, ⟨_, v1, v2, d1, d2, rfl, I.hok.fresh (Nat.le_refl _), rfl, hd1, hd2, rp1, rp2⟩, ⟨z'', ?_, ⟨x, y, ?_⟩, ?_, ?_⟩, fun c hcm => ?_⟩
    · exact (sb.2 _ hTIz).trans (hk _ _ hTIz hTITO hTIi1 hTIi2 hTI)
    · exact (sb.2 _ hTOz).trans TO'
    · exact S1.keep _ _ _ h1'.1 fun o q => (sb.2 _ hi1z).trans q
    · exact S2.keep _ _ _ h2'.1 fun o q => (sb.2 _ hi2z).trans q
    · have hlt : c < s.heap.objs.size := by
        have e' : c = z ∨ c = TI ∨ c = TO ∨ c = i1 ∨ c = i2 := by simpa using hcm
        rcases e' with q | q | q | q | q
        · rw [q]; exact hzl
        · rw [q]; exact Heap.lt_size hTI
        · rw [q]; exact Heap.lt_size hTO
        · rw [q]; obtain ⟨_, e1, _⟩ := S1.obj i _ h1; exact Heap.lt_size e1
        · rw [q]; obtain ⟨_, e2, _⟩ := S2.obj i _ h2; exact Heap.lt_size e2
      rw [upd_ne (Nat.ne_of_lt hlt)]
      exact (hf c hcm).1
  done := by
    intro X hP hw hK hc i pins s σ H E I hf st hg
    subst hP hw hK
    obtain ⟨hz, hTI, ⟨x0, y0, hTO⟩, h1, h2⟩ := st
    obtain ⟨sm, hend⟩ := hg
    obtain ⟨dep1, val1, c1, hc1, C1, n1, r1⟩ := S1.here X pins σ H s rfl I sm
    obtain ⟨dep2, val2, c2, hc2, C2, n2, r2⟩ := S2.here X pins σ H s rfl I sm
    have Dz : ZAp z TI TO i1 i2 dep1 dep2 := ⟨hTIz, hTOz, hi1z, hi2z, hTITO, hTIi1, hTIi2, hTOi1, hTOi2, hi12, fun b hb => by
      have key : ∀ b', FpOk X pins H b' → b ≠ b' := fun b' hf' => (List.mem_append.mp hb).elim (fun q => n1 b q b' hf') fun q => n2 b q b' hf'
      exact ⟨key z (hf z (by simp)), key TO (hf TO (by simp)), key i1 (hf i1 (by simp)), key i2 (hf i2 (by simp))⟩⟩
    exact pyNext_zipG_end (I.ok.hd hc) Dz C1 C2 hz hTI hTO ⟨h1, hc1⟩ ⟨h2, hc2⟩ hend fun h' tk hk => ⟨rfl, I.turnedL (t' := tk) (ch := [z, TI, TO, i1, i2]) (fun c o hb q =>
      hk c o (fun q' => hb (by simp [q'])) (fun q' => hb (by simp [q'])) (fun q' => hb (by simp [q'])) (fun q' => hb (by simp [q'])) q) hf⟩
  self := fun A i s Q E st h => wpAny_pyIter_zip st.1 h
/-- what may stand in a zip: its items -/
inductive ZSrc : D → List D → Prop
  | str (z) : ZSrc (.str z) (chars z)
  | tup (ds) : ZSrc (.tup ds) ds
  | lst (ds) : ZSrc (.lst ds) ds
theorem zsrc_here {X : Cx} {pins : List (Addr × Obj)} {σ : L2.St} {H F : Hp} {sh : Shared} {d : D} {ds : List D} {v : V} {u : Value} (zs : ZSrc d ds) (I : Inv X pins σ H sh) (sm : Same F H) (rp : Rep X.K F v d) (ru : RelV v u) :
    ∃ (o : Obj) (c : Heap → Prop), Mki u o c ∧ c sh.heap ∧ ∀ it : Addr, ∃ st, Src X.K F it ds st ∧ ∀ h : Heap, h.get? it = some o → st 0 h := by
  cases zs with
  | str z =>
    cases rp
    obtain ⟨t, rfl⟩ := ru
    obtain ⟨ty, hty, m⟩ := mki_str (x := z) (t := t)
    exact ⟨_, _, m, trivial, fun it => ⟨_, src_str hty, fun h e => ⟨_, e, rfl, rfl⟩⟩⟩
  | tup ds =>
    obtain ⟨a, vs, rfl, h1, h2⟩ := rep_tup rp
    cases ru
    obtain ⟨its, _, p, _⟩ := I.tuple (same_sqT sm h1)
    exact ⟨_, _, mki_tup (l := a) (items := its.toArray), p, fun it => ⟨_, src_tup h1 h2, fun h e => ⟨_, e, rfl, rfl⟩⟩⟩
  | lst ds =>
    obtain ⟨a, vs, rfl, h1, h2⟩ := rep_lst rp
    cases ru
    obtain ⟨its, _, p, _⟩ := I.list (SqL.of (sm _ _ h1))
    exact ⟨_, _, mki_list (l := a) (items := its.toArray), p.isList, fun it => ⟨_, src_lst h1 h2, fun h e => ⟨_, e, rfl, rfl⟩⟩⟩
theorem yl_zip {K : PySem.W.Frag} {F : Hp} {ds es : List D} : Yl K (ItzG K F ds es) F (ds.zipWith (fun a b => .tup [a, b]) es) := by
  refine ⟨fun i H hi h => ⟨h, ?_⟩, fun H h => ⟨h, ?_⟩, fun i H x H' hi h y => ?_⟩
  · rw [List.length_zipWith] at hi; omega
  · rw [List.length_zipWith]; omega
  · obtain ⟨T, a, b, d, e, h1, h2, h3, h4, h5, h6, h7⟩ := y
    exact ⟨.tup [d, e], by rw [List.getElem?_zipWith, h4, h5], .inr ⟨T, [a, b], [d, e], h1, h2, h3, rfl, .cons h6 (.cons h7 .nil)⟩⟩
theorem nn {a b c : Nat} (h : b ≠ c) : (a + b : Nat) ≠ a + c := fun z => h (Nat.add_left_cancel z)
theorem n0 {a c : Nat} (h : 0 ≠ c) : (a : Nat) ≠ a + c := fun z => h (Nat.add_left_cancel (n := a) (by rw [Nat.add_zero]; exact z))
theorem call_zipG {prog : Program} {w : World} {A : Around} {E : Value → Shared → Prop} {s : Shared} {u1 u2 : Value} {o1 o2 : Obj} {c1 c2 : Heap → Prop} (m1 : Mki u1 o1 c1) (m2 : Mki u2 o2 c2) {Q : Value → Shared → Prop} (hl1 : c1 s.heap) (hl2 : c2 s.heap)
    (h : ∀ h', IsZip h' (s.heap.objs.size + 4) (s.heap.objs.size + 2) (s.heap.objs.size + 3) .none → IsPair h' (s.heap.objs.size + 2) (.ref s.heap.objs.size) (.ref (s.heap.objs.size + 1)) →
      IsPair h' (s.heap.objs.size + 3) .none .none → (o1.isFreed = false → h'.get? s.heap.objs.size = some o1) → (o2.isFreed = false → h'.get? (s.heap.objs.size + 1) = some o2) → h'.objs.size = s.heap.objs.size + 5 →
      (∀ c o, s.heap.get? c = some o → h'.get? c = some o) → Q (.ref (s.heap.objs.size + 4)) { s with heap := h' }) :
    wpAny (model prog w) A (call (.type "zip") [u1, u2]) Q E s := by
  refine callType_new F.called_zip (by decide) (F.typeCall_zip_2 _ _) (F.newCall_zip_2 _ _) (fun obj => F.args_object_init_3 obj _ _) F.entry_zip_new
    (meets_zipG m1 m2) ⟨hl1, hl2, ?_⟩
  have z1 : (s.heap.push o1).objs.size = s.heap.objs.size + 1 := Heap.size_push ..
  have z2 : (zH2 s.heap o1 o2).objs.size = s.heap.objs.size + 2 := by rw [Heap.size_push, z1]
  have z3 : (zH3 s.heap o1 o2).objs.size = s.heap.objs.size + 3 := by rw [Heap.size_push, z2]
  have z4 : (zH4 s.heap o1 o2).objs.size = s.heap.objs.size + 4 := by rw [Heap.size_push, z3]
  have z5 : (zH5 s.heap o1 o2).objs.size = s.heap.objs.size + 5 := by rw [Heap.size_push, z4]
  have g5 : (zH5 s.heap o1 o2).get? (zH4 s.heap o1 o2).objs.size = some _ := Heap.get?_push_size _ rfl
  have g4 : (zH5 s.heap o1 o2).get? (zH3 s.heap o1 o2).objs.size = some _ := Heap.get?_push_of_some _ (Heap.get?_push_size _ rfl)
  have g3 : (zH5 s.heap o1 o2).get? (zH2 s.heap o1 o2).objs.size = some _ := Heap.get?_push_of_some _ (Heap.get?_push_of_some _ (Heap.get?_push_size _ rfl))
  have g2 : o2.isFreed = false → (zH5 s.heap o1 o2).get? (s.heap.push o1).objs.size = some _ := fun hf => Heap.get?_push_of_some _ (Heap.get?_push_of_some _ (Heap.get?_push_of_some _ (Heap.get?_push_size _ hf)))
  have g1 : o1.isFreed = false → (zH5 s.heap o1 o2).get? s.heap.objs.size = some _ := fun hf => Heap.get?_push_of_some _ (Heap.get?_push_of_some _ (Heap.get?_push_of_some _ (Heap.get?_push_of_some _ (Heap.get?_push_size _ hf))))
  show _ ∧ _
  rw [z2, z3, z4] at g5
  rw [z1, z2] at g3
  rw [z3] at g4
  rw [z1] at g2
  rw [z4]
  exact ⟨⟨_, g5, rfl⟩, h _ g5 g3 g4 g1 g2 z5 fun c o x => Heap.get?_push_of_some _ (Heap.get?_push_of_some _ (Heap.get?_push_of_some _ (Heap.get?_push_of_some _ (Heap.get?_push_of_some _ x))))⟩
section
variable {X : Cx} {N : En} {W : WX} {n : Nat} {δ : List (Option S)} {μ μ1 : List M} {e e2 : Expr} {d1 d2 : D} {ds es : List D} {elts : List Expr} {kk : Nat} {p pos tpos : Pos}
theorem di_zip (g : Go X N W n) (ha : DA X N W δ μ [e, e2] [.p d1, .p d2] μ1) (z1 : ZSrc d1 ds) (z2 : ZSrc d2 es) (hm : X.mg "zip" = none) (hg : Gl X "zip" := by rfl)
    (hs : starEach [e, e2] X.env = (false, eval e X.env) :: starEach [e2] X.env := by rfl) (hpl : (backTo pos (starEach [e2] X.env)).any (·.1) = false := by rfl) :
    DI X N W δ μ (.Tuple elts kk tpos) (.Call (.Name "zip" p) [e, e2] [] pos) (ds.zipWith (fun a b => .tup [a, b]) es) μ1 := by
  refine ⟨fun pins s σ H Rk I ⟨F, A, R0, k⟩ => ?_⟩
  refine Call_ (ld_blt I hg hm PyProof.Rows.boot_zip (PyProof.Rows.callWith_type1 (thn (ha.run pos pins s σ H (fun vs H' => ∃ F' A', Same F F' ∧ A <+: A' ∧ Rl N F' A' H' σ δ μ1 ∧ RepSs N.K F' A' vs [.p d1, .p d2]) I ⟨F, A, R0, fun vs F' A' H' h1 h2 h3 h4 => ⟨F', A', h1, h2, h3, h4⟩⟩) fun us s1 ⟨vs, H1, I1, r1, F1, A1, e1, p1, R1, rv⟩ => ?_) hs hpl))
  obtain ⟨v, u, rfl, rp1, rp2⟩ := two_of rv
  have hK := g.hK
  rw [hK] at rp1 rp2
  cases r1 with
  | cons ru1 rr =>
    cases rr with
    | cons ru2 rr =>
      cases rr
      obtain ⟨o1, c1, m1, h1, q1⟩ := zsrc_here z1 I1 R1.rc.sub (show Rep X.K F1 v d1 from rp1) ru1
      obtain ⟨o2, c2, m2, h2, q2⟩ := zsrc_here z2 I1 R1.rc.sub (show Rep X.K F1 u d2 from rp2) ru2
      refine call_zipG m1 m2 h1 h2 fun h' hz hTI hTO f1 f2 hsz hk => wpAny_pyIter_zip hz ?_
      have I2 : Inv X pins σ H1 { s1 with heap := h' } := I1.kept (t' := s1.toks) hk
      obtain ⟨st1, S1, b1⟩ := q1 s1.heap.objs.size
      obtain ⟨st2, S2, b2⟩ := q2 (s1.heap.objs.size + 1)
      have g1 := f1 m1.nf
      have g2 := f2 m2.nf
      have st10 := b1 h' g1
      have st20 := b2 h' g2
      have T := turn_zipG (P := X.prog) (w := X.w) (K := X.K) (F := F1) (ds := ds) (es := es) (elts := elts) (kk := kk) (tpos := tpos) (z := s1.heap.objs.size + 4) (TI := s1.heap.objs.size + 2) (TO := s1.heap.objs.size + 3) (i1 := s1.heap.objs.size) (i2 := s1.heap.objs.size + 1)
        (nn (by decide)) (nn (by decide)) (n0 (by decide)) (nn (by decide)) (nn (by decide)) (n0 (by decide)).symm (nn (by decide)) (n0 (by decide)).symm (nn (by decide)) (n0 (by decide)) S1 S2
      refine ⟨s1.heap.objs.size + 4, [s1.heap.objs.size + 4, s1.heap.objs.size + 2, s1.heap.objs.size + 3, s1.heap.objs.size, s1.heap.objs.size + 1], _, _, H1, rfl, I2, T, ⟨hz, hTI, ⟨_, _, hTO⟩, st10, st20⟩, fun c hcm => ?_, ?_⟩
      · have e' : c = s1.heap.objs.size + 4 ∨ c = s1.heap.objs.size + 2 ∨ c = s1.heap.objs.size + 3 ∨ c = s1.heap.objs.size ∨ c = s1.heap.objs.size + 1 := by simpa using hcm
        have hle : s1.heap.objs.size ≤ c := by
          rcases e' with z | z | z | z | z
          · rw [z]; exact Nat.le_add_right _ _
          · rw [z]; exact Nat.le_add_right _ _
          · rw [z]; exact Nat.le_add_right _ _
          · rw [z]; exact Nat.le_refl _
          · rw [z]; exact Nat.le_add_right _ _
        exact I1.fpOk hle (I1.hok.fresh hle)
      · have y := yl_zip (K := X.K) (F := F1) (ds := ds) (es := es)
        rw [← hK] at y ⊢
        exact k _ F1 A1 H1 e1 p1 R1 y
end
end Dl

set_option Elab.async false
set_option linter.all false
set_option maxRecDepth 100000
set_option maxHeartbeats 4000000
set_option autoImplicit false
namespace Dl
open PySem PySem.Spec PyProof.Rows L2
/-! ## isinstance -/
structure ClsI (K : PySem.W.Frag) (C : Addr) : Prop where
  cl : Cls K C
  ha : PySem.W.findIn K (.ref C) "__class__" = some (some (.builtin "object.__class__"))
  hn : PySem.W.specialIn K (.builtin "object.__class__") "__get__" = some (some (.builtin "getset_descriptor.__get__"))
  ht : PySem.W.takesIn K (.builtin "object.__class__") = some true
  hm : PySem.W.mroIn K C (.type "object") = some true
inductive TyI (K : PySem.W.Frag) : D → Value → Prop
  | non : TyI K .non (.type "NoneType")
  | bl (b) : TyI K (.bl b) (.type "bool")
  | int (i) : TyI K (.int i) (.type "int")
  | str (z) : TyI K (.str z) (.type "str")
  | tup (ds) : TyI K (.tup ds) (.type "tuple")
  | lst (ds) : TyI K (.lst ds) (.type "list")
  | dic (ks ds) : TyI K (.dic ks ds) (.type "dict")
  | ins (C ns ds) : ClsI K C → TyI K (.ins C ns ds) (.ref C)
inductive ClsD : D → Value → Prop
  | ty (n) : ClsD (.ty n) (.type n)
  | adr (C) : ClsD (.adr C) (.ref C)
theorem tyX_of {K : PySem.W.Frag} {F H : Hp} {v : V} {d : D} {t : Value} (sm : Same F H) (ty : TyI K d t) (rp : Rep K F v d) : TyX K H v t := by
  cases ty with
  | non => cases rp; exact .base .non
  | bl b => cases rp; exact .base (.bl b)
  | int b => cases rp; exact .base (.int b)
  | str b => cases rp; exact .base (.str b)
  | tup ds =>
    obtain ⟨a, vs, rfl, h1, _⟩ := rep_tup rp
    rcases same_sqT sm h1 with (h | ⟨o, h⟩) | ⟨o, its, n, hk, hc, _⟩
    · exact .base (.tup h)
    · exact .fTuple h
    · exact .kTuple hk hc
  | lst ds =>
    obtain ⟨a, vs, rfl, h1, _⟩ := rep_lst rp
    exact .base (.lst (sm _ _ h1))
  | dic ks ds =>
    generalize hd : D.dic ks ds = d' at rp
    cases rp with
    | dic h1 h2 => exact .base (.dK (sm _ _ h1))
    | _ => cases hd
  | ins C ns ds c =>
    obtain ⟨a, dx, fs, rfl, h1, _⟩ := rep_ins rp
    exact .base (.ins (sm _ _ h1) c.cl c.ha c.hn c.ht c.hm)
section
variable {X : Cx} {N : En} {W : WX} {n : Nat} {δ δ' δ1 δ2 : List (Option S)} {μ μ' μ1 μ2 μ3 : List M} {e a b c o : Expr} {es : List Expr} {ss : List S} {pos p apos : Pos} {d : D} {s s1 s2 : S} {r : Rx} {R : Rel} {k : Nat} {x m f : Str} {dd : List D} {C : Addr}
theorem c_isi (g : Go X N W n) {d c : D} {t u : Value} {q : Bool} (ty : TyI X.K d t) (cl : ClsD c u) (h : PySem.W.kitOne X.K t u = some q) : CallOk X N W (.builtin "isinstance") μ [.p d, .p c] (.v (.p (.bl q))) μ :=
  ⟨_, call_isi, fun σ δ F A H vs Q R rv k => by
    obtain ⟨v, w, rfl, h1, h2⟩ := two_of rv
    have hK := g.hK
    have h1' : Rep X.K F v d := by rw [← hK]; exact h1
    have h2' : Rep X.K F w c := by rw [← hK]; exact h2
    refine ⟨v, w, t, u, q, rfl, ?_, tyX_of R.rc.sub ty h1', h, k.here R (.bl _)⟩
    cases cl with
    | ty n => cases h2'; exact .ty n
    | adr C => cases h2'; exact .own C⟩
/-- a builtin type by its name -/
theorem de_ty {x : Str} {T : String} (hm : X.mg x = none) (hv : bootBuiltins x = some (.type T)) (hg : Gl X x := by rfl) (hn : x ≠ "__name__" := by decide) (hd : (x == ("__debug__" : Str)) = false := by decide) : DE X N W δ μ (.Name x pos) (.v (.p (.ty T))) μ :=
  de_c (pe_bltn (v := .ty T) hg hm hv rfl hn hd) fun _ _ => .ty T
/-! ## chains -/
theorem de_chn {op op' : CmpOp} {s3 : S} {k k' : Bool} (ha : DE X N W δ μ a (.v s1) μ1) (hb : DE X N W δ μ1 b (.v s2) μ2) (h : OpOk X N W (compareOp op) μ2 s1 s2 (.v (.p (.bl k))) μ2)
    (hc : k = true → DE X N W δ μ2 c (.v s3) μ2) (h' : k = true → OpOk X N W (compareOp op') μ2 s2 s3 (.v (.p (.bl k'))) μ2) (hm : lastMarks [op, op'] [b, c] = false := by with_unfolding_all rfl) : DE X N W δ μ (.Compare a [op, op'] [b, c] pos) (.v (.p (.bl (k && k')))) μ2 := by
  obtain ⟨rr, ho, hr⟩ := h
  cases k with
  | false =>
    refine PE.imp (pe_chain (op' := op') (r' := fun _ _ _ _ => False) ho (fun _ _ _ _ _ _ _ _ _ _ _ _ z => z.elim) ha hb (pe_no (X := X) (e := c)) hm) fun σ H Q ⟨F, A, R, q⟩ => ⟨F, A, R, fun x F1 A1 H1 e1 p1 R1 rx => ⟨F1, A1, R1, fun y F2 A2 H2 e2 p2 R2 ry => hr σ δ F2 A2 H2 x y _ R2 (rx.mono e2 p2) ry fun v F3 A3 H3 e3 p3 R3 rv => ?_⟩⟩
    have rv' : Rep N.K F3 v (.bl false) := rv
    cases rv'
    exact ⟨false, rfl, iteF (q _ F3 A3 H3 ((e1.trans e2).trans e3) ((p1.trans p2).trans p3) R3 (.bl _))⟩
  | true =>
    obtain ⟨rr', ho', hr'⟩ := h' rfl
    refine PE.imp (pe_chain ho ho' ha hb (hc rfl) hm) fun σ H Q ⟨F, A, R, q⟩ => ⟨F, A, R, fun x F1 A1 H1 e1 p1 R1 rx => ⟨F1, A1, R1, fun y F2 A2 H2 e2 p2 R2 ry => hr σ δ F2 A2 H2 x y _ R2 (rx.mono e2 p2) ry fun v F3 A3 H3 e3 p3 R3 rv => ?_⟩⟩
    have rv' : Rep N.K F3 v (.bl true) := rv
    cases rv'
    exact ⟨true, rfl, iteT ⟨F3, A3, R3, fun z F4 A4 H4 e4 p4 R4 rz => hr' σ δ F4 A4 H4 y z Q R4 ((ry.mono e3 p3).mono e4 p4) rz (EndE.to (((e1.trans e2).trans e3).trans e4) (((p1.trans p2).trans p3).trans p4) q)⟩⟩
theorem dt_chn {op op' : CmpOp} {s3 : S} {k k' : Bool} (ha : DE X N W δ μ a (.v s1) μ1) (hb : DE X N W δ μ1 b (.v s2) μ2) (h : OpOk X N W (compareOp op) μ2 s1 s2 (.v (.p (.bl k))) μ2)
    (hc : k = true → DE X N W δ μ2 c (.v s3) μ2) (h' : k = true → OpOk X N W (compareOp op') μ2 s2 s3 (.v (.p (.bl k'))) μ2) (hm : lastMarks [op, op'] [b, c] = false := by with_unfolding_all rfl) : DT X N W δ μ (.Compare a [op, op'] [b, c] pos) (k && k') μ2 := by
  obtain ⟨rr, ho, hr⟩ := h
  cases k with
  | false =>
    refine PT.imp (pt_chain (op' := op') (r' := fun _ _ _ _ => False) ho (fun _ _ _ _ _ _ _ _ _ _ _ _ z => z.elim) ha hb (pe_no (X := X) (e := c)) hm) fun σ H Q ⟨F, A, R, q⟩ => ⟨F, A, R, fun x F1 A1 H1 e1 p1 R1 rx => ⟨F1, A1, R1, fun y F2 A2 H2 e2 p2 R2 ry => hr σ δ F2 A2 H2 x y _ R2 (rx.mono e2 p2) ry fun v F3 A3 H3 e3 p3 R3 rv => ?_⟩⟩
    have rv' : Rep N.K F3 v (.bl false) := rv
    cases rv'
    exact ⟨false, rfl, iteF ⟨false, rfl, q F3 A3 H3 ((e1.trans e2).trans e3) ((p1.trans p2).trans p3) R3⟩⟩
  | true =>
    obtain ⟨rr', ho', hr'⟩ := h' rfl
    refine PT.imp (pt_chain ho ho' ha hb (hc rfl) hm) fun σ H Q ⟨F, A, R, q⟩ => ⟨F, A, R, fun x F1 A1 H1 e1 p1 R1 rx => ⟨F1, A1, R1, fun y F2 A2 H2 e2 p2 R2 ry => hr σ δ F2 A2 H2 x y _ R2 (rx.mono e2 p2) ry fun v F3 A3 H3 e3 p3 R3 rv => ?_⟩⟩
    have rv' : Rep N.K F3 v (.bl true) := rv
    cases rv'
    exact ⟨true, rfl, iteT ⟨F3, A3, R3, fun z F4 A4 H4 e4 p4 R4 rz => hr' σ δ F4 A4 H4 y z _ R4 ((ry.mono e3 p3).mono e4 p4) rz (EndE.bool fun F' A' H' e' p' R' => q F' A' H' ((((e1.trans e2).trans e3).trans e4).trans e') ((((p1.trans p2).trans p3).trans p4).trans p') R')⟩⟩
/-! ## written dicts with text keys -/
theorem i_kd {es : Array DictEntry} {m : Nat} {z : Str} {a : Addr} {u : Value} (Dk : KDict X.K X.w a es m) (h : PySem.W.nsIn X.K a z = some (some u)) {v : V} (ru : RelV v u) (rp : ∀ K F, Rep K F v d) : OpOk X N W getItem μ (.p (.adr a)) (.p (.str z)) (.v (.p d)) μ :=
  ⟨_, op_item_kd Dk, fun σ δ F A H x y Q R rx ry k => ⟨z, u, v, rs_adr rx, rs_str ry, h, ru, k.here R (rp _ _)⟩⟩
theorem de_kdIx {es : Array DictEntry} {m : Nat} {z : Str} {ad : Addr} {u : Value} (Dk : KDict X.K X.w ad es m) (ha : DE X N W δ μ a (.v (.p (.adr ad))) μ1) (hb : DE X N W δ μ1 b (.v (.p (.str z))) μ2) (h : PySem.W.nsIn X.K ad z = some (some u)) {v : V} (ru : RelV v u) (rp : ∀ K F, Rep K F v d) (hs : PlainIx b := by exact fun _ _ => rfl) :
    DE X N W δ μ (.Subscript a b pos) (.v (.p d)) μ2 := by
  refine ⟨fun pins s σ H Q I ⟨F, A, R0, q⟩ => ?_⟩
  refine Subscript_ (two_then ha hb I R0 (fn := fun v u => subscriptTail a b v u) fun v' u' s3 x y H2 F2 A2 I2 rx ry e2 p2 R2 h1 h2 => ?_)
  cases rs_adr h1
  cases rs_str h2
  cases rx
  obtain ⟨t, rfl⟩ := ry
  refine tail_any (kd_type Dk I2) PySem.F.slot_dict_getitem.lookup (op_item_kd Dk pins s3 σ H2 (.ref ad) (.str z) (.ref ad) (.str z t) Q I2 rfl ⟨t, rfl⟩ ⟨z, u, v, rfl, rfl, h, ru, q v F2 A2 H2 e2 p2 R2 (rp _ _)⟩) (by first | exact hs _ _ | with_unfolding_all rfl)
theorem de_kdGet {es : Array DictEntry} {m : Nat} {z : Str} {ad : Addr} {dflt : D} {u : Option Value} {e1 e2 : Expr} (Dk : KDict X.K X.w ad es m) (ho : DE X N W δ μ o (.v (.p (.adr ad))) μ1) (h1 : DE X N W δ μ1 e1 (.v (.p (.str z))) μ2) (h2 : DE X N W δ μ2 e2 (.v (.p dflt)) μ3) (h : PySem.W.nsIn X.K ad z = some u)
    (hd : match u with | some u => ∃ v, RelV v u ∧ ∀ K F, Rep K F v d | none => d = dflt) (mm : M2 X o "get" apos e1 e2 pos) : DE X N W δ μ (.Call (.Attribute o "get" apos) [e1, e2] [] pos) (.v (.p d)) μ3 := by
  refine ⟨fun pins s σ H Q I ⟨F, A, R0, q⟩ => ?_⟩
  refine wpAny_Call_method mm.base mm.few mm.line PySem.F.plainAttrs_dict PySem.F.slot_dict_get PySem.F.type_dict_get (thn (ho.run pins s σ H (fun v H' => ∃ F' A', Same F F' ∧ A <+: A' ∧ Rl N F' A' H' σ δ μ1 ∧ RepS N.K F' A' v (.p (.adr ad))) I ⟨F, A, R0, fun v F' A' H' h1 h2 h3 h4 => ⟨F', A', h1, h2, h3, h4⟩⟩) fun uo s1 ⟨x, H1, I1, rx, F1, A1, e1', p1', R1, h4⟩ => ?_)
  cases rs_adr h4
  obtain rfl : uo = Value.ref ad := rx
  refine ⟨kd_type Dk I1, fun b q => ?_, ?_⟩
  · cases q
    exact ⟨_, I1.kIn _ _ Dk.at_, rfl⟩
  rw [mm.trees]
  refine Calls.callWith_builtin rfl (Calls.evalArgs_plain (Calls.spliced_cons (thn (h1.run pins s1 σ H1 (fun v H' => ∃ F' A', Same F1 F' ∧ A1 <+: A' ∧ Rl N F' A' H' σ δ μ2 ∧ RepS N.K F' A' v (.p (.str z))) I1 ⟨F1, A1, R1, fun v F' A' H' h1 h2 h3 h4 => ⟨F', A', h1, h2, h3, h4⟩⟩) fun iv s2 ⟨y, H2, I2, ry, F2, A2, e2', p2', R2, h5⟩ =>
    Calls.spliced_cons (thn (h2.run pins s2 σ H2 (fun v H' => ∃ F' A', Same F2 F' ∧ A2 <+: A' ∧ Rl N F' A' H' σ δ μ3 ∧ RepS N.K F' A' v (.p dflt)) I2 ⟨F2, A2, R2, fun v F' A' H' h1 h2 h3 h4 => ⟨F', A', h1, h2, h3, h4⟩⟩) fun fv s3 ⟨w, H3, I3, rw', F3, A3, e3', p3', R3, h6⟩ => Calls.spliced_nil ?_))))
  cases rs_str h5
  obtain ⟨t, rfl⟩ := ry
  have mo := PySem.W.mapOf_K (prog := X.prog) (w := X.w) I3.kIn Dk.at_ Dk.lit
  refine call_meetsIn PySem.F.slot_dict_get (kd_type Dk I3) PySem.F.entry_dict_get (PySem.F.args_dict_get_3 _ _ _) (meets_dict_get_default (PySem.strKind X.prog X.w) ad (PySem.strKind_is X.prog X.w z t) Dk.low fv) ⟨_, mo, ?_⟩
  rw [PySem.W.find_K Dk.at_ h]
  cases u with
  | some u0 =>
    obtain ⟨v0, r0, rp⟩ := hd
    exact ⟨v0, H3, I3.tok _, r0, q v0 F3 A3 H3 ((e1'.trans e2').trans e3') ((p1'.trans p2').trans p3') R3 (rp _ _)⟩
  | none =>
    have hd' : d = dflt := hd
    subst hd'
    exact ⟨w, H3, I3.tok _, rw', q w F3 A3 H3 ((e1'.trans e2').trans e3') ((p1'.trans p2').trans p3') R3 h6⟩
end
end Dl

set_option Elab.async false
set_option linter.all false
set_option maxRecDepth 100000
set_option maxHeartbeats 4000000
set_option autoImplicit false
namespace Dl
open PySem PySem.Spec PyProof.Rows L2
/-! ## own errors that keep their only argument -/
/-- what __init__ of such a class does with an exception that is being made -/
def spErr (K : PySem.W.Frag) : Sp := fun vs H Q _ => ∃ (a C : Addr) (y : V), vs = [.ref a, y] ∧ OexC K C ∧ PySem.W.findIn K (.ref C) "value" = some none ∧ H a = some (exo a C none) ∧
  ∀ dx, H dx = none → dx ≠ a → Q .non (upd (upd H dx (exd dx [("value", y)])) a (exo a C (some dx)))
/-- an own error class of the text, by its name -/
structure Ce (P : Program) (w : World) (K : PySem.W.Frag) (mg : Str → Option Value) (base : Heap) (k : Nat) (C : Addr) (x : Str) : Prop where
  at_ : mg x = some (.ref C)
  oc : OexC K C
  nv : PySem.W.findIn K (.ref C) "value" = some none
  ex : ∃ (f : Addr) (fd : FuncData) (ps : List Str), FnOk P w K mg base (L2.CX P w) k f fd ps (spErr K) ∧ PySem.W.findIn K (.ref C) "__init__" = some (some (.ref f)) ∧ PySem.W.typeIn K (.ref f) = some (.type "function") ∧ Binds K fd ps []
section
variable {X : Cx} {N : En} {W : WX} {n : Nat} {δ δ' δ1 δ2 : List (Option S)} {μ μ' μ1 μ2 μ3 : List M} {e a b c o : Expr} {es : List Expr} {ss : List S} {pos p apos : Pos} {d : D} {s s1 s2 : S} {r : Rx} {R : Rel} {k : Nat} {x m f : Str} {dd : List D} {C : Addr}
theorem ds_raise (g : Go X N W n) (ce : Ce X.prog X.w X.K X.mg X.base k C x) (ha : DE X N W δ μ e (.v (.p d)) μ1) (hk : k + 1 ≤ n := by decide) (hg : Gl X x := by rfl) (hdb : (x == ("__debug__" : Str)) = false := by decide) (hs : starEach (e :: []) X.env = (false, eval e X.env) :: starEach [] X.env := by rfl) (hpl : (backTo p (starEach [] X.env)).any (·.1) = false := by rfl) :
    DS X N W δ μ (.Raise (some (.Call (.Name x apos) [e] [] p)) none pos) (.xx C d δ μ1) := by
  obtain ⟨f, fd, ps, Fo, hi, ht, hb⟩ := ce.ex
  have hx : Passes (L2.CX X.prog X.w) X (fun _ _ _ => False) := fun _ _ _ _ _ _ _ c => by
    obtain ⟨_, _, _, _, _, _, _, _, _, _, _, _, z⟩ := c
    exact z.elim
  refine PS.imp (ps_raise g.calm g.tk (pmk_oex ce.oc hi ht Fo (g.room.mono hk) hb .nil hx hg ce.at_ (da_cons ha da_nil hs) hdb hs hpl)) fun K σ H ⟨F, A, R0, q⟩ => ?_
  refine ⟨F, A, R0, fun vs F1 A1 H1 e1 p1 R1 rv => ?_⟩
  obtain ⟨v, rfl, rp⟩ := one_of rv
  refine ⟨by show 1 ≤ 1000; decide, fun a na => ?_⟩
  refine ⟨a, C, v, rfl, ce.oc, ce.nv, upd_same, fun dx ndx ne => ⟨rfl, dx, [("value", v)], upd_same, ?_, ?_, ?_⟩⟩
  · rw [upd_ne ne, upd_same]
  · rw [upd_ne ne] at ndx; exact ndx
  · have ndx' : H1 dx = none := by rw [upd_ne ne] at ndx; exact ndx
    have e : upd (del (upd (upd (upd H1 a (exo a C none)) dx (exd dx [("value", v)])) a (exo a C (some dx))) a) dx (.xd [("value", v)]) = upd H1 dx (.xd [("value", v)]) := by
      funext b
      by_cases hb : b = dx
      · subst hb; rw [upd_same, upd_same]
      · rw [upd_ne hb, upd_ne hb]
        by_cases ha : b = a
        · subst ha; rw [del_same]; exact na.symm
        · rw [del_ne ha, upd_ne ha, upd_ne hb, upd_ne ha]
    rw [e]
    have sm := same_updN (o := .xd [("value", v)]) (R1.rc.fresh ndx').2.1
    exact q σ dx v _ A1 _ (e1.trans sm) p1 (R1.to sm (List.prefix_refl _) (R1.rc.frozen ndx' _)) upd_same (Rep.mono sm rp)
/-! ## statements with an expression that raises -/
theorem ds_retX (h : DE X N W δ μ e (.x C d) μ1) : DS X N W δ μ (.Return (some e) pos) (.xx C d δ μ1) :=
  PS.imp (ps_ret h) fun K σ H ⟨F, A, R, k⟩ => ⟨F, A, R, fun dx v F' A' H' e p R' h1 h2 => k σ dx v F' A' H' e p R' h1 h2⟩
theorem ds_exprX (h : DE X N W δ μ e (.x C d) μ1) (hs : swapsWith e none pos.line X.env = pure false := by rfl) : DS X N W δ μ (.Expr e pos) (.xx C d δ μ1) :=
  PS.imp (ps_expr h hs) fun K σ H ⟨F, A, R, k⟩ => ⟨F, A, R, fun dx v F' A' H' e p R' h1 h2 => k σ dx v F' A' H' e p R' h1 h2⟩
theorem ds_setX (i : Nat) {x : Str} {pos' : Pos} (h : DE X N W δ μ e (.x C d) μ1) (hN : X.N.Nodup) (hi : X.N[i]? = some x := by rfl) (hx : Loc X.env.scope x := by first | exact Or.inl rfl | exact Or.inr rfl) (hs : swapsWith e (some (.Name x pos')) pos.line X.env = pure false := by rfl)
    (hf : X.fn x = true ∨ X.env.scope.names.lookup x = some .local := by first | exact .inl rfl | exact .inr rfl) : DS X N W δ μ (.Assign [.Name x pos'] e pos) (.xx C d δ μ1) :=
  PS.imp (ps_set (i := i) hN hi hx h hs hf) fun K σ H ⟨F, A, R, k⟩ => ⟨F, A, R, fun dx v F' A' H' e p R' h1 h2 => k σ dx v F' A' H' e p R' h1 h2⟩
/-- if e: .. where e raises -/
theorem ds_ifX {A B : List Stmt} (h : DE X N W δ μ c (.x C d) μ1) (he : ∀ whole, isTrue c X.env whole = (do let v ← whole; standAt c.pos; holding [v] (truthy v)) := by intro _; rfl) : DS X N W δ μ (.If c A B pos) (.xx C d δ μ1) :=
  PS.imp (ps_if (pt_val h he) pss_no pss_no) fun K σ H ⟨F, A, R, k⟩ => ⟨F, A, R, fun dx v F' A' H' e p R' h1 h2 => k σ dx v F' A' H' e p R' h1 h2⟩
/-! ## lists that change, by their methods -/
theorem m_append {j : Nat} {ds : List D} (hj : μ[j]? = some (.lst ds)) (hj0 : μ1[j]? = some (.lst ds)) (hl : ds.length < sizeLine) : MtOk X N W "list" "list.append" μ μ1 (.l j) [.p d] (.v (.p .non)) (μ1.set j (.lst (ds ++ [d]))) :=
  ⟨_, mt_append, fun σ δ F A H x R rx => by
    obtain ⟨a, rfl, ha⟩ := rx
    obtain ⟨ws, h1, h2⟩ := R.rc.mus j a _ ha hj
    exact .inl ⟨rfl, ws, SqL.of h1⟩, fun σ δ F A H x vs Q R rx rv k => by
    obtain ⟨v, rfl, h⟩ := one_of rv
    obtain ⟨a, rfl, ha⟩ := rx
    obtain ⟨ws, h1, h2⟩ := R.rc.mus j a _ ha hj0
    refine ⟨a, ws, v, rfl, rfl, h1, by rw [h2.length]; exact hl, ?_⟩
    exact k .non F A _ (Same.refl _) (List.prefix_refl _) (R.to (Same.refl _) (List.prefix_refl _) (R.rc.write ha hj0 trivial ⟨_, upd_same, h2.snoc h⟩)) .non⟩
theorem m_extend {j : Nat} {ds es : List D} (hj : μ[j]? = some (.lst ds)) (hj0 : μ1[j]? = some (.lst ds)) (hl : ds.length + es.length ≤ sizeLine) : MtOk X N W "list" "list.extend" μ μ1 (.l j) [.p (.lst es)] (.v (.p .non)) (μ1.set j (.lst (ds ++ es))) :=
  ⟨_, mt_extend, fun σ δ F A H x R rx => by
    obtain ⟨a, rfl, ha⟩ := rx
    obtain ⟨ws, h1, h2⟩ := R.rc.mus j a _ ha hj
    exact .inl ⟨rfl, ws, SqL.of h1⟩, fun σ δ F A H x vs Q R rx rv k => by
    obtain ⟨v, rfl, h⟩ := one_of rv
    obtain ⟨a, rfl, ha⟩ := rx
    obtain ⟨ws, h1, h2⟩ := R.rc.mus j a _ ha hj0
    obtain ⟨b, us, rfl, h3, h4⟩ := rep_lst h
    refine ⟨a, b, ws, us, rfl, rfl, h1, R.rc.sub _ _ h3, by rw [h2.length, h4.length]; exact hl, ?_⟩
    exact k .non F A _ (Same.refl _) (List.prefix_refl _) (R.to (Same.refl _) (List.prefix_refl _) (R.rc.write ha hj0 trivial ⟨_, upd_same, h2.append h4⟩)) .non⟩
theorem Reps.eraseIdx {K : PySem.W.Frag} {F : Hp} : ∀ {vs : List V} {ds : List D} (i : Nat), Reps K F vs ds → Reps K F (vs.eraseIdx i) (ds.eraseIdx i)
  | _, _, _, .nil => .nil
  | _, _, 0, .cons _ t => t
  | _, _, i + 1, .cons r t => .cons r (Reps.eraseIdx i t)
theorem m_popAt {j : Nat} {ds : List D} {i : Int} {q : Nat} (hj : μ[j]? = some (.lst ds)) (hj0 : μ1[j]? = some (.lst ds)) (hi : -(2 ^ 63) ≤ i ∧ i < 2 ^ 63) (hq : seqIndex? i ds.length = some q) (hd : ds[q]? = some d) : MtOk X N W "list" "list.pop" μ μ1 (.l j) [.p (.int i)] (.v (.p d)) (μ1.set j (.lst (ds.eraseIdx q))) :=
  ⟨_, mt_popAt, fun σ δ F A H x R rx => by
    obtain ⟨a, rfl, ha⟩ := rx
    obtain ⟨ws, h1, h2⟩ := R.rc.mus j a _ ha hj
    exact .inl ⟨rfl, ws, SqL.of h1⟩, fun σ δ F A H x vs Q R rx rv k => by
    obtain ⟨v, rfl, h⟩ := one_of rv
    obtain ⟨a, rfl, ha⟩ := rx
    obtain ⟨ws, h1, h2⟩ := R.rc.mus j a _ ha hj0
    obtain ⟨y, h3, h4⟩ := h2.get hd
    refine ⟨a, ws, i, q, y, rfl, by rw [rs_int h], h1, hi.1, hi.2, by rw [h2.length]; exact hq, h3, ?_⟩
    exact k y F A _ (Same.refl _) (List.prefix_refl _) (R.to (Same.refl _) (List.prefix_refl _) (R.rc.write ha hj0 trivial ⟨_, upd_same, h2.eraseIdx q⟩)) h4⟩
/-! ## lists and tuples put together -/
theorem o_catL {ds es : List D} (hl : ds.length + es.length ≤ sizeLine) : OpOk X N W (binaryOp .Add) μ (.p (.lst ds)) (.p (.lst es)) (.v (.p (.lst (ds ++ es)))) μ :=
  ⟨_, op_cat, fun σ δ F A H x y Q R rx ry k => by
    obtain ⟨a, ws, rfl, h1, h2⟩ := rep_lst rx
    obtain ⟨b, us, rfl, h3, h4⟩ := rep_lst ry
    refine ⟨a, b, ws, us, rfl, rfl, R.rc.sub _ _ h1, R.rc.sub _ _ h3, by rw [h2.length, h4.length]; exact hl, fun p np => ?_⟩
    have sm := same_updN (o := .lst (ws ++ us)) (R.rc.fresh np).2.1
    exact k (.ref p) _ A _ sm (List.prefix_refl _) (R.to sm (List.prefix_refl _) (R.rc.frozen np _)) (.lst upd_same ((h2.append h4).mono sm))⟩
theorem o_catM {j : Nat} {ds es : List D} (hj : μ[j]? = some (.lst ds)) (hl : ds.length + es.length ≤ sizeLine) : OpOk X N W (binaryOp .Add) μ (.l j) (.p (.lst es)) (.v (.p (.lst (ds ++ es)))) μ :=
  ⟨_, op_cat, fun σ δ F A H x y Q R rx ry k => by
    obtain ⟨a, rfl, ha⟩ := rx
    obtain ⟨ws, h1, h2⟩ := R.rc.mus j a _ ha hj
    obtain ⟨b, us, rfl, h3, h4⟩ := rep_lst ry
    refine ⟨a, b, ws, us, rfl, rfl, h1, R.rc.sub _ _ h3, by rw [h2.length, h4.length]; exact hl, fun p np => ?_⟩
    have sm := same_updN (o := .lst (ws ++ us)) (R.rc.fresh np).2.1
    exact k (.ref p) _ A _ sm (List.prefix_refl _) (R.to sm (List.prefix_refl _) (R.rc.frozen np _)) (.lst upd_same ((h2.append h4).mono sm))⟩
theorem o_repL {ds : List D} {i : Int} (hi : -(2 ^ 63) ≤ i ∧ i < 2 ^ 63) (hl : ds.length * i.toNat ≤ sizeLine) : True := trivial
/-- a list is frozen from here on -/
theorem dss_freeze {j : Nat} {ds : List D} {rest : List Stmt} {o : Os} (hj : μ[j]? = some (.lst ds)) (hA : N.A0.length ≤ j) (i : Nat) (hi : δ[i]? = some (some (.l j))) (h : DSs X N W (δ.set i (some (.p (.lst ds)))) (μ.set j .gone) rest o) : DSs X N W δ μ rest o :=
  PSs.imp h fun K σ H ⟨F, A, R, k⟩ => by
    obtain ⟨v, hv, a, rfl, ha⟩ := R.sl i _ hi
    obtain ⟨ws, h1, h2⟩ := R.rc.mus j a _ ha hj
    obtain ⟨r1, sm⟩ := R.rc.freeze ha hj trivial hA h1
    refine ⟨_, A, ⟨r1, by simp [R.len], fun i' s' e => ?_⟩, k.to sm (List.prefix_refl _)⟩
    by_cases hi' : i' = i
    · subst hi'
      have hl : i' < δ.length := (List.getElem?_eq_some_iff.mp hi).1
      rw [List.getElem?_set_self hl] at e
      cases e
      exact ⟨.ref a, hv, .lst upd_same (h2.mono sm)⟩
    · rw [List.getElem?_set_ne (Ne.symm hi')] at e
      obtain ⟨w, h3, h4⟩ := R.sl i' s' e
      exact ⟨w, h3, h4.mono sm (List.prefix_refl _)⟩
end
/-! ## the one __init__ -/
theorem fn_err {P : Program} {w : World} {K : PySem.W.Frag} {mg : Str → Option Value} {base : Heap} {st : Stmt} {f : Addr} {fd : FuncData} {x qual : Str} {p1 p2 p3 p4 : Pos} (F : Fun K x qual st f fd) (Sc : FnScope ["self", "value"] ["self", "value"] (defScope st))
    (hb : defBody st = [.Assign [.Attribute (.Name "self" p1) "value" p2] (.Name "value" p3) p4]) (hv1 : (defScope st).names.lookup ("self" : Str) = some NameKind.local) (hv2 : (defScope st).names.lookup ("value" : Str) = some NameKind.local) : FnOk P w K mg base (L2.CX P w) 1 f fd ["self", "value"] (spErr K) := by
  refine F.okX Sc (fun vs H Q E h => ?_) (fun cdv A outer s H vs Q E hr h => ?_)
  · obtain ⟨a, C, y, rfl, _⟩ := h
    rfl
  · obtain ⟨a, C, y, rfl, hC, hn, ha, k⟩ := h
    rw [hb]
    refine ⟨_, pss_one (ps_ost (pv 0 rfl (.inl hv1)) (pv 1 rfl (.inl hv2))), y, rfl, .ref a, rfl, a, C, rfl, hC, hn, .inl ⟨ha, fun dx ndx ne => k dx ndx ne⟩⟩
end Dl

set_option Elab.async false
set_option linter.all false
set_option maxRecDepth 100000
set_option maxHeartbeats 4000000
set_option autoImplicit false
namespace Dl
open PySem PySem.Spec PyProof.Rows L2
/-! ## len of own objects; a text n times; list(range(n)) -/
section
variable {X : Cx} {N : En} {W : WX} {n : Nat} {δ δ' δ1 δ2 : List (Option S)} {μ μ' μ1 μ2 μ3 : List M} {e a b c o : Expr} {es : List Expr} {ss : List S} {pos p apos : Pos} {d : D} {s s1 s2 : S} {r : Rx} {R : Rel} {k : Nat} {x m f : Str} {dd : List D} {C : Addr}
theorem c_lenOwn {ns : List Str} {d1 : List D} {q : Int} (g : Go X N W n) (cm : Cm X.prog X.w X.K X.mg X.base k C "__len__" [] R) (hR : R [.p (.ins C ns d1)] μ (.v (.p (.int q))) μ') (hq : 0 ≤ q ∧ q < 2 ^ 63) (hk : k + 1 ≤ n := by decide) : CallOk X N W (.builtin "len") μ [.p (.ins C ns d1)] (.v (.p (.int q))) μ' := by
  obtain ⟨f, fd, ps, ds, dvs, Fo, hme, hb, hd, rd⟩ := cm.ex
  refine ⟨fun xs H Q => ∃ a dx fs, xs = [.ref a] ∧ H a = some (.ins C dx fs) ∧ spD X.K R (xs ++ dvs) H (fun v H' => v = .int q ∧ Q (.int q) H') (fun _ _ _ => False), fun pins s σ H xs us Q I r ⟨a, dx, fs, e, ha, h⟩ => ?_, fun σ δ F A H vs Q R0 rv k0 => ?_⟩
  · subst e
    cases r with
    | cons r1 r2 =>
      cases r2
      cases r1
      obtain ⟨od, J⟩ := inst_at I ha
      obtain ⟨m', Fr'⟩ := I.fr
      refine PySem.W.len_K Fr' I.mod.kin J hme.at_ hme.fn ?_
      have r2 : Vals ([V.ref a] ++ dvs) ([Value.ref a] ++ ds) := L2.Vals.append (show L2.Vals [V.ref a] [Value.ref a] from .cons rfl .nil) hd
      have hl : ([Value.ref a] ++ ds).length = ps.length := by rw [← r2.length]; exact Fo.len _ _ _ _ h
      refine wpAny_call (codeAny_mono (Fo.run X.A.in1 X.stack s H ⟨[.ref a], []⟩ ([.ref a] ++ ds) ([.ref a] ++ dvs) _ (WE W0 σ) (g.room.mono hk).in1 I.env0.in1 (hb s [.ref a] I.kIn hl) r2 h) fun r s' hq' => ?_)
      cases r with
      | error e => exact passAt (W := W0) takes00 σ pins H s e s' I hq'
      | ok fl =>
        cases fl with
        | ret u =>
          obtain ⟨v, H', I', rv, ev, q'⟩ := I.after hq'
          subst ev
          obtain ⟨t, rfl⟩ := rv
          exact ⟨hq, .int q, H', I'.tok _, ⟨_, rfl⟩, q'⟩
        | next => exact False.elim hq'
        | brk => exact False.elim hq'
        | cont => exact False.elim hq'
  · obtain ⟨v, rfl, h1⟩ := one_of rv
    have h1' : Rep N.K F v (.ins C ns d1) := h1
    obtain ⟨a, dx, fs, rfl, g1, g2, g3⟩ := rep_ins h1'
    refine ⟨a, dx, fs, rfl, R0.rc.sub _ _ g1, ?_⟩
    have hK := g.hK
    rw [← hK] at rd ⊢
    refine spD_in (N := N) (σ := σ) (δ := δ) (F := F) (A := A) (ss := [.p (.ins C ns d1)] ++ ([] : List D).map S.p) (r := .v (.p (.int q))) hR R0 (RepSs.append (.cons h1 .nil) (of_reps (rd F))) ?_
    intro v F' A' H' e' p' R' rv'
    have e2 : v = .int q := rs_int rv'
    subst e2
    exact ⟨rfl, k0 _ F' A' H' e' p' R' rv'⟩
theorem op_mulSn {c : Nat} : OpR X (binaryOp .Mult) (fun x y H Q => ∃ (k : Nat), x = .str ⟨#[c]⟩ ∧ y = .int (k : Int) ∧ 1 ≤ k ∧ k ≤ 4 ∧ Q (.str ⟨(List.replicate k c).toArray⟩) H) := by
  intro pins s σ H x y v u Q I rx ry h
  obtain ⟨k, rfl, rfl, h1, h2, q⟩ := h
  obtain ⟨t, rfl⟩ := rx
  obtain ⟨t', rfl⟩ := ry
  match k, h1, h2, q with
  | 1, _, _, q =>
    refine PySem.P.mul_str (by decide) (fun _ h => by simp at h) (fun _ h => by simp at h) ?_
    show (if (1 : Int) < 1 then _ else if ((1 : Int) == 1 || _ == 0) = true then _ else _ : Made).post _ _
    rw [if_neg (by decide), if_pos (by simp)]
    exact ⟨.str ⟨#[c]⟩, H, I, ⟨t, rfl⟩, q⟩
  | 2, _, _, q =>
    refine PySem.P.mul_str (by decide) (fun _ h => by show ¬ ((1 : Nat) : Int) > _; decide) (fun _ h => by with_unfolding_all rfl) ?_
    exact ⟨by show (2 : Nat) ≤ _; decide, .str _, H, I.tok _, ⟨_, rfl⟩, q⟩
  | 3, _, _, q =>
    refine PySem.P.mul_str (by decide) (fun _ h => by show ¬ ((1 : Nat) : Int) > _; decide) (fun _ h => by with_unfolding_all rfl) ?_
    exact ⟨by show (3 : Nat) ≤ _; decide, .str _, H, I.tok _, ⟨_, rfl⟩, q⟩
  | 4, _, _, q =>
    refine PySem.P.mul_str (by decide) (fun _ h => by show ¬ ((1 : Nat) : Int) > _; decide) (fun _ h => by with_unfolding_all rfl) ?_
    exact ⟨by show (4 : Nat) ≤ _; decide, .str _, H, I.tok _, ⟨_, rfl⟩, q⟩
theorem o_mulSn {c k : Nat} (h : 1 ≤ k ∧ k ≤ 4) : OpOk X N W (binaryOp .Mult) μ (.p (.str ⟨#[c]⟩)) (.p (.int (k : Int))) (.v (.p (.str ⟨(List.replicate k c).toArray⟩))) μ :=
  ⟨_, op_mulSn, fun σ δ F A H x y Q R rx ry q => ⟨k, rs_str rx, rs_int ry, h.1, h.2, q.here R (.str _)⟩⟩
theorem de_listRg {i : Int} {p2 pos2 : Pos} (g : Go X N W n) (ha : DE X N W δ μ a (.v (.p (.int i))) μ1) (hm : X.mg "list" = none) (hm2 : X.mg "range" = none) (hi : 0 ≤ i ∧ i ≤ 16777216) (hg : Gl X "list" := by rfl) (hg2 : Gl X "range" := by rfl)
    (hs : starEach [a] X.env = (false, eval a X.env) :: starEach [] X.env := by rfl) (hs2 : starEach [.Call (.Name "range" p2) [a] [] pos2] X.env = (false, eval (.Call (.Name "range" p2) [a] [] pos2) X.env) :: starEach [] X.env := by rfl) :
    DE X N W δ μ (.Call (.Name "list" p) [.Call (.Name "range" p2) [a] [] pos2] [] pos) (.v (.p (.lst (rangeD 0 i.toNat)))) μ1 :=
  PE.imp (pe_listRg g.calm hg hm (prg_1 hg2 hm2 ha hs) hs2) fun σ H Q ⟨F, A, R0, k⟩ => ⟨F, A, R0, fun x F1 A1 H1 e1 p1 R1 rx => by
    have ex : x = .int i := rs_int rx
    subst ex
    refine ⟨i, rfl, RgOk.of_le (by omega) (by omega) (by omega) (by omega), fun q nq => ?_⟩
    have sm := same_updN (o := .lst (rgV 0 i)) (R1.rc.fresh nq).2.1
    refine k (.ref q) _ A1 _ (e1.trans sm) p1 (R1.to sm (List.prefix_refl _) (R1.rc.frozen nq _)) (.lst upd_same (Reps.mono sm ?_))
    unfold rgV rangeD
    rw [Int.sub_zero]
    generalize List.range i.toNat = l
    induction l with
    | nil => exact .nil
    | cons y ys ih => exact .cons (.int _) ih⟩
end
end Dl


set_option Elab.async false
set_option linter.all false
set_option maxRecDepth 100000
set_option maxHeartbeats 4000000
set_option autoImplicit false
namespace Dl
open PySem PySem.Spec PyProof.Rows L2
section
variable {X : Cx} {N : En} {W : WX} {n : Nat} {δ δ' δ1 δ2 : List (Option S)} {μ μ' μ1 μ2 μ3 : List M} {e a b c o : Expr} {es : List Expr} {ss : List S} {pos p apos : Pos} {d d' : D} {s s1 s2 : S} {r r' : Rx} {R : Rel} {k k' : Bool} {x m f : Str} {dd : List D} {C : Addr}
theorem dt_of (h : DT X N W δ μ e k μ1) (q : k = k') : DT X N W δ μ e k' μ1 := q ▸ h
theorem de_of (h : DE X N W δ μ e (.v (.p d)) μ1) (q : d = d') : DE X N W δ μ e (.v (.p d')) μ1 := q ▸ h
theorem dss_ifT {A B rest : List Stmt} {o oa : Os} (h : DT X N W δ μ c true μ1) (ha : DSs X N W δ μ1 A oa) (ca : Cont X N W rest oa o) : DSs X N W δ μ (.If c A B pos :: rest) o :=
  dss_cons (ds_if h (fun _ => ha) nofun) ca
theorem dss_ifF {A B rest : List Stmt} {o oa : Os} (h : DT X N W δ μ c false μ1) (ha : DSs X N W δ μ1 B oa) (ca : Cont X N W rest oa o) : DSs X N W δ μ (.If c A B pos :: rest) o :=
  dss_cons (ds_if h nofun (fun _ => ha)) ca
theorem dss_skip {A rest : List Stmt} {o : Os} (h : DT X N W δ μ c false μ1) (ca : DSs X N W δ μ1 rest o) : DSs X N W δ μ (.If c A [] pos :: rest) o :=
  dss_ifF h dss_nil ca
theorem dss_ret (h : DE X N W δ μ e (.v s) μ1) {rest : List Stmt} : DSs X N W δ μ (.Return (some e) pos :: rest) (.rt s μ1) := dss_cons (ds_ret h) cr
theorem di_of {tg iter : Expr} {ds ds' : List D} (h : DI X N W δ μ tg iter ds μ1) (q : ds = ds') : DI X N W δ μ tg iter ds' μ1 := q ▸ h
theorem of_maps {α : Type} {nn : Nat} {scope : Scope} {elt : Expr} {f : As} {gd fy : α → D} : ∀ {l : List α}, (∀ a ∈ l, ∃ δt, f (gd a) δ = some δt ∧ DEB X N.K nn scope elt δt μ (fy a) μ) → CmpL (El0 X N.K nn scope elt) f δ (l.map gd) μ (l.map fy) μ
  | [], _ => .nil
  | a :: l, h => by
    obtain ⟨δt, h1, h2⟩ := h a List.mem_cons_self
    exact .keep h1 ⟨_, rfl, h2⟩ (of_maps fun d hd => h d (List.mem_cons_of_mem _ hd))
theorem c_allm {α : Type} {l : List α} {q : α → Bool} (g : Go X N W n) : CallOk X N W (.builtin "all") μ [.p (.lst (l.map fun a => .bl (q a)))] (.v (.p (.bl (l.all q)))) μ := by
  have h := c_all (μ := μ) g (ns := l.map q)
  rw [List.map_map, List.all_map] at h
  exact h
theorem c_summ {α : Type} {l : List α} {q : α → Int} (g : Go X N W n) : CallOk X N W (.builtin "sum") μ [.p (.lst (l.map fun a => .int (q a)))] (.v (.p (.int (l.map q).sum))) μ := by
  have h := c_sum (μ := μ) g (ns := l.map q)
  rw [List.map_map] at h
  exact h
theorem join_one {α : Type} {q : α → Nat} : ∀ l : List α, Str.join (Str.ofString "") (l.map fun a => (⟨#[q a]⟩ : Str)) = ⟨(l.map q).toArray⟩
  | [] => rfl
  | [_] => rfl
  | a :: b :: r => by
    show (⟨#[q a]⟩ : Str) ++ Str.ofString "" ++ Str.join (Str.ofString "") (List.map (fun a => (⟨#[q a]⟩ : Str)) (b :: r)) = _
    rw [join_one (b :: r)]
    show Str.append (Str.append _ _) _ = _
    have e0 : (Str.ofString "").cps = #[] := rfl
    simp [Str.append, e0]
theorem m_joinm {α : Type} {l : List α} {q : α → Nat} (hl : l.length ≤ 100) : MtOk X N W "str" "str.join" μ μ1 (.p (.str (Str.ofString ""))) [.p (.lst (l.map fun a => .str ⟨#[q a]⟩))] (.v (.p (.str ⟨(l.map q).toArray⟩))) μ1 := by
  have h := m_join (X := X) (N := N) (W := W) (μ := μ) (μ1 := μ1) (z := Str.ofString "") (ys := l.map fun a => (⟨#[q a]⟩ : Str)) (by
    have e0 : (Str.ofString "").length = 0 := rfl
    rw [e0, Nat.mul_zero, Nat.add_zero, List.map_map]
    have : ∀ l : List α, (l.map ((fun x : Str => x.length) ∘ fun a => (⟨#[q a]⟩ : Str))).sum = l.length := by
      intro l
      induction l with
      | nil => rfl
      | cons a l ih => rw [List.map_cons, List.sum_cons, ih, List.length_cons]; show 1 + _ = _; omega
    rw [this]; omega)
  rw [List.map_map] at h
  have e : Txt.join (Str.ofString "") (l.map fun a => (⟨#[q a]⟩ : Str)) = ⟨(l.map q).toArray⟩ := by
    rw [TL.join_eq]
    exact join_one l
  rw [e] at h
  exact h
end
/-! ## words, in plain terms -/
def st (L : List Nat) : Str := ⟨L.toArray⟩
def IXYZ : List Nat := [73, 88, 89, 90]
def third (a b : Nat) : Nat := if a = b then 73 else if a = 73 then b else if b = 73 then a else if a + b = 177 then 90 else if a + b = 178 then 89 else 88
def qt (a b : Nat) : Int := if (a = 88 ∧ b = 89) ∨ (a = 89 ∧ b = 90) ∨ (a = 90 ∧ b = 88) then 1 else if (a = 89 ∧ b = 88) ∨ (a = 90 ∧ b = 89) ∨ (a = 88 ∧ b = 90) then -1 else 0
def mk (a b : List Nat) : List Nat := List.zipWith third a b
def qs (a b : List Nat) : Int := (List.zipWith qt a b).sum
structure okL (L : List Nat) : Prop where
  one : 1 ≤ L.length
  four : L.length ≤ 4
  all : ∀ c ∈ L, c ∈ IXYZ
def sgn (L : List Nat) (s : Int) : Str := st (if s < 0 then 45 :: L else L)
def wd (C : Addr) (L : List Nat) (s : Int) : D := .ins C ["letters", "sign"] [.str (st L), .int s]
def bes (s t q : Int) : Int := if q % 4 ≠ 0 then -(s * t) else s * t
theorem st_len (L : List Nat) : (st L).length = L.length := by simp [st, Str.length]
theorem chars_st (L : List Nat) : chars (st L) = L.map fun c => D.str ⟨#[c]⟩ := by simp [chars, st]
theorem st_inj {L M : List Nat} : st L = st M ↔ L = M := by
  constructor
  · intro h
    have := congrArg (fun z : Str => z.cps.toList) h
    simpa [st] using this
  · rintro rfl; rfl
theorem st_app (L M : List Nat) : st L ++ st M = st (L ++ M) := by
  show Str.append _ _ = _
  simp [Str.append, st]
theorem size4 {n : Nat} (h : n ≤ 100) : n ≤ sizeLine := by rw [sizeLine_eq]; omega
theorem size4' {n : Nat} (h : n ≤ 100) : n < sizeLine := by rw [sizeLine_eq]; omega
theorem th_ok {a b : Nat} (ha : a ∈ IXYZ) (hb : b ∈ IXYZ) : third a b ∈ IXYZ := by
  simp only [IXYZ, List.mem_cons, List.not_mem_nil, or_false] at ha hb ⊢
  rcases ha with rfl | rfl | rfl | rfl <;> rcases hb with rfl | rfl | rfl | rfl <;> decide
theorem mk_len {a b : List Nat} (h : a.length = b.length) : (mk a b).length = a.length := by simp [mk, h]
theorem mk_all : ∀ {a b : List Nat}, (∀ c ∈ a, c ∈ IXYZ) → (∀ c ∈ b, c ∈ IXYZ) → ∀ c ∈ mk a b, c ∈ IXYZ
  | [], _, _, _, c, h => by simp [mk] at h
  | _ :: _, [], _, _, c, h => by simp [mk] at h
  | x :: xs, y :: ys, h1, h2, c, h => by
    simp only [mk, List.zipWith_cons_cons, List.mem_cons] at h
    rcases h with rfl | h
    · exact th_ok (h1 x (by simp)) (h2 y (by simp))
    · exact mk_all (fun c hc => h1 c (by simp [hc])) (fun c hc => h2 c (by simp [hc])) c h
theorem mk_ok {a b : List Nat} (ha : okL a) (hb : okL b) (h : a.length = b.length) : okL (mk a b) :=
  ⟨by rw [mk_len h]; exact ha.one, by rw [mk_len h]; exact ha.four, mk_all ha.all hb.all⟩
theorem bes_pm {s t q : Int} (hs : s = 1 ∨ s = -1) (ht : t = 1 ∨ t = -1) : bes s t q = 1 ∨ bes s t q = -1 := by
  unfold bes
  rcases hs with rfl | rfl <;> rcases ht with rfl | rfl <;> split <;> simp
end Dl

set_option Elab.async false
set_option linter.all false
set_option maxRecDepth 100000
set_option maxHeartbeats 4000000
set_option autoImplicit false
namespace Dl
open PySem PySem.Spec PyProof.Rows L2
/-! ## the script itself -/
theorem rep_sc {K : PySem.W.Frag} {F : Hp} {v : V} {ns : List Int} (h : Rep K F v (.sc ns)) : ∃ a, v = .ref a ∧ SqL K F a (ns.map V.int) := by
  generalize hd : D.sc ns = d at h
  cases h with
  | sc h1 => cases hd; exact ⟨_, rfl, h1⟩
  | _ => cases hd
section
variable {X : Cx} {N : En} {W : WX} {n : Nat} {δ : List (Option S)} {μ : List M} {ns : List Int}
theorem c_lenSc (g : Go X N W n) : CallOk X N W (.builtin "len") μ [.p (.sc ns)] (.v (.p (.int ns.length))) μ :=
  ⟨_, call_len_seq, fun σ δ F A H vs Q R rv k => by
    obtain ⟨v, rfl, h⟩ := one_of rv
    have h' : Rep N.K F v (.sc ns) := h
    obtain ⟨a, rfl, h1⟩ := rep_sc h'
    refine ⟨a, ns.map V.int, rfl, .inl (by rw [← g.hK]; exact same_sqL R.rc.sub h1), ?_⟩
    rw [List.length_map]
    exact k.here R (.int _)⟩
theorem i_sc (g : Go X N W n) {i : Nat} {c : Int} (h : ns[i]? = some c) : IxOk X N W μ (.p (.sc ns)) (.p (.int (i : Int))) (.v (.p (.int c))) μ :=
  ⟨_, ix_list, fun σ δ F A H x y Q R rx ry k => by
    have rx' : Rep N.K F x (.sc ns) := rx
    obtain ⟨a, rfl, h1⟩ := rep_sc rx'
    exact ⟨a, ns.map V.int, (i : Int), .int c, rfl, rs_int ry, by rw [← g.hK]; exact same_sqL R.rc.sub h1, atI_nat (by rw [List.getElem?_map, h]; rfl), k.here R (.int _)⟩⟩
/-- the law's own promise, at the heap in which it is asked -/
theorem spD_law {K : PySem.W.Frag} {R : Rel} {H : Hp} {a : Addr} (hO : ∀ b, H b = none ∨ ∃ o xs, H b = some (.frz o (.lst xs))) (hS : SqL K H a (ns.map V.int)) (hR : R [.p (.sc ns)] [] (.v (.p (.bl true))) []) : spD K R [.ref a] H (fun v _ => v = .bl true) (fun _ _ _ => False) :=
  ⟨H, [], [.p (.sc ns)], [], .v (.p (.bl true)), [], hR,
    { sub := Same.refl _, base := Same.refl _, new := fun a o e => .inl ⟨o, e⟩, keep := fun _ _ e _ => e, pre := ⟨[], rfl, fun _ h => by cases h⟩, nd := List.nodup_nil, len := rfl, mus := fun j a m h => by simp at h, fr := fun j a m h => by simp at h },
    .cons (.sc hS) .nil, fun v F' A' H' _ rv => by
      have rv' : Rep K F' v (.bl true) := rv
      cases rv'
      rfl⟩
end
end Dl

set_option Elab.async false
set_option linter.all false
set_option maxRecDepth 100000
set_option maxHeartbeats 4000000
set_option autoImplicit false
namespace Dl
open PySem PySem.Spec PyProof.Rows L2
/-! ## == and != of own objects, as tests -/
section
variable {X : Cx} {N : En} {W : WX} {n : Nat} {δ δ' δ1 δ2 : List (Option S)} {μ μ' μ1 μ2 μ3 : List M} {e a b c o : Expr} {es : List Expr} {ss : List S} {pos p apos : Pos} {d : D} {s s1 s2 : S} {r : Rx} {R : Rel} {k : Nat} {x m f : Str} {dd : List D} {C : Addr}
theorem dt_eqOwn {ns : List Str} {d1 : List D} {d2 : D} {t : Value} {q : Bool} (g : Go X N W n) (cm : Cm X.prog X.w X.K X.mg X.base k C "__eq__" [] R) (ty : TyD X.K d2 t) (nf : PySem.W.notFirst X.K C t = true)
    (ha : DE X N W δ μ a (.v (.p (.ins C ns d1))) μ1) (hb : DE X N W δ μ1 b (.v (.p d2)) μ2) (hR : R [.p (.ins C ns d1), .p d2] μ2 (.v (.p (.bl q))) μ3) (hk : k ≤ n := by decide) : DT X N W δ μ (.Compare a [.Eq] [b] pos) q μ3 := by
  obtain ⟨f, fd, ps, ds, dvs, Fo, hme, hbi, hd, rd⟩ := cm.ex
  refine ⟨fun pins s σ H Q I ⟨F, A, R0, qq⟩ => wpAny_isTrue_Compare1 (two_then ha hb I R0 fun v u s3 x y H2 F2 A2 I2 rx ry e2 p2 R2 h1 h2 => ?_) (nomark _)⟩
  obtain ⟨a1, dx1, fs1, rfl, g1, g2, g3⟩ := rep_ins h1
  cases rx
  obtain ⟨od1, J1⟩ := inst_at I2 (R2.rc.sub _ _ g1)
  obtain ⟨m', Fr'⟩ := I2.fr
  refine PySem.W.cmp_ofEq (PySem.W.cmp_K (g.room.units0) Fr' I2.mod.kin J1 (type_of I2 R2.rc.sub ty (by rw [← g.hK]; exact h2) ry) nf hme.at_ hme.fn ?_)
  refine wpAny_mono (call_fnD (us := [.ref a1, u]) (vs := [.ref a1, y]) (ss := [.p (.ins C ns d1), .p d2]) (Q := fun v H' => v = .bl q ∧ Q q H') g hk Fo hbi hd rd I2 R2 (.cons h1 (.cons h2 .nil)) (.cons rfl (.cons ry .nil)) hR (fun v F' A' H' e' p' R' rv => ?_)) (fun v s' h => ?_) fun _ _ h => h
  · have rv' : Rep N.K F' v (.bl q) := rv
    cases rv'
    exact ⟨rfl, qq F' A' H' (e2.trans e') (p2.trans p') R'⟩
  · obtain ⟨w, H', I', rw', rfl, hq⟩ := h
    cases rw'
    exact wpAny_truthy_bool ⟨H', I', hq⟩
theorem dt_neOwn {ns : List Str} {d1 : List D} {d2 : D} {t : Value} {q : Bool} (g : Go X N W n) (cm : Cm X.prog X.w X.K X.mg X.base k C "__eq__" [] R) (nk : NeOk X.K C) (ty : TyD X.K d2 t) (nf : PySem.W.notFirst X.K C t = true)
    (ha : DE X N W δ μ a (.v (.p (.ins C ns d1))) μ1) (hb : DE X N W δ μ1 b (.v (.p d2)) μ2) (hR : R [.p (.ins C ns d1), .p d2] μ2 (.v (.p (.bl q))) μ3) (hk : k + 1 ≤ n := by decide) : DT X N W δ μ (.Compare a [.NotEq] [b] pos) (!q) μ3 := by
  obtain ⟨f, fd, ps, ds, dvs, Fo, hme, hbi, hd, rd⟩ := cm.ex
  refine ⟨fun pins s σ H Q I ⟨F, A, R0, qq⟩ => wpAny_isTrue_Compare1 (two_then ha hb I R0 fun v u s3 x y H2 F2 A2 I2 rx ry e2 p2 R2 h1 h2 => ?_) (nomark _)⟩
  obtain ⟨a1, dx1, fs1, rfl, g1, g2, g3⟩ := rep_ins h1
  cases rx
  obtain ⟨od1, J1⟩ := inst_at I2 (R2.rc.sub _ _ g1)
  have hun := g.room.units
  refine rich_ne g.room.units0 (by show X.A.units + 1 + 1 < _; omega) I2.kIn J1 (type_of I2 R2.rc.sub ty (by rw [← g.hK]; exact h2) ry) nf nk.ne nk.mro hme.at_ hme.fn ?_
  refine wpAny_mono (call_in1 (us := [.ref a1, u]) (vs := [.ref a1, y]) (ss := [.p (.ins C ns d1), .p d2]) (Q := fun v H' => v = .bl q ∧ Q (!q) H') g hk Fo hbi hd rd I2 R2 (.cons h1 (.cons h2 .nil)) (.cons rfl (.cons ry .nil)) hR (fun v F' A' H' e' p' R' rv => ?_)) (fun v s' h => ?_) fun _ _ h => h
  · have rv' : Rep N.K F' v (.bl q) := rv
    cases rv'
    exact ⟨rfl, qq F' A' H' (e2.trans e') (p2.trans p') R'⟩
  · obtain ⟨w, H', I', rw', rfl, hq⟩ := h
    cases rw'
    exact ⟨q, rfl, wpAny_truthy_bool ⟨H', I', hq⟩⟩
end
end Dl

set_option Elab.async false
set_option linter.all false
set_option maxRecDepth 100000
set_option maxHeartbeats 4000000
set_option autoImplicit false
namespace Dl
open PySem PySem.Spec PyProof.Rows L2
/-! ## an exception that is caught and kept -/
/-- a caught exception at a, of the class cls, its own dict at d -/
def KpO (cls : Value) (d : Option Addr) (a : Addr) : HO := .ext fun h => ∃ oe vs, h.get? a = some oe ∧ Zc cls d oe ∧ oe.data = .fields vs
section
variable {X : Cx} {pins : List (Addr × Obj)} {σ : L2.St} {H : Hp} {sI s : Shared} {a : Addr}
theorem kpo_ok {P : Program} {w : World} {h : Heap} {cls : Value} {d : Option Addr} {ob : Obj} {vs : Array Value} (e1 : h.get? a = some ob) (e2 : Zc cls d ob) (e3 : ob.data = .fields vs) : ObjOk P w H h a (KpO cls d a) :=
  ⟨⟨ob, vs, e1, e2, e3⟩, ⟨ob, e1⟩, fun h1 h2 ⟨o1, v1, q1, q2⟩ st => ⟨o1, v1, st o1 q1, q2⟩⟩
/-- what was not there yet when the exception was raised is told from here on -/
theorem track {o : HO} (J : Inv X pins σ H sI) (I : Inv X pins σ H s) (fa : sI.heap.get? a = none) (na : H a = none) (nL : a ≠ X.env.locals) (new : ObjOk X.prog X.w (upd H a o) s.heap a o) : Inv X pins σ (upd H a o) s where
  ok := I.ok
  os := I.os
  bare := I.bare
  base := {
    keep := I.base.keep
    slot := I.base.slot
    free := fun b ob q n hx => by
      by_cases hb : b = a
      · subst hb
        obtain ⟨ob', e⟩ := J.base.there b ob q hx
        rw [fa] at e
        cases e
      · rw [upd_ne hb]
        exact I.base.free b ob q n hx
    there := I.base.there
    tups := fun b xs q => by
      have e := I.base.tups b xs q
      rw [upd_ne (ne_of_none e na)]
      exact e
    frzs := fun b ob u q => by
      have e := I.base.frzs b ob u q
      rw [upd_ne (ne_of_none e na)]
      exact e
    tbls := fun b ps q => by
      obtain ⟨more, e⟩ := I.base.tbls b ps q
      exact ⟨more, by rw [upd_ne (ne_of_none e na)]; exact e⟩ }
  loc := I.loc
  cell := I.cell
  free := by
    rw [upd_ne (Ne.symm nL)]
    exact I.free
  freeC := fun y c hc => by
    have hb : c ≠ a := fun z => by
      obtain ⟨v, ob, e, _⟩ := J.cell y c hc
      rw [z, fa] at e
      cases e
    rw [upd_ne hb]
    exact I.freeC y c hc
  pin := fun p hp => by
    obtain ⟨q1, q2, q3, q4, q5⟩ := I.pin p hp
    have hb : p.1 ≠ a := fun z => by
      have e := (J.pin p hp).1
      rw [z, fa] at e
      cases e
    exact ⟨q1, by rw [upd_ne hb]; exact q2, q3, q4, q5⟩
  hok := I.hok.laidN (fun _ _ e => e) na new
  len := I.len
theorem into_suite (I : Inv X pins σ H s) : Inv (X.suite a (X.pn ++ pins)) [] σ H s :=
  ⟨I.ok.suite a _, I.os, I.bare, I.base, I.loc, I.cell, I.free, I.freeC, fun p hp => I.pin p (by simpa using hp), I.hok, I.len⟩
theorem out_suite {pn' : List (Addr × Obj)} (ok : X.Ok) (I : Inv (X.suite a (X.pn ++ pins)) pn' σ H s) : Inv X pins σ H s :=
  ⟨ok, I.os, I.bare, I.base, I.loc, I.cell, I.free, I.freeC, fun p hp => I.pin p (List.mem_append.mpr (.inl hp)), I.hok, I.len⟩
end
/-- the wish of the clause: it is of the class, the suite runs with the exception told -/
def wK (K : PySem.W.Frag) (c : Value) (i : Nat) (ts : Value → Option Addr → Addr → TS) (D : Ends) : WX := fun cls d σ H => PySem.W.exmOne K cls c = some true ∧ ∀ a, H a = none →
  ts cls d a { nx := fun σ' H' => D.nx (σ'.set i none) H', rt := D.rt, bk := fun σ' H' => D.bk (σ'.set i none) H', ct := fun σ' H' => D.ct (σ'.set i none) H' } (σ.set i (some (.ref a))) (upd H a (KpO cls d a))
section
variable {X : Cx} {x n : Str} {c : Value} {i : Nat} {body suite : List Stmt} {b₀ : Stmt} {np pos pos' : Pos} {tb : WX → TS} {ts : Value → Option Addr → Addr → TS}
theorem ps_keep (hs : X.stack = X.env :: X.outer) (hf : X.env.frame = some X.env.locals) (hN : X.N.Nodup) (hi : X.N[i]? = some n) (hln : X.env.kindOf n = some .local) (hc : Names X x c)
    (hb : ∀ (W : WX) (pn : List (Addr × Obj)) (xe : Value → Shared → Prop), Takes (X.tr pn xe) W → PassesOwn (model X.prog X.w) X.A X.env xe → PSs (X.tr pn xe) body (tb W))
    (hsu : ∀ (a : Addr) (cls : Value) (d : Option Addr) (pn : List (Addr × Obj)), PSs (X.suite a pn) (b₀ :: suite) (ts cls d a)) :
    PS X (.Try body [.ExceptHandler (some (.Name x np)) (some n) (b₀ :: suite) pos'] [] [] pos) (fun D σ H => tb (wK X.K c i ts D) D σ H) := by
  refine ⟨fun pins s σ H D I h => wpAny_Try_except ?_⟩
  have ok := I.ok
  refine wpAny_mono ((hb (wK X.K c i ts D) (X.pn ++ pins) (fun e t1 => wpAny (model X.prog X.w) X.A (noteFrame e X.env) (fun _ t2 => wpAny (model X.prog X.w) X.A (setFlight e none)
    (fun _ t3 => wpAny (model X.prog X.w) X.A (handleBy e X.env [.ExceptHandler (some (.Name x np)) (some n) (b₀ :: suite) pos']) (SP X pins D) X.xe t3) X.xe t2) X.xe t1)
    (fun u t air => ?_) PassesOwn.looking).run [] s σ H D (I.toTry _) h) (fun f t hsp => ?_) (fun _ _ z => z)
  · obtain ⟨a, B, sI, pins', σ', H', cls, d, rfl, J', nb, up, sky, na, os, ag, hyes, go⟩ := air
    have J : Inv X pins σ' H' sI := J'.ofTry ok
    have sky1 : Sky B (X.env :: X.outer) a (Zc cls d) X.env.locals t.heap := by
      rw [← hs]
      exact sky
    show wpAny (model X.prog X.w) X.A (noteFrame (.ref a) X.env) _ _ _
    have frm : X.A.frames = some (X.env :: X.outer) := by
      rw [ok.frames, hs]
    refine Sky.land Zc.steady frm hf sky1 fun g1 y1 u1 => ?_
    have J1 : Inv X pins σ' H' { t with heap := g1 } := J.landed nb y1.1 (up.trans u1) os ag
    have off : ∀ {g : Heap} {ob : Obj} {vs : Array Value}, g.FunFrames B (X.env :: X.outer) → g.get? a = some ob → ob.data = .fields vs → a ∉ frs (X.env :: X.outer) := fun {g ob vs} ff e q hm => by
      obtain ⟨_, ob', e', nf⟩ := ff.mem hm
      rw [e] at e'
      cases e'
      exact nf _ q
    obtain ⟨ob1, vs1, a1, z1, d1⟩ := y1.there
    have out := off y1.2.2.1 a1 d1
    have nL : a ≠ X.env.locals := fun z => out (List.mem_filterMap.mpr ⟨X.env, List.mem_cons_self, by rw [hf, z]⟩)
    have fa : sI.heap.get? a = none := by
      cases e : sI.heap.get? a with
      | none => rfl
      | some ob =>
        have z := nb a ob e (by rw [hs]; exact out)
        rw [y1.2.1] at z
        cases z
    have T1 := track (o := KpO cls d a) J J1 fa na nL (kpo_ok a1 z1 d1)
    have S1 : Inv (X.suite a (X.pn ++ pins)) [] σ' (upd H' a (KpO cls d a)) { t with heap := g1 } := into_suite T1
    refine wpAny_handleBy_cons (codeAny_handlers_test ?_) (fun q => by cases q)
    have look : PySem.W.Looks (model X.prog X.w) g1 (typeOf (.ref a)) cls := fun A' Q' E' t' k q => wpAny_typeOf_ref (k _ _ a1) (by rw [z1.1]; exact q)
    have is := PySem.W.exm_one (M := model X.prog X.w) J1.kIn look hyes
    have named : ∀ {Q' E' : Value → Shared → Prop}, Q' c { t with heap := g1 } → wpAny (model X.prog X.w) (X.A.mark (some (.ref a))) (eval (.Name x np) X.env) Q' E' { t with heap := g1 } := fun {Q' E'} q => by
      obtain ⟨q1, q2, q3 | ⟨q3, q4, q5⟩⟩ := hc
      · exact ld_glob (X := X.suite a (X.pn ++ pins)) S1 q1 q3 q q2
      · exact ld_blt (X := X.suite a (X.pn ++ pins)) S1 q1 q3 q4 q q5 q2
    refine named (is.here (codeAny_handlers_suite_as (HandSPX.lands_againZ y1 fun g2 y2 u2 => ?_)))
    have J2 : Inv X pins σ' H' { t with heap := g2 } := J.landed nb y2.1 ((up.trans u1).trans u2) os ag
    obtain ⟨ob2, vs2, a2, z2, d2⟩ := y2.there
    have S2 : Inv (X.suite a (X.pn ++ pins)) [] σ' (upd H' a (KpO cls d a)) { t with heap := g2 } := into_suite (track (o := KpO cls d a) J J2 fa na nL (kpo_ok a2 z2 d2))
    refine store_ok (X := X.suite a (X.pn ++ pins)) (v := .ref a) S2 hN hi (.inl hln) rfl (fun t5 S5 => ?_) (.inr hln)
    refine wpAny_mono ((hsu a cls d (X.pn ++ pins)).run [] t5 _ _ _ S5 (go a na)) (fun f t6 hsp => ?_) (fun _ _ z => z.elim)
    have leave : ∀ {σ6 : L2.St} {H6 : Hp} {Q' : Shared → Prop}, Inv (X.suite a (X.pn ++ pins)) [] σ6 H6 t6 → (∀ t7, Inv X pins (σ6.set i none) H6 t7 → Q' t7) → wpAny (model X.prog X.w) X.A (do
        bindName X.env n .none
        unbindBehindTheSuite X.env n pos') (fun _ t7 => Q' t7) X.xe t6 := fun {σ6 H6 Q'} S6 hq => gone_ok (out_suite ok S6) hN hi hln hq
    cases f with
    | next =>
      obtain ⟨σ6, H6, S6, q6⟩ := hsp
      exact leave S6 fun t7 J7 => ⟨_, H6, J7, q6⟩
    | brk =>
      obtain ⟨σ6, H6, S6, q6⟩ := hsp
      exact leave S6 fun t7 J7 => ⟨_, H6, J7, q6⟩
    | cont =>
      obtain ⟨σ6, H6, S6, q6⟩ := hsp
      exact leave S6 fun t7 J7 => ⟨_, H6, J7, q6⟩
    | ret u =>
      obtain ⟨v6, σ6, H6, S6, r6, q6⟩ := hsp
      exact leave S6 fun t7 J7 => ⟨v6, _, H6, J7, r6, q6⟩
  · cases f with
    | next =>
      obtain ⟨σ', H', J', q⟩ := hsp
      exact wpAny_execs_nil ⟨σ', H', J'.ofTry ok, q⟩
    | brk =>
      obtain ⟨σ', H', J', q⟩ := hsp
      exact ⟨σ', H', J'.ofTry ok, q⟩
    | cont =>
      obtain ⟨σ', H', J', q⟩ := hsp
      exact ⟨σ', H', J'.ofTry ok, q⟩
    | ret u =>
      obtain ⟨v, σ', H', J', r, q⟩ := hsp
      exact ⟨v, σ', H', J'.ofTry ok, r, q⟩
end
end Dl

set_option Elab.async false
set_option linter.all false
set_option maxRecDepth 100000
set_option maxHeartbeats 4000000
set_option autoImplicit false
namespace Dl
open PySem PySem.Spec PyProof.Rows L2
/-! ## a lambda without parameters, handed to a def -/
section
variable {X : Cx} {pins : List (Addr × Obj)} {σ : L2.St} {H : Hp} {s : Shared}
/-- it is made: its code object is one of the table, or a new one behind it -/
def Lam1 (H : Hp) (P : Addr) (ps : Array Value) (pos : Pos) (q : Str) (c' : Addr) (H1 : Hp) : Prop :=
  (H1 = H ∧ codeAmong pos ps.toList = some (.ref c')) ∨ (H c' = none ∧ H1 = upd (upd H P (.tbl (ps ++ #[rawInt pos.line, rawInt pos.col, .ref c']))) c' (LamX.CodeO c' q))
theorem lam_made {c P : Addr} {ps : Array Value} {params : Arguments} {body : Expr} {scope : Scope} {pos : Pos} {E : Value → Shared → Prop} {Q : Value → Shared → Prop} (I : Inv X pins σ H s) (TB : LamX.TabB X.base X.mg c P) (hcode : X.env.code = .ref c)
    (tabAt : H P = some (.tbl ps)) (tri : TriplesOk ps.toList) (known : ∀ (p : Pos) (v : Value), codeAmong p ps.toList = some v → ∃ b, v = .ref b ∧ H b = some (LamX.CodeO b (X.env.qual ++ "<lambda>")))
    (hdef : defaultsOf params X.env = ([], [])) (hfree : ∀ y ∈ scope.names, y.2 = .free → ∃ c, X.env.cells.lookup y.1 = some c)
    (k : ∀ (f c' : Addr) (pm ctv : Value) (H1 : Hp) (s1 : Shared), Inv X pins σ H1 s1 → Lam1 H P ps pos (X.env.qual ++ "<lambda>") c' H1 →
      s1.heap.get? f = some (PySem.W.kla_obj "<lambda>" (X.env.qual ++ "<lambda>") params body scope (cloFrom X.env.cells scope.names []) pm c' ctv) → H1 f = none → f ∉ frs X.stack → H1 c' = some (LamX.CodeO c' (X.env.qual ++ "<lambda>")) → Q (.ref f) s1) :
    wpAny (model X.prog X.w) X.A (eval (.Lambda params body scope pos) X.env) Q E s := by
  have tabH : s.heap.get? P = some { cls := .none, data := .fields ps } := I.hok P _ tabAt
  have below : ∀ f, s.heap.objs.size ≤ f → f ∉ frs X.stack := fun f big hm => by
    rcases List.mem_cons.mp (I.stkSub _ hm) with e | e
    · have lt := I.lt
      rw [← e] at lt
      exact absurd lt (Nat.not_lt.mpr big)
    · exact I.nofs big e
  refine PySem.W.kla_eval hdef ?_
  cases fnd : codeAmong pos ps.toList with
  | some v =>
    obtain ⟨b, rfl, hb⟩ := known pos v fnd
    refine PySem.W.kla_makeFunctionHit (ps := ps) (c := c) (P := P) (mg := X.mg) (closure_ok hfree) I.ok.glob (I.mod.glob.keeps I.bk) hcode (TB.code.keeps I.bk) tabH tri fnd (TB.bm.keeps I.bk) fun ctv g tk kept grown => ?_
    refine k g.objs.size b ((X.mg "__name__").getD .none) ctv H _ ?_ (.inl ⟨rfl, fnd⟩) (Heap.get?_push_size _ rfl) (I.hok.fresh grown) (below _ grown) hb
    exact I.kept fun d o e => Heap.get?_push_of_some _ (kept d o e)
  | none =>
    refine PySem.W.kla_makeFunction (ps := ps) (c := c) (P := P) (mg := X.mg) (closure_ok hfree) I.ok.glob (I.mod.glob.keeps I.bk) hcode (TB.code.keeps I.bk) tabH tri fnd TB.gP (TB.bm.keeps I.bk) fun c' ctv g tk but big small rec_ tabG => ?_
    obtain ⟨_, oc, vs, t, ec, hoc, hd, hv⟩ := rec_
    cases ec
    have newC : H c' = none := I.hok.fresh big
    have grown : s.heap.objs.size ≤ g.objs.size := Nat.le_of_lt (Nat.lt_of_le_of_lt big small)
    have newF : H g.objs.size = none := I.hok.fresh grown
    have J := LamX.inv_table (q := X.env.qual ++ "<lambda>") (t' := tk) (more := #[rawInt pos.line, rawInt pos.col, .ref c']) (h' := g.push (PySem.W.kla_obj "<lambda>" (X.env.qual ++ "<lambda>") params body scope (cloFrom X.env.cells scope.names []) ((X.mg "__name__").getD .none) c' ctv))
      I tabAt (fun b o ne e => Heap.get?_push_of_some _ (but b o ne e)) (Heap.get?_push_of_some _ tabG) big ⟨oc, vs, t, Heap.get?_push_of_some _ hoc, hd, hv⟩
    refine k g.objs.size c' _ ctv _ _ J (.inr ⟨newC, rfl⟩) (Heap.get?_push_size _ rfl) ?_ (below _ grown) upd_same
    have n2 : g.objs.size ≠ P := (Nat.ne_of_lt (Nat.lt_of_lt_of_le (Heap.lt_size tabH) grown)).symm
    rw [upd_ne (Nat.ne_of_gt small), upd_ne n2]
    exact newF
end
/-- .. in terms of what is told -/
theorem rc_lam {N : En} {F : Hp} {A : List Addr} {H H1 : Hp} {μ : List M} {j : Nat} {P c' : Addr} {q : Str} {ps : Array Value} {pos : Pos} (r : Rc N F A H μ) (ha : A[j]? = some P) (hm : μ[j]? = some (.tab P q)) (tabAt : H P = some (.tbl ps)) (tri : TriplesOk ps.toList)
    (known : ∀ (p : Pos) (v : Value), codeAmong p ps.toList = some v → ∃ b, v = .ref b ∧ F b = some (LamX.CodeO b q)) (l : Lam1 H P ps pos q c' H1) : ∃ F1, Same F F1 ∧ Rc N F1 A H1 μ ∧ F1 c' = some (LamX.CodeO c' q) := by
  rcases l with ⟨rfl, fnd⟩ | ⟨nc, rfl⟩
  · obtain ⟨b, e, hb⟩ := known pos _ fnd
    cases e
    exact ⟨F, Same.refl _, r, hb⟩
  · have ne : P ≠ c' := ne_of_none tabAt nc
    have sm := same_updN (o := LamX.CodeO c' q) (r.fresh nc).2.1
    have r1 := r.frozen nc (LamX.CodeO c' q)
    have eL : (ps ++ #[rawInt pos.line, rawInt pos.col, .ref c']).toList = ps.toList ++ [rawInt pos.line, rawInt pos.col, .ref c'] := by simp
    have r2 := r1.write (m' := .tab P q) ha hm trivial (o := .tbl (ps ++ #[rawInt pos.line, rawInt pos.col, .ref c'])) ⟨rfl, _, upd_same, by rw [eL]; exact PySem.TriplesOk_snoc _ _ _ _ tri, fun p v hv => by
      rw [eL] at hv
      rcases LamX.among_app _ tri hv with z | z
      · obtain ⟨b, e, hb⟩ := known p v z
        exact ⟨b, e, sm _ _ hb⟩
      · exact ⟨c', z, upd_same⟩⟩
    refine ⟨_, sm, ?_, upd_same⟩
    have es : μ.set j (.tab P q) = μ := by
      obtain ⟨h1, h2⟩ := List.getElem?_eq_some_iff.mp hm
      rw [← h2]
      exact List.set_getElem_self h1
    have eH : upd (upd H c' (LamX.CodeO c' q)) P (.tbl (ps ++ #[rawInt pos.line, rawInt pos.col, .ref c'])) = upd (upd H P (.tbl (ps ++ #[rawInt pos.line, rawInt pos.col, .ref c']))) c' (LamX.CodeO c' q) := by
      funext b
      by_cases h1 : b = P
      · subst h1
        rw [upd_same, upd_ne ne, upd_same]
      · rw [upd_ne h1]
        by_cases h2 : b = c'
        · subst h2
          rw [upd_same, upd_same]
        · rw [upd_ne h2, upd_ne h2, upd_ne h1]
    rw [es, eH] at r2
    exact r2
end Dl

set_option Elab.async false
set_option linter.all false
set_option maxRecDepth 100000
set_option maxHeartbeats 4000000
set_option autoImplicit false
namespace Dl
open PySem PySem.Spec PyProof.Rows L2
section
variable {X : Cx} {pins : List (Addr × Obj)} {σ : L2.St} {H : Hp} {s : Shared}
abbrev lamQ (X : Cx) : Str := X.env.qual ++ "<lambda>"
abbrev lamO (X : Cx) (params : Arguments) (body : Expr) (scope : Scope) (pm : Value) (c' : Addr) (ctv : Value) : Obj := PySem.W.kla_obj "<lambda>" (lamQ X) params body scope (cloFrom X.env.cells scope.names []) pm c' ctv
/-- the context of the def g that was handed the lambda, entered at s -/
abbrev inG (X : Cx) (Ng : List Str) (qg : Str) (sg : Scope) (g : Addr) (cdg : Value) (s : Shared) (H : Hp) : Cx := cxOf C8.CX0 X.prog X.w X.K X.mg X.base Ng qg sg g cdg X.A X.stack s H C8.E0
/-- the name of the lambda is called there; what it lets out is wished with the slots that stand then -/
theorem lam_act {Ng : List Str} {qg : Str} {sg : Scope} {g f c' : Addr} {cdg pm ctv : Value} {params : Arguments} {body : Expr} {scope : Scope} {k i : Nat} {a : Str} {pn : List (Addr × Obj)} {xe : Value → Shared → Prop} {W : WX} {t : XK → TE} {p1 p2 : Pos}
    (I : Inv X pins σ H s) (L : LamX.LamS X.env.scope scope) (at_ : s.heap.get? f = some (lamO X params body scope pm c' ctv)) (hfn : H f = none) (hfr : f ∉ frs X.stack)
    (hbind : bindArgs (PySem.W.kla_fn "<lambda>" (lamQ X) params body scope (cloFrom X.env.cells scope.names []) pm (.ref c') ctv) ⟨[], []⟩ = pure [])
    (tk : Takes ((inG X Ng qg sg g cdg s H).tr pn xe) W) (hr : Room (k + 1) (X.A.deeper (envOfC qg sg s.heap.objs.size g cdg)))
    (hbody : ∀ (E : XK) (A : Around) (outer : List Env) (s : Shared) (H : Hp), Room k (A.deeper (LamX.lamEnv X scope s.heap.objs.size f c')) → PE (LamX.lamCx X A outer s H E scope f c') body (t E))
    (hN : Ng[i]? = some a) (hv : Vis sg a) (hd : (a == ("__debug__" : Str)) = false := by decide) (hcd : (a == ("__classdict__" : Str)) = false := by decide) :
    PE ((inG X Ng qg sg g cdg s H).tr pn xe) (.Call (.Name a p1) [] [] p2) (fun σZ HZ Q => σZ[i]? = some (some (.ref f)) ∧ HZ c' = some (LamX.CodeO c' (lamQ X)) ∧ t (WE W σZ) σ HZ Q) := by
  refine ⟨fun pinsZ sZ σZ HZ Q IZ ⟨slot, code, want⟩ => wpAny_Call_Name_kw (thn ((pe_var (pos := p1) (i := i) hN hv hd hcd).run pinsZ sZ σZ HZ (fun v H1 => v = .ref f ∧ H1 = HZ) IZ ⟨.ref f, slot, rfl, rfl⟩) fun u s1 ⟨v, H1, I1, r1, e1, e2⟩ => ?_)⟩
  subst e1 e2
  obtain rfl : u = Value.ref f := r1
  have at1 : s1.heap.get? f = some (lamO X params body scope pm c' ctv) := I1.base.keep f _ at_ hfn hfr (by intro z; cases (show f ∈ ([] : List Addr) from z))
  refine PySem.W.callWith_F0 ⟨_, _, _, _, at1⟩ ?_
  have un : Un (frs X.stack) [] H H1 s.heap s1.heap := I1.base
  obtain ⟨⟨oc, vs, tq, oAt, oD, oV⟩, _⟩ := I1.hok c' _ code
  have run : codeAny (model X.prog X.w) (X.A.deeper (envOfC qg sg s.heap.objs.size g cdg)) (.call (.ref f) ⟨[], []⟩) (CR (L2.CX X.prog X.w) (envOfC qg sg s.heap.objs.size g cdg :: X.stack) X.prog X.w H1 s1 Q (WE W σZ)) s1 := by
    refine PySem.W.kla_callFunE hr.depth at1 rfl L.co L.gen rfl ⟨c', oc, vs, tq, rfl, oAt, oD, oV⟩ ?_
    rw [hbind]
    refine wpAny_pure (wpAny_newFunctionEnv (fun y hy => (L.own y hy).2) (fun y hy => by cases hy) (fun g1 ns sb => ⟨I1.nolimit.fresh _ sb, ?_⟩) L.kind)
    have kp : ∀ b o, s1.heap.get? b = some o → g1.get? b = some o := fun b o e => sb.extBut b o (Nat.ne_of_lt (Heap.lt_size e)) (Heap.get?_push_of_some _ e)
    show codeAny _ _ (.expr body (LamX.lamEnv X scope s1.heap.objs.size f c')) _ _
    have J := LamX.lam_start2 (A := X.A.deeper (envOfC qg sg s.heap.objs.size g cdg)) (outer := envOfC qg sg s.heap.objs.size g cdg :: X.stack) (E := WE W σZ) (f := f) (c' := c') (tk := s1.toks + ([] : List (Str × Value)).length) I L I1.env0 hr.hd un ns kp
    refine PySem.W.kla_codeExpr (wpAny_mono ((hbody (WE W σZ) _ _ s1 H1 (hr.deeper _)).run [] _ _ H1 Q J want) (fun v s' ⟨x, H', J', rv, q⟩ => ?_) fun _ _ z => z)
    exact ⟨x, H', J'.os, J'.bare, J'.base, J'.hok, rv, q⟩
  refine wpAny_call (codeAny_mono run fun r s' hq => ?_)
  cases r with
  | error e => exact passAt tk σZ pinsZ H1 s1 e s' I1 hq
  | ok fl =>
    cases fl with
    | ret u => exact I1.after hq
    | next => exact hq.elim
    | brk => exact hq.elim
    | cont => exact hq.elim
/-- the def that calls what it got, by its body -/
def GivesD (X : Cx) (Ng : List Str) (x : Str) (sg : Scope) (g : Addr) (cdg : Value) (bg : List Stmt) (a : Str) (q : Str) (TT : (XK → Hp → VK → Prop) → Hp → VK → Prop) : Prop :=
  ∀ (f c' : Addr) (s : Shared) (H : Hp) (Q : VK) (tl : XK → Hp → VK → Prop),
    (∀ (W : WX) (pn : List (Addr × Obj)) (xe : Value → Shared → Prop) (p1 p2 : Pos), Takes ((inG X Ng x sg g cdg s H).tr pn xe) W →
      PE ((inG X Ng x sg g cdg s H).tr pn xe) (.Call (.Name a p1) [] [] p2) (fun σZ HZ Q => σZ[0]? = some (some (.ref f)) ∧ HZ c' = some (LamX.CodeO c' q) ∧ tl (WE W σZ) HZ Q)) →
    (∀ (E E' : XK) (H : Hp) (Q Q' : VK), (∀ c d h, E c d h → E' c d h) → (∀ v h, Q v h → Q' v h) → tl E H Q → tl E' H Q') →
    H c' = some (LamX.CodeO c' q) → TT tl H Q → ∃ t, PSs (inG X Ng x sg g cdg s H).nox bg t ∧ t { nx := fun _ H' => Q .non H', rt := Q } (L2.start Ng [.ref f]) H
def tLamD (P : Addr) (lpos : Pos) (q : Str) (TT : (XK → Hp → VK → Prop) → Hp → VK → Prop) (t : XK → TE) : TE := fun σ H Q => ∃ ps : Array Value, H P = some (.tbl ps) ∧ TriplesOk ps.toList ∧
  (∀ (p : Pos) (v : Value), codeAmong p ps.toList = some v → ∃ b, v = .ref b ∧ H b = some (LamX.CodeO b q)) ∧ ∀ c' H1, Lam1 H P ps lpos q c' H1 → H1 c' = some (LamX.CodeO c' q) → TT (fun E H' Q' => t E σ H' Q') H1 Q
theorem pe_lamD {TT : (XK → Hp → VK → Prop) → Hp → VK → Prop} {x a : Str} {g c P : Addr} {k : Nat} {pg : Arguments} {bg : List Stmt} {sg : Scope} {dV kV doc pm cdv ct oc : Value} {an od : Option Addr} {osl : Array (Option Value)} {Ng : List Str} {params : Arguments} {body : Expr} {scope : Scope} {t : XK → TE} {p lpos pos : Pos}
    (hg : Gl X x) (hm : X.mg x = some (.ref g)) (hk : PySem.W.keepIn X.K (.ref g) = true) (lk : X.K.lookup g = some ⟨oc, od, .func (PySem.W.fnOf x x pg bg sg dV kV doc pm an cdv ct), osl⟩) (hcg : PySem.W.codeIn X.K cdv x = true)
    (hb : L2.Binds X.K (PySem.W.fnOf x x pg bg sg dV kV doc pm an cdv ct) [a] []) (Sg : FnScope Ng [a] sg) (hNg : Ng[0]? = some a) (hva : Vis sg a) (hG : GivesD X Ng x sg g cdv bg a (lamQ X) TT)
    (TB : LamX.TabB X.base X.mg c P) (hcode : X.env.code = .ref c) (hr : Room (k + 2) X.A) (L : LamX.LamS X.env.scope scope) (hdef : defaultsOf params X.env = ([], []))
    (hbind : ∀ (q : Str) (cl : List (Str × Addr)) (pm cv ctv : Value), bindArgs (PySem.W.kla_fn "<lambda>" q params body scope cl pm cv ctv) ⟨[], []⟩ = pure [])
    (hbody : ∀ (E : XK) (A : Around) (outer : List Env) (s : Shared) (H : Hp) (f c' : Addr), Room k (A.deeper (LamX.lamEnv X scope s.heap.objs.size f c')) → PE (LamX.lamCx X A outer s H E scope f c') body (t E))
    (mono : ∀ (σ : L2.St) (E E' : XK) (H : Hp) (Q Q' : VK), (∀ c d h, E c d h → E' c d h) → (∀ v h, Q v h → Q' v h) → t E σ H Q → t E' σ H Q')
    (hdb : (x == ("__debug__" : Str)) = false := by decide) (hd : (a == ("__debug__" : Str)) = false := by decide) (hcd : (a == ("__classdict__" : Str)) = false := by decide) :
    PE X (.Call (.Name x p) [.Lambda params body scope lpos] [] pos) (tLamD P lpos (lamQ X) TT t) := by
  refine ⟨fun pins s σ H Q I ⟨ps, tabAt, tri, known, want⟩ => ?_⟩
  refine wpAny_Call_Name_kw (ld_glob I hg hm (PySem.W.callWith_K (h₀ := X.base) I.ok.mod.kin hk ?_ (by rfl) (by rfl)) hdb)
  show wpAny _ _ (spliced ((false, eval (.Lambda params body scope lpos) X.env) :: backTo pos (starEach [] X.env))) _ _ s
  refine Calls.spliced_cons (lam_made I TB hcode tabAt tri known hdef (L.has I.ok) fun f c' pm' ctv H1 s1 I1 l1 hf hfn hfr hco => Calls.spliced_nil ⟨I1.kIn, ?_⟩)
  have run : codeAny (model X.prog X.w) X.A (.call (.ref g) ⟨[.ref f], []⟩) (CR C8.CX0 X.stack X.prog X.w H1 s1 Q C8.E0) s1 := by
    refine LamX.run_ofS (us := [.ref f]) (vs := [.ref f]) (N := Ng) (ps := [a]) lk hcg Sg hr I1.env0 (hb s1 [.ref f] I1.kIn rfl) (.cons rfl .nil) rfl fun hr1 => ?_
    obtain ⟨t1, ht, hq⟩ := hG f c' s1 H1 Q (fun E H' Q' => t E σ H' Q') (fun W pn xe p1 p2 tk => lam_act (i := 0) I1 L hf hfn hfr (hbind _ _ _ _ _) tk hr1 (fun E A outer s H hr2 => hbody E A outer s H f c' hr2) hNg hva hd hcd) (fun E E' H' Q1 Q2 h1 h2 h3 => mono σ E E' H' Q1 Q2 h1 h2 h3) hco (want c' H1 l1 hco)
    exact ⟨t1, ht.nox, hq⟩
  refine wpAny_call (codeAny_mono run fun r s2 hq => ?_)
  cases r with
  | error e => exact (show False from hq).elim
  | ok fl =>
    cases fl with
    | ret u => exact I1.after hq
    | next => exact hq.elim
    | brk => exact hq.elim
    | cont => exact hq.elim
end
end Dl

set_option Elab.async false
set_option linter.all false
set_option maxRecDepth 100000
set_option maxHeartbeats 4000000
set_option autoImplicit false
namespace Dl
open PySem PySem.Spec PyProof.Rows L2
/-! ## a def whose code object is named: a maker of lambdas -/
theorem fn_Dc {P : Program} {w : World} {K : PySem.W.Frag} {mg : Str → Option Value} {base : Heap} {x qual : Str} {st : Stmt} {f cA : Addr} {oc kV doc pm ct : Value} {od an : Option Addr} {osl : Array (Option Value)} {Nn ps : List Str} {k : Nat} {R : Rel}
    (lk : K.lookup f = some ⟨oc, od, .func (PySem.W.fnOf x qual (defArgs st) (defBody st) (defScope st) .none kV doc pm an (.ref cA) ct), osl⟩) (hcd : PySem.W.codeIn K (.ref cA) qual = true) (Sc : FnScope Nn ps (defScope st)) (hlen : ∀ ss μ r μ', R ss μ r μ' → ss.length = ps.length)
    (body : ∀ (A : Around) (outer : List Env) (s : Shared) (H : Hp) (E : XK) (N : En) (W : WX) (ss : List S) (μ : List M) (r : Rx) (μ' : List M), Go (cxOf (L2.CX P w) P w K mg base Nn qual (defScope st) f (.ref cA) A outer s H E) N W k → N.A0.length = μ.length → R ss μ r μ' →
      ∃ o, DSs (cxOf (L2.CX P w) P w K mg base Nn qual (defScope st) f (.ref cA) A outer s H E) N W (starts Nn ss) μ (defBody st) o ∧ Fit μ.length o r μ') :
    FnOk P w K mg base (L2.CX P w) (k + 1) f (PySem.W.fnOf x qual (defArgs st) (defBody st) (defScope st) .none kV doc pm an (.ref cA) ct) ps (spD K R) := by
  refine fn_of lk hcd Sc (fun vs H Q E h => ?_) (fun A outer s H vs Q E hr h => ?_)
  · obtain ⟨F0, A0, ss, μ, r, μ', hR, _, rv, _⟩ := h
    rw [rv.length]
    exact hlen _ _ _ _ hR
  · obtain ⟨F0, A0, ss, μ, r, μ', hR, rc, rv, hq⟩ := h
    have g : Go (cxOf (L2.CX P w) P w K mg base Nn qual (defScope st) f (.ref cA) A outer s H E) ⟨K, H, F0, A0⟩ (fun cls d _ H => E cls d H) k :=
      ⟨takes_of rfl rfl rfl rfl, rfl, rfl, hr, passes_of rfl, Sc.nd⟩
    have h0 : A0.length = μ.length := rc.len
    obtain ⟨o, hd, fit⟩ := body A outer s H E ⟨K, H, F0, A0⟩ _ ss μ r μ' g h0 hR
    refine ⟨_, hd, F0, A0, ⟨rc, (start_slots (N := ⟨K, H, F0, A0⟩) Nn rv).1, (start_slots (N := ⟨K, H, F0, A0⟩) Nn rv).2⟩, ?_⟩
    · cases fit with
      | rt => exact fun v F' A' H' e p rc' rv' => hq v F' A' H' rc' rv'
      | rtT hn => exact fun v F' A' H' e p rc' rv' => hq v F' _ H' (rc'.trim (by show A0.length ≤ _; omega)) rv'
      | nx => exact fun σ' F' A' H' e p R' => hq .non F' A' H' R'.rc .non
      | nxT hn => exact fun σ' F' A' H' e p R' => hq .non F' _ H' (R'.rc.trim (by show A0.length ≤ _; omega)) .non
      | xx => exact fun σ' dx v F' A' H' e p R' h1 h2 => hq dx v F' A' H' R'.rc h1 h2
      | xxT hn => exact fun σ' dx v F' A' H' e p R' h1 h2 => hq dx v F' _ H' (R'.rc.trim (by show A0.length ≤ _; omega)) h1 h2
/-! ## what was heard: (None, what came back) or (the error, None) -/
def TTh (K : PySem.W.Frag) (CK : Addr) : (XK → Hp → VK → Prop) → Hp → VK → Prop := fun tl H Q => ∀ t, H t = none →
  tl (fun cls d H' => PySem.W.exmOne K cls (.ref CK) = some true ∧ ∀ a, H' a = none → ∀ p, (upd H' a (KpO cls d a)) p = none → Q (.ref p) (upd (upd H' a (KpO cls d a)) p (.tup [.ref a, .non]))) (upd H t (.tup [.non, .non]))
    (fun v H' => ∀ p, H' p = none → Q (.ref p) (upd H' p (.tup [.non, v])))
theorem EndE.imp {N : En} {W W' : WX} {σ : L2.St} {δ : List (Option S)} {F : Hp} {A : List Addr} {μ : List M} {Q Q' : VK} {r : Rx} (k : EndE N W σ δ F A μ Q r) (hW : ∀ c d σ H, W c d σ H → W' c d σ H) (hQ : ∀ v H, Q v H → Q' v H) : EndE N W' σ δ F A μ Q' r := by
  cases r with
  | v s => exact fun v F' A' H' e p R' rv => hQ _ _ (k v F' A' H' e p R' rv)
  | x C d => exact fun dx v F' A' H' e p R' h1 h2 => hW _ _ _ _ (k dx v F' A' H' e p R' h1 h2)
inductive HR (K : PySem.W.Frag) (CK : Addr) : Rx → D → Prop
  | v (d) : HR K CK (.v (.p d)) (.tup [.non, d])
  | x {C d} : PySem.W.exmOne K (.ref C) (.ref CK) = some true → HR K CK (.x C d) (.tup [.exc C d, .non])
/-- the def that hears, as it stands behind the top -/
structure Ch (K : PySem.W.Frag) (mg : Str → Option Value) (x a err : Str) (st : Stmt) (Ng : List Str) (CK : Addr) : Prop where
  ex : ∃ (g : Addr) (oc kV doc pm cdv ct : Value) (od an : Option Addr) (osl : Array (Option Value)), K.lookup g = some ⟨oc, od, .func (PySem.W.fnOf x x (defArgs st) (defBody st) (defScope st) .none kV doc pm an cdv ct), osl⟩ ∧ PySem.W.codeIn K cdv x = true ∧
    mg x = some (.ref g) ∧ PySem.W.keepIn K (.ref g) = true ∧ Binds K (PySem.W.fnOf x x (defArgs st) (defBody st) (defScope st) .none kV doc pm an cdv ct) [a] []
  eat : mg err = some (.ref CK)
  sc : FnScope Ng [a] (defScope st)
  n0 : Ng[0]? = some a
  v0 : Vis (defScope st) a
  gives : ∀ X : Cx, X.mg err = some (.ref CK) → ∀ g cdg q, GivesD X Ng x (defScope st) g cdg (defBody st) a q (TTh X.K CK)
section
variable {X : Cx} {N : En} {W : WX} {n : Nat} {δ : List (Option S)} {μ μ' : List M} {res : D} {r0 : Rx}
theorem de_heard {x a err : Str} {st : Stmt} {Ng : List Str} {CK c P : Addr} {j k : Nat} {params : Arguments} {bdy : Expr} {scope : Scope} {p lpos pos : Pos} (g : Go X N W n) (ch : Ch X.K X.mg x a err st Ng CK) (hT : μ[j]? = some (.tab P (lamQ X))) (TB : LamX.TabB X.base X.mg c P) (hcode : X.env.code = .ref c) (hr : HR X.K CK r0 res)
    (body : ∀ E A outer s H f c', ∀ N' : En, N'.K = N.K → Go (LamX.lamCx X A outer s H E scope f c') N' (fun cls d _ H => E cls d H) k → DE (LamX.lamCx X A outer s H E scope f c') N' (fun cls d _ H => E cls d H) δ μ bdy r0 μ')
    (L : LamX.LamS X.env.scope scope := by exact LamX.lamS_by (by rfl)) (hk : k + 2 ≤ n := by decide) (hg : Gl X x := by rfl) (hdef : defaultsOf params X.env = ([], []) := by rfl)
    (hbind : ∀ (q : Str) (cl : List (Str × Addr)) (pm cv ctv : Value), bindArgs (PySem.W.kla_fn "<lambda>" q params bdy scope cl pm cv ctv) ⟨[], []⟩ = pure [] := by intros; rfl)
    (hdb : (x == ("__debug__" : Str)) = false := by decide) (hd : (a == ("__debug__" : Str)) = false := by decide) (hcd : (a == ("__classdict__" : Str)) = false := by decide) :
    DE X N W δ μ (.Call (.Name x p) [.Lambda params bdy scope lpos] [] pos) (.v (.p res)) μ' := by
  obtain ⟨gA, oc, kV, doc, pm, cdv, ct, od, an, osl, lk, hcg, hm, hkp, hb⟩ := ch.ex
  refine PE.imp (pe_lamD (t := fun E σ H Q => ∃ (N' : En) (F : Hp) (A : List Addr), N'.K = N.K ∧ Rl N' F A H σ δ μ ∧ EndE N' (fun cls d _ H => E cls d H) σ δ F A μ' Q r0) hg hm hkp lk hcg hb ch.sc ch.n0 ch.v0 (ch.gives X ch.eat gA cdv _) TB hcode (g.room.mono hk) L hdef hbind
    (fun E A outer s H f c' hr2 => ⟨fun pins s' σ H' Q I ⟨N', F, A', hK', R, kk⟩ => (body E A outer s H f c' N' hK' ⟨takes_of rfl rfl rfl rfl, rfl, hK'.trans g.hK, hr2, passes_of rfl, g.nd⟩).run pins s' σ H' Q I ⟨F, A', R, kk⟩⟩)
    (fun σ E E' H Q Q' h1 h2 ⟨N', F, A, e, R, kk⟩ => ⟨N', F, A, e, R, EndE.imp kk (fun c d _ h => h1 c d h) h2⟩) hdb hd hcd) fun σ H Q ⟨F, A, R, kk⟩ => ?_
  obtain ⟨aP, hA, e1, ps, tabAt, tri, known⟩ := R.rc.at' hT
  subst e1
  refine ⟨ps, tabAt, tri, fun p v h => ?_, fun c' H1 l1 hco t nt => ?_⟩
  · obtain ⟨b, e, hb⟩ := known p v h
    exact ⟨b, e, R.rc.sub _ _ hb⟩
  obtain ⟨F1, sm, r1, _⟩ := rc_lam R.rc hA hT tabAt tri known l1
  have r2 := r1.junk nt (.tup [.non, .non])
  refine ⟨N, F1, A, rfl, R.to sm (List.prefix_refl _) r2, ?_⟩
  cases hr with
  | v d =>
    intro v F' A' H' e p R' rv q nq
    have s2 := same_updN (o := .tup [.non, v]) (R'.rc.fresh nq).2.1
    exact kk (.ref q) _ A' _ ((sm.trans e).trans s2) p (R'.to s2 (List.prefix_refl _) (R'.rc.frozen nq _)) (.tup (.inl (.inl upd_same)) (.cons .non (.cons (Rep.mono s2 rv) .nil)))
  | @x C d hx =>
    intro dx v F' A' H' e p R' h1 h2
    refine ⟨hx, fun a na q nq => ?_⟩
    have r3 := R'.rc.frozen na (KpO (.ref C) (some dx) a)
    have s3 := same_updN (o := KpO (.ref C) (some dx) a) (R'.rc.fresh na).2.1
    have r4 := r3.frozen nq (.tup [.ref a, .non])
    have s4 := same_updN (o := .tup [.ref a, .non]) (r3.fresh nq).2.1
    exact kk (.ref q) _ A' _ (((sm.trans e).trans s3).trans s4) p (R'.to (s3.trans s4) (List.prefix_refl _) r4) (.tup (.inl (.inl upd_same)) (.cons (.exc (s4 _ _ upd_same) (s4 _ _ (s3 _ _ h1)) (Rep.mono (s3.trans s4) h2)) (.cons .non .nil)))
end
end Dl

set_option Elab.async false
set_option linter.all false
set_option maxRecDepth 100000
set_option maxHeartbeats 4000000
set_option autoImplicit false
namespace Dl
open PySem PySem.Spec PyProof.Rows L2
/-! ## kept exceptions: their class, their value -/
structure XC (K : PySem.W.Frag) (C : Addr) : Prop where
  hga : PySem.W.findIn K (.ref C) "__getattribute__" = some (some (.builtin "BaseException.__getattribute__"))
  hgt : PySem.W.findIn K (.ref C) "__getattr__" = some none
  hsub : PySem.W.subIn K (.ref C) (.type "BaseException") = some true
  hd : PySem.W.hasDictIn K C = true
  ha : PySem.W.findIn K (.ref C) "__class__" = some (some (.builtin "object.__class__"))
  hn : PySem.W.specialIn K (.builtin "object.__class__") "__get__" = some (some (.builtin "getset_descriptor.__get__"))
  htk : PySem.W.takesIn K (.builtin "object.__class__") = some true
  hm : PySem.W.mroIn K C (.type "object") = some true
  nv : PySem.W.findIn K (.ref C) "value" = some none
theorem XC.cl {K : PySem.W.Frag} {C : Addr} (c : XC K C) : (PySem.W.clsIn K C).isSome = true := by
  have h := c.hd
  unfold PySem.W.hasDictIn at h
  cases e : PySem.W.clsIn K C with
  | none => rw [e] at h; cases h
  | some x => rfl
/-! ## == at depth -/
mutual
inductive PyD : D → PyData → Prop
  | non : PyD .non .none
  | bl (b) : PyD (.bl b) (.bool b)
  | int (i) : PyD (.int i) (.int i)
  | str (z) : PyD (.str z) (.str z)
  | tup {ds ps} : PyDs ds ps → PyD (.tup ds) (.tuple ps)
  | lst {ds ps} : PyDs ds ps → PyD (.lst ds) (.list ps)
inductive PyDs : List D → List PyData → Prop
  | nil : PyDs [] []
  | cons {d q ds qs} : PyD d q → PyDs ds qs → PyDs (d :: ds) (q :: qs)
end
mutual
theorem PyD.dp {K : PySem.W.Frag} {F H : Hp} (sm : Same F H) : ∀ {d : D} {q : PyData} {v : V}, PyD d q → Rep K F v d → Dp K H v q
  | _, _, _, .non, h => by cases h; exact .non
  | _, _, _, .bl b, h => by cases h; exact .bl b
  | _, _, _, .int i, h => by cases h; exact .int i
  | _, _, _, .str z, h => by cases h; exact .str z
  | _, _, _, .tup hs, h => by
    obtain ⟨a, ws, rfl, h1, h2⟩ := rep_tup h
    exact .tup (same_sqT sm h1) (PyDs.dp sm hs h2)
  | _, _, _, .lst hs, h => by
    obtain ⟨a, ws, rfl, h1, h2⟩ := rep_lst h
    exact .lst (SqL.of (sm _ _ h1)) (PyDs.dp sm hs h2)
theorem PyDs.dp {K : PySem.W.Frag} {F H : Hp} (sm : Same F H) : ∀ {ds : List D} {qs : List PyData} {vs : List V}, PyDs ds qs → Reps K F vs ds → DpAll K H vs qs
  | _, _, _, .nil, h => by cases h; exact .nil
  | _, _, _, .cons h1 h2, h => by
    cases h with
    | cons r1 r2 => exact .cons (PyD.dp sm h1 r1) (PyDs.dp sm h2 r2)
end
section
variable {X : Cx} {N : En} {W : WX} {n : Nat} {δ δ' δ1 δ2 : List (Option S)} {μ μ' μ1 μ2 μ3 : List M} {e a b c o : Expr} {es : List Expr} {ss : List S} {pos p apos : Pos} {d : D} {s s1 s2 : S} {r : Rx} {R : Rel} {k : Nat} {x m f : Str} {dd : List D} {C : Addr}
/-- where it stands -/
theorem exc_at {pins : List (Addr × Obj)} {σ : L2.St} {H F : Hp} {sh : Shared} {v : V} (I : Inv X pins σ H sh) (sm : Same F H) (h : Rep X.K F v (.exc C d)) : ∃ (ad dx : Addr) (w : V) (oe : Obj) (od : Obj) (u : Value), v = .ref ad ∧ Rep X.K F w d ∧ PySem.W.InstAt sh.heap ad oe C (some od) ∧ PySem.W.lookIn "value" od = some (some u) ∧ RelV w u := by
  obtain ⟨ad, dx, w, rfl, h1, h2, h3⟩ := rep_exc h
  obtain ⟨⟨oe, vs, q1, q2, q3⟩, _⟩ := I.hok ad _ (sm _ _ h1)
  have hx : ObjOk X.prog X.w H sh.heap dx (.xd [("value", w)]) := I.hok dx _ (sm _ _ h2)
  obtain ⟨mA, ns, hr⟩ := hx
  obtain ⟨od, ho, hl⟩ := lookIn_ns ns
  have l : List.lookup ("value" : Str) [(("value" : Str), w)] = some w := by simp [List.lookup]
  obtain ⟨u, hu, ru⟩ := RelO.some_of (v := w) (o := mA "value") (by rw [← l]; exact hr "value")
  exact ⟨ad, dx, w, oe, od, u, rfl, h3, ⟨q1, q2.1, by unfold PySem.W.notCls; rw [q3] <;> rfl, by rw [q2.2]; exact ho⟩, by rw [hl, hu], ru⟩
theorem c_isiX {Dc : Addr} {q : Bool} (g : Go X N W n) (xc : XC X.K C) (h : PySem.W.kitOne X.K (.ref C) (.ref Dc) = some q) : CallOk X N W (.builtin "isinstance") μ [.p (.exc C d), .p (.adr Dc)] (.v (.p (.bl q))) μ := by
  refine ⟨fun xs H Q => ∃ F v, Same F H ∧ Rep X.K F v (.exc C d) ∧ xs = [v, .ref Dc] ∧ Q (.bl q) H, fun pins s σ H xs us Q I r ⟨F, v, sm, rp, e, qq⟩ => ?_, fun σ δ F A H vs Q R rv kk => ?_⟩
  · subst e
    cases r with
    | cons r1 r2 =>
      cases r2 with
      | cons r2 r3 =>
        cases r3
        obtain ⟨ad, dx, w, oe, od, u, rfl, _, J, _, _⟩ := exc_at I sm rp
        cases r1
        cases r2
        exact PySem.W.kia_one (PySem.W.kitx_exc xc.cl xc.hga xc.hgt xc.hsub xc.ha xc.hn xc.htk xc.hm) I.kIn J h (by intro z; cases z) fun tk => ⟨.bl q, H, I.kept (t' := tk) fun _ _ z => z, rfl, qq⟩
  · obtain ⟨v, w, rfl, h1, h2⟩ := two_of rv
    cases rs_adr h2
    exact ⟨F, v, R.rc.sub, by rw [← g.hK]; exact h1, rfl, kk.here R (.bl _)⟩
theorem de_excVal (g : Go X N W n) (xc : XC X.K C) (ho : DE X N W δ μ e (.v (.p (.exc C d))) μ1) (hb : attributeBase e "value" X.env (eval e X.env) = eval e X.env := by rfl) : DE X N W δ μ (.Attribute e "value" pos) (.v (.p d)) μ1 := by
  refine ⟨fun pins s σ H Q I ⟨F, A, R0, q⟩ => attr_of hb (thn (ho.run pins s σ H (fun v H' => ∃ F' A', Same F F' ∧ A <+: A' ∧ Rl N F' A' H' σ δ μ1 ∧ RepS N.K F' A' v (.p (.exc C d))) I ⟨F, A, R0, fun v F' A' H' h1 h2 h3 h4 => ⟨F', A', h1, h2, h3, h4⟩⟩) fun u0 s1 ⟨v, H1, I1, r1, F1, A1, e1, p1, R1, rp⟩ => ?_)⟩
  obtain ⟨ad, dx, w, oe, od, u, rfl, h3, J, hl, ru⟩ := exc_at I1 R1.rc.sub (by rw [← g.hK]; exact rp)
  obtain rfl : u0 = Value.ref ad := r1
  exact HandSPX.exc_get I1.kIn J xc.hga xc.hgt xc.hsub (PySem.W.findObj_own xc.hd xc.nv rfl hl) (handed_of ru) ⟨w, H1, I1.tok _, ru, q w F1 A1 H1 e1 p1 R1 (by rw [g.hK]; exact h3)⟩
/-! ## is None -/
def isNon : D → Bool
  | .non => true
  | _ => false
theorem rep_isNon {K : PySem.W.Frag} {F : Hp} {v : V} (h : Rep K F v d) : decide (v = .non) = isNon d := by
  cases h <;> first | rfl | simp [isNon]
theorem o_isN : OpOk X N W (compareOp .Is) μ (.p d) (.p .non) (.v (.p (.bl (isNon d)))) μ :=
  ⟨_, op_isN, fun σ δ F A H x y Q R rx ry k => ⟨rs_non ry, by rw [rep_isNon (show Rep N.K F x d from rx)]; exact k.here R (.bl _)⟩⟩
theorem o_notN : OpOk X N W (compareOp .IsNot) μ (.p d) (.p .non) (.v (.p (.bl (!isNon d)))) μ :=
  ⟨_, op_notN, fun σ δ F A H x y Q R rx ry k => ⟨rs_non ry, by rw [rep_isNon (show Rep N.K F x d from rx)]; exact k.here R (.bl _)⟩⟩
/-! ## tuples and lists -/
theorem o_catT (g : Go X N W n) {ds es : List D} (hl : ds.length + es.length ≤ sizeLine) : OpOk X N W (binaryOp .Add) μ (.p (.tup ds)) (.p (.tup es)) (.v (.p (.tup (ds ++ es)))) μ :=
  ⟨_, op_catA, fun σ δ F A H x y Q R rx ry k => by
    obtain ⟨a, ws, rfl, h1, h2⟩ := rep_tup (show Rep N.K F x (.tup ds) from rx)
    obtain ⟨b, us, rfl, h3, h4⟩ := rep_tup (show Rep N.K F y (.tup es) from ry)
    refine ⟨a, b, ws, us, rfl, rfl, by rw [← g.hK]; exact same_sqT R.rc.sub h1, by rw [← g.hK]; exact same_sqT R.rc.sub h3, by rw [h2.length, h4.length]; exact hl, fun z => ?_, fun _ z => ?_, fun _ _ p np => ?_⟩
    · subst z
      cases h2
      exact k.here R (.tup h3 h4)
    · subst z
      cases h4
      exact k.here R (.tup h1 (by rw [List.append_nil]; exact h2))
    · have sm := same_updN (o := .tup (ws ++ us)) (R.rc.fresh np).2.1
      exact k (.ref p) _ A _ sm (List.prefix_refl _) (R.to sm (List.prefix_refl _) (R.rc.frozen np _)) (.tup (.inl (.inl upd_same)) ((h2.append h4).mono sm))⟩
theorem reps_flat {K : PySem.W.Frag} {F : Hp} {vs : List V} {ds : List D} (h : Reps K F vs ds) : ∀ j : Nat, Reps K F (List.replicate j vs).flatten (List.replicate j ds).flatten
  | 0 => .nil
  | j + 1 => by
    rw [List.replicate_succ, List.replicate_succ, List.flatten_cons, List.flatten_cons]
    exact h.append (reps_flat h j)
theorem o_repD {ds : List D} {i : Int} (hi : -(2 ^ 63) ≤ i ∧ i < 2 ^ 63) (hl : ds.length * i.toNat ≤ sizeLine) : OpOk X N W (binaryOp .Mult) μ (.p (.lst ds)) (.p (.int i)) (.v (.p (.lst (List.replicate i.toNat ds).flatten))) μ :=
  ⟨_, op_rep, fun σ δ F A H x y Q R rx ry k => by
    obtain ⟨a, ws, rfl, h1, h2⟩ := rep_lst (show Rep N.K F x (.lst ds) from rx)
    refine ⟨a, i, ws, rfl, rs_int ry, R.rc.sub _ _ h1, hi.1, hi.2, by rw [h2.length]; exact hl, fun p np => ?_⟩
    have sm := same_updN (o := .lst (List.replicate i.toNat ws).flatten) (R.rc.fresh np).2.1
    exact k (.ref p) _ A _ sm (List.prefix_refl _) (R.to sm (List.prefix_refl _) (R.rc.frozen np _)) (.lst upd_same ((reps_flat h2 _).mono sm))⟩
theorem c_tupL {ds : List D} : CallOk X N W (.type "tuple") μ [.p (.lst ds)] (.v (.p (.tup ds))) μ :=
  ⟨_, call_tuple_of, fun σ δ F A H vs Q R rv k => by
    obtain ⟨v, rfl, h⟩ := one_of rv
    obtain ⟨a, ws, rfl, h1, h2⟩ := rep_lst (show Rep N.K F v (.lst ds) from h)
    refine ⟨a, ws, rfl, .inl ⟨SqL.of (R.rc.sub _ _ h1), fun p np => ?_⟩⟩
    have sm := same_updN (o := .tup ws) (R.rc.fresh np).2.1
    exact k (.ref p) _ A _ sm (List.prefix_refl _) (R.to sm (List.prefix_refl _) (R.rc.frozen np _)) (.tup (.inl (.inl upd_same)) (h2.mono sm))⟩
theorem o_eqD (g : Go X N W n) {d1 d2 : D} {p1 p2 : PyData} {q : Bool} (h1 : PyD d1 p1) (h2 : PyD d2 p2) (s1 : SeqAt.shaped p1 = true) (s2 : SeqAt.shaped p2 = true) (hq : PyData.eqv p1 p2 = q) : OpOk X N W (compareOp .Eq) μ (.p d1) (.p d2) (.v (.p (.bl q))) μ :=
  ⟨_, op_eqD (by have := g.room.un; omega), fun σ δ F A H x y Q R rx ry k => ⟨p1, p2, by rw [← g.hK]; exact h1.dp R.rc.sub rx, by rw [← g.hK]; exact h2.dp R.rc.sub ry, s1, s2, by rw [hq]; exact k.here R (.bl _)⟩⟩
end
end Dl

set_option Elab.async false
set_option linter.all false
set_option maxRecDepth 100000
set_option maxHeartbeats 4000000
set_option autoImplicit false
namespace Dl
open PySem PySem.Spec PyProof.Rows L2
/-! ## a def's promise where no guard stands around the call: for defs that write out containers -/
structure FnG (P : Program) (w : World) (K : PySem.W.Frag) (mg : Str → Option Value) (base : Heap) (CX : CXT) (k : Nat) (f : Addr) (fd : FuncData) (ps : List Str) (sp : Sp) : Prop where
  len : ∀ vs H Q E, sp vs H Q E → vs.length = ps.length
  go : ∀ (A : Around) (outer : List Env) (s : Shared) (H : Hp) (args : Args) (us : List Value) (vs : List V) (Q : VK) (E : XK), A.guards = some [] → Room k A → Env0 P w K mg base A outer s H → BindsTo s fd args (ps.zip us) → Vals vs us → sp vs H Q E →
    codeAny (model P w) A (.call (.ref f) args) (CR CX outer P w H s Q E) s
section
variable {P : Program} {w : World} {K : PySem.W.Frag} {mg : Str → Option Value} {base : Heap} {CX : CXT} {k j : Nat} {f : Addr} {fd : FuncData} {ps : List Str} {sp : Sp}
theorem FnG.of (F : FnOk P w K mg base CX k f fd ps sp) : FnG P w K mg base CX k f fd ps sp := ⟨F.len, fun A outer s H args us vs Q E _ => F.run A outer s H args us vs Q E⟩
theorem FnG.up (F : FnG P w K mg base CX j f fd ps sp) (h : j ≤ k) : FnG P w K mg base CX k f fd ps sp := ⟨F.len, fun A outer s H args us vs Q E hg hr => F.go A outer s H args us vs Q E hg (hr.mono h)⟩
end
/-- a def of the module by its name, called where no guard stands -/
structure Cg (P : Program) (w : World) (K : PySem.W.Frag) (mg : Str → Option Value) (base : Heap) (k : Nat) (x : Str) (dd : List D) (R : Rel) : Prop where
  ex : ∃ (f : Addr) (fd : FuncData) (ps : List Str) (ds : List Value) (dvs : List V), FnG P w K mg base (L2.CX P w) k f fd ps (spD K R) ∧ mg x = some (.ref f) ∧ PySem.W.keepIn K (.ref f) = true ∧ Binds K fd ps ds ∧ Vals dvs ds ∧ ∀ F, Reps K F dvs dd
theorem Cg.of {P : Program} {w : World} {K : PySem.W.Frag} {mg : Str → Option Value} {base : Heap} {k : Nat} {x : Str} {dd : List D} {R : Rel} (c : Cf P w K mg base k x dd R) : Cg P w K mg base k x dd R := by
  obtain ⟨f, fd, ps, ds, dvs, Fo, r⟩ := c.ex
  exact ⟨f, fd, ps, ds, dvs, .of Fo, r⟩
section
variable {X : Cx} {N : En} {W : WX} {n k : Nat} {δ : List (Option S)} {μ μ1 μ2 μ' : List M} {e : Expr} {es : List Expr} {ss : List S} {dd : List D} {r : Rx} {R : Rel} {x : Str} {p pos : Pos}
theorem call_fnG {pins : List (Addr × Obj)} {σ : L2.St} {H : Hp} {sh : Shared} {F : Hp} {A : List Addr} {Q : VK} {us : List Value} {vs dvs : List V} {ds : List Value} {f : Addr} {fd : FuncData} {ps : List Str} (g : Go X N W n) (gd : X.A.guards = some []) (hk : k ≤ n)
    (Fo : FnG X.prog X.w X.K X.mg X.base (L2.CX X.prog X.w) k f fd ps (spD X.K R)) (hb : Binds X.K fd ps ds) (hd : Vals dvs ds) (rd : ∀ F, Reps X.K F dvs dd) (I : Inv X pins σ H sh) (R0 : Rl N F A H σ δ μ) (rv : RepSs N.K F A vs ss) (ru : Vals vs us)
    (hR : R (ss ++ dd.map S.p) μ r μ') (q : EndE N W σ δ F A μ' Q r) : wpAny (model X.prog X.w) X.A (call (.ref f) us) (EP X pins σ Q) X.xe sh := by
  have hK := g.hK
  have hs : spD X.K R (vs ++ dvs) H Q (WE W σ) := by
    rw [← hK] at rd ⊢
    exact spD_in hR R0 (rv.append (of_reps (rd F))) q.wish
  have rr : Vals (vs ++ dvs) (us ++ ds) := ru.append hd
  have hl : (us ++ ds).length = ps.length := by rw [← rr.length]; exact Fo.len _ _ _ _ hs
  refine wpAny_call (codeAny_mono (Fo.go X.A X.stack sh H ⟨us, []⟩ (us ++ ds) (vs ++ dvs) Q (WE W σ) gd (g.room.mono hk) I.env0 (hb sh us I.kIn hl) rr hs) fun z s' hq => ?_)
  match z, hq with
  | .error _, hq => exact passAt g.tk σ pins _ _ _ s' I hq
  | .ok (.ret _), hq => exact I.after hq
theorem de_callG (g : Go X N W n) (gd : X.A.guards = some []) (cf : Cg X.prog X.w X.K X.mg X.base k x dd R) (ha : DA X N W δ μ (e :: es) ss μ1) (hR : R (ss ++ dd.map S.p) μ1 r μ2) (hk : k ≤ n := by decide) (hg : Gl X x := by rfl) (hdb : (x == ("__debug__" : Str)) = false := by decide)
    (he : starEach (e :: es) X.env = (false, eval e X.env) :: starEach es X.env := by rfl) (hpl : (backTo pos (starEach es X.env)).any (·.1) = false := by rfl) : DE X N W δ μ (.Call (.Name x p) (e :: es) [] pos) r μ2 := by
  obtain ⟨f, fd, ps, ds, dvs, Fo, hm, hkp, hb, hd, rd⟩ := cf.ex
  refine ⟨fun pins s σ H Q I ⟨F, A, R0, q⟩ => ?_⟩
  refine wpAny_Call_Name_kw (ld_glob I hg hm ?_ hdb)
  refine PySem.W.callWith_K (h₀ := X.base) I.ok.mod.kin hkp (thn (ha.run pos pins s σ H (fun vs H' => ∃ F' A', Same F F' ∧ A <+: A' ∧ Rl N F' A' H' σ δ μ1 ∧ RepSs N.K F' A' vs ss) I ⟨F, A, R0, fun vs F' A' H' h1 h2 h3 h4 => ⟨F', A', h1, h2, h3, h4⟩⟩) fun us s1 ⟨vs, H1, I1, r1, F1, A1, e1, p1, R1, rv⟩ => ⟨I1.kIn, ?_⟩) he hpl
  exact call_fnG g gd hk Fo hb hd rd I1 R1 rv r1 hR (q.to e1 p1)
theorem de_callG0 (g : Go X N W n) (gd : X.A.guards = some []) (cf : Cg X.prog X.w X.K X.mg X.base k x dd R) (hR : R (dd.map S.p) μ r μ2) (hk : k ≤ n := by decide) (hg : Gl X x := by rfl) (hdb : (x == ("__debug__" : Str)) = false := by decide) : DE X N W δ μ (.Call (.Name x p) [] [] pos) r μ2 := by
  obtain ⟨f, fd, ps, ds, dvs, Fo, hm, hkp, hb, hd, rd⟩ := cf.ex
  refine ⟨fun pins s σ H Q I ⟨F, A, R0, q⟩ => ?_⟩
  refine wpAny_Call_Name_kw (ld_glob I hg hm ?_ hdb)
  exact PySem.W.callWith_K0 I.kIn hkp (call_fnG (us := []) (ss := []) g gd hk Fo hb hd rd I R0 .nil .nil hR q)
end
/-- as fn_D, for a body that may count on it that no guard stands around -/
theorem fn_G {P : Program} {w : World} {K : PySem.W.Frag} {mg : Str → Option Value} {base : Heap} {x qual : Str} {st : Stmt} {f : Addr} {fd : FuncData} {Nn ps : List Str} {k : Nat} {R : Rel} (F : Fun K x qual st f fd) (Sc : FnScope Nn ps (defScope st)) (hlen : ∀ ss μ r μ', R ss μ r μ' → ss.length = ps.length)
    (body : ∀ (cdv : Value) (A : Around) (outer : List Env) (s : Shared) (H : Hp) (E : XK) (N : En) (W : WX) (ss : List S) (μ : List M) (r : Rx) (μ' : List M), Go (cxOf (L2.CX P w) P w K mg base Nn qual (defScope st) f cdv A outer s H E) N W k → (cxOf (L2.CX P w) P w K mg base Nn qual (defScope st) f cdv A outer s H E).A.guards = some [] → N.A0.length = μ.length → R ss μ r μ' →
      ∃ o, DSs (cxOf (L2.CX P w) P w K mg base Nn qual (defScope st) f cdv A outer s H E) N W (starts Nn ss) μ (defBody st) o ∧ Fit μ.length o r μ') :
    FnG P w K mg base (L2.CX P w) (k + 1) f fd ps (spD K R) := by
  have len : ∀ vs H Q E, spD K R vs H Q E → vs.length = ps.length := fun vs H Q E ⟨F0, A0, ss, μ, r, μ', hR, _, rv, _⟩ => by
    rw [rv.length]
    exact hlen _ _ _ _ hR
  obtain ⟨oc, od, kV, doc, pm, an, cdv, ct, osl, rfl, lk, hcd⟩ := F.ex
  refine ⟨len, fun A outer s H args us vs Q E hg hr e0 hb hv hsp => ?_⟩
  refine LamX.run_ofS lk hcd Sc hr e0 hb hv (len _ _ _ _ hsp) fun hr1 => ?_
  obtain ⟨F0, A0, ss, μ, r, μ', hR, rc, rv, hq⟩ := hsp
  have g : Go (cxOf (L2.CX P w) P w K mg base Nn qual (defScope st) f cdv A outer s H E) ⟨K, H, F0, A0⟩ (fun cls d _ H => E cls d H) k :=
    ⟨takes_of rfl rfl rfl rfl, rfl, rfl, hr1, passes_of rfl, Sc.nd⟩
  have h0 : A0.length = μ.length := rc.len
  obtain ⟨o, hd, fit⟩ := body cdv A outer s H E ⟨K, H, F0, A0⟩ _ ss μ r μ' g hg h0 hR
  refine ⟨_, hd, F0, A0, ⟨rc, (start_slots (N := ⟨K, H, F0, A0⟩) Nn rv).1, (start_slots (N := ⟨K, H, F0, A0⟩) Nn rv).2⟩, ?_⟩
  cases fit with
  | rt => exact fun v F' A' H' e p rc' rv' => hq v F' A' H' rc' rv'
  | rtT hn => exact fun v F' A' H' e p rc' rv' => hq v F' _ H' (rc'.trim (by show A0.length ≤ _; omega)) rv'
  | nx => exact fun σ' F' A' H' e p R' => hq .non F' A' H' R'.rc .non
  | nxT hn => exact fun σ' F' A' H' e p R' => hq .non F' _ H' (R'.rc.trim (by show A0.length ≤ _; omega)) .non
  | xx => exact fun σ' dx v F' A' H' e p R' h1 h2 => hq dx v F' A' H' R'.rc h1 h2
  | xxT hn => exact fun σ' dx v F' A' H' e p R' h1 h2 => hq dx v F' _ H' (R'.rc.trim (by show A0.length ≤ _; omega)) h1 h2
end Dl

set_option Elab.async false
set_option linter.all false
set_option maxRecDepth 100000
set_option maxHeartbeats 4000000
set_option autoImplicit false
namespace Dl
open PySem PySem.Spec PyProof.Rows L2
/-! ## repr of data: None, bools, ints, texts, lists, tuples of them at any depth -/
mutual
def py : D → PyData
  | .bl b => .bool b
  | .int i => .int i
  | .str x => .str x
  | .tup ds => .tuple (pyAll ds)
  | .lst ds => .list (pyAll ds)
  | _ => .none
def pyAll : List D → List PyData
  | [] => []
  | d :: ds => py d :: pyAll ds
end
mutual
def isPy : D → Bool
  | .non | .bl _ | .int _ | .str _ => true
  | .tup ds | .lst ds => arePy ds
  | _ => false
def arePy : List D → Bool
  | [] => true
  | d :: ds => isPy d && arePy ds
end
mutual
theorem rep_dp {K : PySem.W.Frag} {F H : Hp} (e : Same F H) : ∀ {d : D} {v : V}, Rep K F v d → isPy d = true → Dp K H v (py d)
  | _, _, .non, _ => by simpa only [py] using Dp.non
  | _, _, .bl b, _ => by simpa only [py] using Dp.bl b
  | _, _, .int i, _ => by simpa only [py] using Dp.int i
  | _, _, .str x, _ => by simpa only [py] using Dp.str x
  | _, _, .tup h r, p => by
    simp only [isPy] at p
    simpa only [py] using Dp.tup (same_sqT e h) (reps_dp e r p)
  | _, _, .lst h r, p => by
    simp only [isPy] at p
    simpa only [py] using Dp.lst (.inl (.inl (e _ _ h))) (reps_dp e r p)
  | _, _, .ty _, p => by simp [isPy] at p
  | _, _, .adr _, p => by simp [isPy] at p
  | _, _, .dic _ _, p => by simp [isPy] at p
  | _, _, .ins _ _, p => by simp [isPy] at p
  | _, _, .exc _ _ _, p => by simp [isPy] at p
  | _, _, .sc _, p => by simp [isPy] at p
theorem reps_dp {K : PySem.W.Frag} {F H : Hp} (e : Same F H) : ∀ {ds : List D} {vs : List V}, Reps K F vs ds → arePy ds = true → DpAll K H vs (pyAll ds)
  | _, _, .nil, _ => by simpa only [pyAll] using DpAll.nil
  | _, _, .cons r rs, p => by
    simp only [arePy, Bool.and_eq_true] at p
    simpa only [pyAll] using DpAll.cons (rep_dp e r p.1) (reps_dp e rs p.2)
end
mutual
theorem py_noDict : ∀ d : D, (py d).hasDict = false
  | .tup ds => by simpa only [py, PyData.hasDict] using pyAll_noDict ds
  | .lst ds => by simpa only [py, PyData.hasDict] using pyAll_noDict ds
  | .bl _ | .int _ | .str _ | .non | .ty _ | .adr _ | .dic _ _ | .ins _ _ _ | .exc _ _ | .sc _ => by simp only [py, PyData.hasDict]
theorem pyAll_noDict : ∀ ds : List D, PyData.hasDictAll (pyAll ds) = false
  | [] => by simp only [pyAll, PyData.hasDictAll]
  | d :: ds => by simp only [pyAll, PyData.hasDictAll, py_noDict d, pyAll_noDict ds, Bool.or_self]
end
section
variable {X : Cx} {N : En} {W : WX} {n : Nat} {δ : List (Option S)} {μ μ1 : List M} {e : Expr} {p1 pos : Pos} {d : D}
theorem cr_repr (gd : X.A.guards = some []) (hu : X.A.units + 200 < cLine) : CallR X (.builtin "repr") (fun xs H Q => ∃ (v : V) (d : PyData), xs = [v] ∧ Dp X.K H v d ∧ d.showable = true ∧ d.hasDict = false ∧ d.depth ≤ 100 ∧ d.shown.length ≤ sizeLine ∧ Q (.str d.shown) H) := by
  intro pins s σ H xs us Q I r ⟨v, d, ex, hd, sh, nd, dp, sz, k⟩
  subst ex
  obtain ⟨u, rfl, ru⟩ := vals1 r
  obtain ⟨as, rd⟩ := Dp.reads I d v u hd ru
  have fin : ∀ (h' : Heap) (t : Tok) (tk : Nat), (∀ b o, s.heap.get? b = some o → h'.get? b = some o) → EP X pins σ Q (.str d.shown t) { s with heap := h', toks := tk } := fun h' t tk kp => ⟨.str d.shown, H, I.kept kp, ⟨t, rfl⟩, k⟩
  cases rd with
  | none => exact PySem.P.repr_of_none (by simpa only [PyData.shown] using fin s.heap s.toks (s.toks + 1) fun _ _ e => e)
  | bool b => exact PySem.P.repr_of_bool (by simpa only [PyData.shown] using fin s.heap s.toks (s.toks + 1) fun _ _ e => e)
  | int i t => exact PySem.P.repr_of_int (by simpa [PyData.showable] using sh) (by simpa only [PyData.shown] using fin s.heap s.toks (s.toks + 1) fun _ _ e => e)
  | str x t => exact PySem.P.repr_of_str (by simpa only [PyData.shown] using fin s.heap s.toks (s.toks + 1) fun _ _ e => e) (by simpa only [PyData.shown] using sz)
  | list h1 h2 h3 h4 => exact repr_of_reads' (.list h1 h2 h3 h4) sh (PyData.noDict_hsm nd) gd (by omega) (fun _ _ e => e) (fun h' t tk kp => fin h' t tk kp) sz
  | tuple h1 h2 h3 h4 => exact repr_of_reads' (.tuple h1 h2 h3 h4) sh (PyData.noDict_hsm nd) gd (by omega) (fun _ _ e => e) (fun h' t tk kp => fin h' t tk kp) sz
  | dict h1 h2 h3 h4 h5 => simp [PyData.hasDict] at nd
/-- repr(e), e data -/
theorem de_repr (g : Go X N W n) (gd : X.A.guards = some []) (h : DE X N W δ μ e (.v (.p d)) μ1) (ip : isPy d = true) (sh : (py d).showable = true) (dp : (py d).depth ≤ 100) (sz : (py d).shown.length ≤ sizeLine) (hm : X.mg "repr" = none) (hg : Gl X "repr" := by rfl)
    (h1 : starEach [e] X.env = (false, eval e X.env) :: starEach [] X.env := by rfl) : DE X N W δ μ (.Call (.Name "repr" p1) [e] [] pos) (.v (.p (.str (py d).shown))) μ1 :=
  PE.imp (pe_callB (cr_repr gd (by have := g.room.un; omega)) hg hm (by decide +kernel) (pa_cons h pa_nil h1) (by decide) (by decide) h1 (by rfl)) fun σ H Q ⟨F, A, R0, k⟩ => ⟨F, A, R0, fun v F1 A1 H1 e1 p1 R1 rv => by
    have rv' : Rep N.K F1 v d := rv
    have hK := g.hK
    rw [hK] at rv'
    exact ⟨v, py d, rfl, rep_dp R1.rc.sub rv' ip, sh, py_noDict d, dp, sz, k (.str (py d).shown) F1 A1 H1 e1 p1 R1 (.str _)⟩⟩
end
end Dl

set_option Elab.async false
set_option linter.all false
set_option maxRecDepth 100000
set_option maxHeartbeats 4000000
set_option autoImplicit false
namespace Dl
open PySem PySem.Spec PyProof.Rows L2
/-! ## repr of a dict, its keys ints and texts, its values None, bools, ints, texts -/
def keyPy : Key → PyData
  | .inl i => .int i
  | .inr x => .str x
def pyD : D → PyData
  | .dic ks ds => .dict ((ks.map keyPy).zip (pyAll ds))
  | d => py d
def scal : D → Bool
  | .non | .bl _ | .int _ | .str _ => true
  | _ => false
def isPyD : D → Bool
  | .dic _ ds => ds.all scal
  | d => isPy d
theorem scal_reads {K : PySem.W.Frag} {F : Hp} {h : Heap} {v : V} {u : Value} {d : D} (r : Rep K F v d) (s : scal d = true) (ru : RelV v u) : Reads h u (py d) [] := by
  cases r with
  | non => cases ru; simpa only [py] using Reads.none
  | bl b => cases ru; simpa only [py] using Reads.bool b
  | int i => obtain ⟨t, rfl⟩ := ru; simpa only [py] using Reads.int i t
  | str x => obtain ⟨t, rfl⟩ := ru; simpa only [py] using Reads.str x t
  | _ => simp [scal] at s
theorem entries_read {P : Program} {w : World} {K : PySem.W.Frag} {F : Hp} {h : Heap} : ∀ {es : List DictEntry} {vs : List (Key × Value)} {kvs : List (Key × V)} {ds : List D}, Pairs (mixKind P w) es vs → KV kvs vs → Reps K F (kvs.map (·.2)) ds → ds.all scal = true →
    ReadsAll h (es.map (·.key)) ((((kvs.map (·.1)).map keyPy).zip (pyAll ds)).map (·.1)) [] ∧ ReadsAll h (es.map (·.val)) ((((kvs.map (·.1)).map keyPy).zip (pyAll ds)).map (·.2)) []
  | _, _, [], _, hp, hk, r, _ => by
    cases hk
    cases hp
    cases r
    exact ⟨.nil, .nil⟩
  | _, _, (k, v) :: kvs, _, hp, hk, r, a => by
    cases hk with
    | cons q1 q2 =>
      cases hp with
      | cons p1 p2 p3 =>
        cases r with
        | cons r1 r2 =>
          simp only [List.all_cons, Bool.and_eq_true] at a
          obtain ⟨e1, e2⟩ := entries_read (h := h) p3 q2 r2 a.2
          have kk := (show keyIs _ _ = true from p1)
          rw [← (show k = _ from q1.1)] at kk
          have rk : ∀ z : Value, keyIs k z = true → Reads h z (keyPy k) [] := fun z kk => by
            rcases keyIs_shape kk with ⟨i, t, rfl, e⟩ | ⟨x, t, rfl, e⟩
            · rw [e]; exact Reads.int i t
            · rw [e]; exact Reads.str x t
          refine ⟨?_, ?_⟩
          · simp only [List.map_cons, pyAll, List.zip_cons_cons]
            exact .cons (as := []) (bs := []) (rk _ kk) e1
          · simp only [List.map_cons, pyAll, List.zip_cons_cons]
            refine .cons (as := []) (bs := []) ?_ e2
            rw [p2]
            exact scal_reads r1 a.1 q1.2
section
variable {X : Cx} {N : En} {W : WX} {n : Nat} {δ : List (Option S)} {μ μ1 : List M} {e : Expr} {p1 pos : Pos} {d : D} {pins : List (Addr × Obj)} {σ : L2.St} {F H : Hp} {s : Shared}
theorem rep_reads (I : Inv X pins σ H s) (sm : Same F H) {v : V} {u : Value} (r : Rep X.K F v d) (ru : RelV v u) (ip : isPyD d = true) : ∃ as, Reads s.heap u (pyD d) as ∧ ((pyD d).hasDict = true → sysModules ∉ as) := by
  by_cases hp : isPy d = true
  · have e : pyD d = py d := by cases d <;> first | rfl | simp [isPy] at hp
    obtain ⟨as, q⟩ := Dp.reads I (py d) v u (rep_dp sm r hp) ru
    exact ⟨as, by rw [e]; exact q, by rw [e, py_noDict]; exact fun z => by cases z⟩
  · cases r with
    | dic h1 h2 =>
      rename_i a kvs ds
      cases (show u = Value.ref a from ru)
      simp only [isPyD] at ip
      obtain ⟨_, ns, vs, kv, o, es, ep, g1, g2, g3, g4, g5, g6⟩ := (show ObjOk X.prog X.w H s.heap a (.dK kvs) from I.hok a _ (sm _ _ h1))
      obtain ⟨e1, e2⟩ := entries_read (h := s.heap) g5 kv h2 ip
      refine ⟨_, Reads.dict g1 g2.1 g3 e1 e2, fun _ z => ?_⟩
      simp only [List.append_nil, List.mem_singleton] at z
      rw [z] at ns
      simp at ns
    | _ => simp_all [isPyD]
theorem cr_reprD (gd : X.A.guards = some []) (hu : X.A.units + 200 < cLine) : CallR X (.builtin "repr") (fun xs H Q => ∃ (v : V) (d : D) (F : Hp), xs = [v] ∧ Rep X.K F v d ∧ Same F H ∧ isPyD d = true ∧ (pyD d).showable = true ∧ (pyD d).depth ≤ 100 ∧ (pyD d).shown.length ≤ sizeLine ∧ Q (.str (pyD d).shown) H) := by
  intro pins s σ H xs us Q I r ⟨v, d, F, ex, hd, sm, ip, sh, dp, sz, k⟩
  subst ex
  obtain ⟨u, rfl, ru⟩ := vals1 r
  obtain ⟨as, rd, ns⟩ := rep_reads I sm hd ru ip
  generalize pyD d = d at rd ns sh dp sz k
  have fin : ∀ (h' : Heap) (t : Tok) (tk : Nat), (∀ b o, s.heap.get? b = some o → h'.get? b = some o) → EP X pins σ Q (.str d.shown t) { s with heap := h', toks := tk } := fun h' t tk kp => ⟨.str d.shown, H, I.kept kp, ⟨t, rfl⟩, k⟩
  cases rd with
  | none => exact PySem.P.repr_of_none (by simpa only [PyData.shown] using fin s.heap s.toks (s.toks + 1) fun _ _ e => e)
  | bool b => exact PySem.P.repr_of_bool (by simpa only [PyData.shown] using fin s.heap s.toks (s.toks + 1) fun _ _ e => e)
  | int i t => exact PySem.P.repr_of_int (by simpa [PyData.showable] using sh) (by simpa only [PyData.shown] using fin s.heap s.toks (s.toks + 1) fun _ _ e => e)
  | str x t => exact PySem.P.repr_of_str (by simpa only [PyData.shown] using fin s.heap s.toks (s.toks + 1) fun _ _ e => e) (by simpa only [PyData.shown] using sz)
  | list h1 h2 h3 h4 => exact repr_of_reads' (.list h1 h2 h3 h4) sh ns gd (by omega) (fun _ _ e => e) (fun h' t tk kp => fin h' t tk kp) sz
  | tuple h1 h2 h3 h4 => exact repr_of_reads' (.tuple h1 h2 h3 h4) sh ns gd (by omega) (fun _ _ e => e) (fun h' t tk kp => fin h' t tk kp) sz
  | dict h1 h2 h3 h4 h5 => exact repr_of_reads' (.dict h1 h2 h3 h4 h5) sh ns gd (by omega) (fun _ _ e => e) (fun h' t tk kp => fin h' t tk kp) sz
/-- repr(e), e data or a dict of plain values -/
theorem de_reprD (g : Go X N W n) (gd : X.A.guards = some []) (h : DE X N W δ μ e (.v (.p d)) μ1) (ip : isPyD d = true) (sh : (pyD d).showable = true) (dp : (pyD d).depth ≤ 100) (sz : (pyD d).shown.length ≤ sizeLine) (hm : X.mg "repr" = none) (hg : Gl X "repr" := by rfl)
    (h1 : starEach [e] X.env = (false, eval e X.env) :: starEach [] X.env := by rfl) : DE X N W δ μ (.Call (.Name "repr" p1) [e] [] pos) (.v (.p (.str (pyD d).shown))) μ1 :=
  PE.imp (pe_callB (cr_reprD gd (by have := g.room.un; omega)) hg hm (by decide +kernel) (pa_cons h pa_nil h1) (by decide) (by decide) h1 (by rfl)) fun σ H Q ⟨F, A, R0, k⟩ => ⟨F, A, R0, fun v F1 A1 H1 e1 p1 R1 rv => by
    have rv' : Rep N.K F1 v d := rv
    have hK := g.hK
    rw [hK] at rv'
    exact ⟨v, d, F1, rfl, rv', R1.rc.sub, ip, sh, dp, sz, k (.str (pyD d).shown) F1 A1 H1 e1 p1 R1 (.str _)⟩⟩
end
end Dl

set_option Elab.async false
set_option linter.all false
set_option maxRecDepth 100000
set_option maxHeartbeats 4000000
set_option autoImplicit false
namespace Dl
open PySem PySem.Spec PyProof.Rows L2
/-! ## repr of data with dicts of plain values in it, at any depth -/
mutual
def pyN : D → PyData
  | .bl b => .bool b
  | .int i => .int i
  | .str x => .str x
  | .tup ds => .tuple (pyNs ds)
  | .lst ds => .list (pyNs ds)
  | .dic ks ds => .dict ((ks.map keyPy).zip (pyAll ds))
  | _ => .none
def pyNs : List D → List PyData
  | [] => []
  | d :: ds => pyN d :: pyNs ds
end
mutual
def isPyN : D → Bool
  | .non | .bl _ | .int _ | .str _ => true
  | .tup ds | .lst ds => arePyN ds
  | .dic _ ds => ds.all scal
  | _ => false
def arePyN : List D → Bool
  | [] => true
  | d :: ds => isPyN d && arePyN ds
end
section
variable {X : Cx} {N : En} {W : WX} {n : Nat} {δ : List (Option S)} {μ μ1 : List M} {e : Expr} {p1 pos : Pos} {d : D} {pins : List (Addr × Obj)} {σ : L2.St} {F H : Hp} {s : Shared}
theorem reads_low {es : Array DictEntry} {sm : Nat} {os : Obj} (hs : s.heap.get? sysModules = some os) (hd : os.data = .dict es sm) : ∀ {a : Addr} {o : Obj} {vs n}, s.heap.get? a = some o → o.data = .seq vs n → a ≠ sysModules := fun h1 h2 z => by
  subst z
  rw [h1] at hs
  cases hs
  rw [h2] at hd
  cases hd
mutual
theorem repN_reads (I : Inv X pins σ H s) (sm : Same F H) : ∀ {v : V} {u : Value} {d : D}, Rep X.K F v d → RelV v u → isPyN d = true → ∃ as, Reads s.heap u (pyN d) as ∧ ∀ a ∈ as, (∃ o vs n, s.heap.get? a = some o ∧ o.data = .seq vs n) ∨ a ≠ sysModules
  | _, _, _, .non, r, _ => by cases r; exact ⟨_, by simpa only [pyN] using Reads.none, fun a h => by cases h⟩
  | _, _, _, .bl b, r, _ => by cases r; exact ⟨_, by simpa only [pyN] using Reads.bool b, fun a h => by cases h⟩
  | _, _, _, .int i, r, _ => by obtain ⟨t, rfl⟩ := r; exact ⟨_, by simpa only [pyN] using Reads.int i t, fun a h => by cases h⟩
  | _, _, _, .str x, r, _ => by obtain ⟨t, rfl⟩ := r; exact ⟨_, by simpa only [pyN] using Reads.str x t, fun a h => by cases h⟩
  | _, _, _, .tup h rs, r, p => by
    simp only [isPyN] at p
    cases r
    obtain ⟨its, rv, ⟨o, ho, hc, n, hd⟩, _⟩ := I.tuple (same_sqT sm h)
    obtain ⟨as, q1, q2⟩ := repNs_reads I sm rs rv p
    exact ⟨as, by simpa only [pyN] using Reads.tuple ho hc hd q1, q2⟩
  | _, _, _, .lst h rs, r, p => by
    simp only [isPyN] at p
    cases r
    obtain ⟨its, rv, ⟨o, n, ho, hc, _, hd⟩, _⟩ := I.list (SqL.of (K := X.K) (sm _ _ h))
    obtain ⟨as, q1, q2⟩ := repNs_reads I sm rs rv p
    refine ⟨_, by simpa only [pyN] using Reads.list ho hc hd q1, fun a ha => ?_⟩
    rcases List.mem_cons.mp ha with rfl | ha
    · exact .inl ⟨o, _, _, ho, hd⟩
    · exact q2 a ha
  | _, _, _, .dic h1 h2, r, p => by
    rename_i a kvs ds
    cases r
    simp only [isPyN] at p
    obtain ⟨_, ns, vs, kv, o, es, ep, g1, g2, g3, g4, g5, g6⟩ := (show ObjOk X.prog X.w H s.heap a (.dK kvs) from I.hok a _ (sm _ _ h1))
    obtain ⟨e1, e2⟩ := entries_read (h := s.heap) g5 kv h2 p
    refine ⟨_, by simpa only [pyN] using Reads.dict g1 g2.1 g3 e1 e2, fun b hb => .inr fun z => ?_⟩
    simp only [List.append_nil, List.mem_singleton] at hb
    subst hb
    rw [z] at ns
    simp at ns
  | _, _, _, .ty _, _, p => by simp [isPyN] at p
  | _, _, _, .adr _, _, p => by simp [isPyN] at p
  | _, _, _, .ins _ _, _, p => by simp [isPyN] at p
  | _, _, _, .exc _ _ _, _, p => by simp [isPyN] at p
  | _, _, _, .sc _, _, p => by simp [isPyN] at p
theorem repNs_reads (I : Inv X pins σ H s) (sm : Same F H) : ∀ {vs : List V} {us : List Value} {ds : List D}, Reps X.K F vs ds → Vals vs us → arePyN ds = true → ∃ as, ReadsAll s.heap us (pyNs ds) as ∧ ∀ a ∈ as, (∃ o vs n, s.heap.get? a = some o ∧ o.data = .seq vs n) ∨ a ≠ sysModules
  | _, _, _, .nil, r, _ => by cases r; exact ⟨_, by simpa only [pyNs] using ReadsAll.nil, fun a h => by cases h⟩
  | _, _, _, .cons q qs, r, p => by
    cases r with
    | cons r1 r2 =>
      simp only [arePyN, Bool.and_eq_true] at p
      obtain ⟨as, a1, a2⟩ := repN_reads I sm q r1 p.1
      obtain ⟨bs, b1, b2⟩ := repNs_reads I sm qs r2 p.2
      refine ⟨_, by simpa only [pyNs] using ReadsAll.cons a1 b1, fun a h => ?_⟩
      rcases List.mem_append.mp h with h | h
      · exact a2 a h
      · exact b2 a h
end
theorem seq_ne (I : Inv X pins σ H s) (ks : ∃ mm, X.base.Ns sysModules mm) {a : Addr} {o : Obj} {vs : Array Value} {n : Nat} (h : s.heap.get? a = some o) (hd : o.data = .seq vs n) : a ≠ sysModules := fun z => by
  subst z
  obtain ⟨mm, o', es, ep, e, d', _⟩ := ks
  have q := I.bk _ _ e
  rw [h] at q
  cases q
  rw [hd] at d'
  cases d'
theorem cr_reprN (gd : X.A.guards = some []) (hu : X.A.units + 200 < cLine) (ks : ∃ mm, X.base.Ns sysModules mm) : CallR X (.builtin "repr") (fun xs H Q => ∃ (v : V) (d : D) (F : Hp), xs = [v] ∧ Rep X.K F v d ∧ Same F H ∧ isPyN d = true ∧ (pyN d).showable = true ∧ (pyN d).depth ≤ 100 ∧ (pyN d).shown.length ≤ sizeLine ∧ Q (.str (pyN d).shown) H) := by
  intro pins s σ H xs us Q I r ⟨v, d, F, ex, hd, sm, ip, sh, dp, sz, k⟩
  subst ex
  obtain ⟨u, rfl, ru⟩ := vals1 r
  obtain ⟨as, rd, hl⟩ := repN_reads I sm hd ru ip
  have ns : (pyN d).hasDict = true → sysModules ∉ as := fun _ hm => by
    rcases hl _ hm with ⟨o, vs, n, h1, h2⟩ | h
    · exact seq_ne I ks h1 h2 rfl
    · exact h rfl
  generalize pyN d = d at rd ns sh dp sz k
  have fin : ∀ (h' : Heap) (t : Tok) (tk : Nat), (∀ b o, s.heap.get? b = some o → h'.get? b = some o) → EP X pins σ Q (.str d.shown t) { s with heap := h', toks := tk } := fun h' t tk kp => ⟨.str d.shown, H, I.kept kp, ⟨t, rfl⟩, k⟩
  cases rd with
  | none => exact PySem.P.repr_of_none (by simpa only [PyData.shown] using fin s.heap s.toks (s.toks + 1) fun _ _ e => e)
  | bool b => exact PySem.P.repr_of_bool (by simpa only [PyData.shown] using fin s.heap s.toks (s.toks + 1) fun _ _ e => e)
  | int i t => exact PySem.P.repr_of_int (by simpa [PyData.showable] using sh) (by simpa only [PyData.shown] using fin s.heap s.toks (s.toks + 1) fun _ _ e => e)
  | str x t => exact PySem.P.repr_of_str (by simpa only [PyData.shown] using fin s.heap s.toks (s.toks + 1) fun _ _ e => e) (by simpa only [PyData.shown] using sz)
  | list h1 h2 h3 h4 => exact repr_of_reads' (.list h1 h2 h3 h4) sh ns gd (by omega) (fun _ _ e => e) (fun h' t tk kp => fin h' t tk kp) sz
  | tuple h1 h2 h3 h4 => exact repr_of_reads' (.tuple h1 h2 h3 h4) sh ns gd (by omega) (fun _ _ e => e) (fun h' t tk kp => fin h' t tk kp) sz
  | dict h1 h2 h3 h4 h5 => exact repr_of_reads' (.dict h1 h2 h3 h4 h5) sh ns gd (by omega) (fun _ _ e => e) (fun h' t tk kp => fin h' t tk kp) sz
/-- what can be written out -/
structure ShN (d : D) : Prop where
  ip : isPyN d = true
  sh : (pyN d).showable = true
  dp : (pyN d).depth ≤ 100
  sz : (pyN d).shown.length ≤ sizeLine
def shNB (d : D) : Bool := isPyN d && (pyN d).showable && decide ((pyN d).depth ≤ 100) && (pyN d).leavesShort 20 && decide ((pyN d).weight ≤ 1000)
theorem shN_of {d : D} (h : shNB d = true) : ShN d := by
  unfold shNB at h
  simp only [Bool.and_eq_true, decide_eq_true_eq] at h
  obtain ⟨⟨⟨⟨h1, h2⟩, h3⟩, h4⟩, h5⟩ := h
  refine ⟨h1, h2, h3, ?_⟩
  have := PyData.shown_le 20 (by decide) _ h4
  have e : sizeLine = 16777216 := by decide
  omega
/-- repr(e), e data, dicts of plain values in it too -/
theorem de_reprN (g : Go X N W n) (gd : X.A.guards = some []) (ks : ∃ mm, X.base.Ns sysModules mm) (h : DE X N W δ μ e (.v (.p d)) μ1) (sd : ShN d) (hm : X.mg "repr" = none) (hg : Gl X "repr" := by rfl)
    (h1 : starEach [e] X.env = (false, eval e X.env) :: starEach [] X.env := by rfl) : DE X N W δ μ (.Call (.Name "repr" p1) [e] [] pos) (.v (.p (.str (pyN d).shown))) μ1 :=
  PE.imp (pe_callB (cr_reprN gd (by have := g.room.un; omega) ks) hg hm (by decide +kernel) (pa_cons h pa_nil h1) (by decide) (by decide) h1 (by rfl)) fun σ H Q ⟨F, A, R0, k⟩ => ⟨F, A, R0, fun v F1 A1 H1 e1 p1 R1 rv => by
    have rv' : Rep N.K F1 v d := rv
    have hK := g.hK
    rw [hK] at rv'
    exact ⟨v, d, F1, rfl, rv', R1.rc.sub, sd.ip, sd.sh, sd.dp, sd.sz, k (.str (pyN d).shown) F1 A1 H1 e1 p1 R1 (.str _)⟩⟩
end
end Dl

set_option Elab.async false
set_option linter.all false
set_option maxRecDepth 100000
set_option maxHeartbeats 4000000
set_option autoImplicit false
namespace Dl
open PySem PySem.Spec PyProof.Rows L2
/-! ## the end, where the law's def is told of as a FnG: at the caller no guard stands -/
/-- what is tracked when the law is called: the tables T, and the script at a unless K knows it -/
noncomputable def hp0 (K : PySem.W.Frag) (T : List Addr) (a : Addr) (o : Obj) (xs : List V) : Hp := fun b =>
  if b ∈ T then some (.tbl #[]) else if b = a ∧ K.lookup a = none then some (.frz o (.lst xs)) else none
section
variable {K : PySem.W.Frag} {T : List Addr} {a b : Addr} {o : Obj} {xs : List V}
theorem hp0_T (h : b ∈ T) : hp0 K T a o xs b = some (.tbl #[]) := if_pos h
theorem hp0_a (h : a ∉ T) (n : K.lookup a = none) : hp0 K T a o xs a = some (.frz o (.lst xs)) := (if_neg h).trans (if_pos ⟨rfl, n⟩)
theorem hp0_cases : (b ∈ T ∧ hp0 K T a o xs b = some (.tbl #[])) ∨ (b ∉ T ∧ b = a ∧ K.lookup a = none ∧ hp0 K T a o xs b = some (.frz o (.lst xs))) ∨ (b ∉ T ∧ (b = a → K.lookup a ≠ none) ∧ hp0 K T a o xs b = none) := by
  by_cases h : b ∈ T
  · exact .inl ⟨h, hp0_T h⟩
  · by_cases h2 : b = a ∧ K.lookup a = none
    · exact .inr (.inl ⟨h, h2.1, h2.2, (if_neg h).trans (if_pos h2)⟩)
    · exact .inr (.inr ⟨h, fun e n => h2 ⟨e, n⟩, (if_neg h).trans (if_neg h2)⟩)
end
theorem law_callG {P : Program} {w : World} {K : PySem.W.Frag} {mg mb : Str → Option Value} {CX : CXT} {k : Nat} {fa a : Addr} {cs : List (Addr × Addr)} {fd : FuncData} {x : Str} {sp : Sp} {s₁ : Shared} {vs : List Value} {ns : List Int}
    (KX : K.In s₁.heap) (hns : s₁.heap.Ns mainGlobals mg) (hb : s₁.heap.Ns builtinsNs mb) (hbb : ∀ x : Str, x ≠ "__name__" → mb x = bootBuiltins x) (hlim : s₁.heap.NoLimit) (hg : s₁.gens = #[])
    (hT : ∀ p ∈ cs, s₁.heap.get? p.2 = some { cls := .none, data := .fields #[] }) (nT : ∀ p ∈ cs, K.lookup p.2 = none) (C : ∀ p ∈ cs, PySem.W.CodeHd s₁.heap p.1 p.2)
    (hbm : ∃ (bm : Addr) (ob : Obj), mg "__builtins__" = some (.ref bm) ∧ bm ≠ builtinsNs ∧ s₁.heap.get? bm = some ob ∧ ob.cls = .type "module" ∧ ob.dict = some builtinsNs ∧ ob.data = .plain)
    (ha : s₁.heap.get? a = some { cls := .type "list", data := .seq vs.toArray }) (hi : IntsAre vs ns) (hl : ns.length ≤ sizeLine) (hr : Room k callerA)
    (F : ∀ base : Heap, K.In base → base.Ns mainGlobals mg → (∀ p ∈ cs, LamX.TabB base mg p.1 p.2) → FnG P w K mg base CX k fa fd [x] sp) (hbind : ∀ (s : Shared) (u : Value), BindsTo s fd ⟨[u], []⟩ [(x, u)])
    (hsp : ∀ H : Hp, (∀ p ∈ cs, H p.2 = some (.tbl #[])) → SqL K H a (ns.map V.int) → sp [.ref a] H (fun v _ => v = .bl true) fun _ _ _ => False)
    (hCX : ∀ H e s', CX [] H s₁ (fun _ _ _ => False) e s' → False) :
    codeAny (model P w) callerA (.call (.ref fa) ⟨[.ref a], []⟩) (fun r s' => r = .ok (.ret (.bool true)) ∧ OldK s₁.heap s'.heap ∧ s'.os = s₁.os ∧ AllBare s'.gens) s₁ := by
  have rv := vals_ints hi
  let ob : Obj := { cls := .type "list", data := .seq vs.toArray }
  let T := cs.map (·.2)
  let H := hp0 K T a ob (ns.map V.int)
  have isT : ∀ {b}, b ∈ T → s₁.heap.get? b = some { cls := .none, data := .fields #[] } ∧ K.lookup b = none := fun hb => by
    obtain ⟨p, hp, rfl⟩ := List.mem_map.mp hb
    exact ⟨hT p hp, nT p hp⟩
  have aT : a ∉ T := fun z => nomatch (congrArg Obj.data (Option.some.inj (ha.symm.trans (isT z).1)) : Data.seq vs.toArray = Data.fields #[])
  -- what K knows, and what is neither a row of values nor an empty table, is not tracked
  have outK : ∀ {b o}, K.lookup b = some o → H b = none := fun {b o} e => by
    rcases hp0_cases (K := K) (T := T) (a := a) (b := b) (o := ob) (xs := ns.map V.int) with ⟨h, _⟩ | ⟨_, rfl, h, _⟩ | ⟨_, _, h⟩
    · rw [(isT h).2] at e; cases e
    · rw [h] at e; cases e
    · exact h
  have outD : ∀ {b o}, s₁.heap.get? b = some o → (∀ vs n, o.data ≠ .seq vs n) → o.data ≠ .fields #[] → H b = none := fun {b o} e h1 h2 => by
    rcases hp0_cases (K := K) (T := T) (a := a) (b := b) (o := ob) (xs := ns.map V.int) with ⟨h, _⟩ | ⟨_, rfl, h, _⟩ | ⟨_, _, h⟩
    · rw [(isT h).1] at e; cases e; exact (h2 rfl).elim
    · rw [ha] at e; cases e; exact (h1 _ _ rfl).elim
    · exact h
  have keepNs : ∀ {b : Addr} {m : Str → Option Value}, s₁.heap.Ns b m → (hidT s₁.heap H).Ns b m := fun ⟨o, es, ep, e, d, r⟩ =>
    ⟨o, es, ep, hidT_get e (outD e (fun _ _ z => nomatch d.symm.trans z) fun z => nomatch d.symm.trans z), d, r⟩
  have hKb : K.In (hidT s₁.heap H) := fun b o e => hidT_get (KX b o e) (outK e)
  have hM : L2.Mod K mg (hidT s₁.heap H) := ⟨hKb, keepNs hns, ⟨mb, keepNs hb, hbb⟩, let ⟨mc, h1, h2⟩ := hlim; ⟨mc, keepNs h1, h2⟩⟩
  have TB : ∀ p ∈ cs, LamX.TabB (hidT s₁.heap H) mg p.1 p.2 := fun p hp => by
    refine ⟨?_, ?_, fun z => ?_⟩
    · obtain ⟨o, us, file, tf, flags, tg, inF, text, tt, e1, r1, r2, r3, r⟩ := C p hp
      refine ⟨o, us, file, tf, flags, tg, inF, text, tt, hidT_get e1 (outD e1 (fun _ _ z => nomatch r2.symm.trans z) fun z => ?_), r1, r2, r3, r⟩
      cases r2.symm.trans z
      simp at r3
    · obtain ⟨bm, o, b1, b2, b3, b4, b5, b6⟩ := hbm
      refine ⟨bm, o, b1, b2, ?_, ?_, hidT_get b3 (outD b3 (fun _ _ z => nomatch b6.symm.trans z) fun z => nomatch b6.symm.trans z), b4, b5, b6⟩
      · rintro rfl
        obtain ⟨o2, es, ep, e, d, _⟩ := hns
        cases b3.symm.trans e
        exact nomatch b6.symm.trans d
      · rintro rfl
        cases b3.symm.trans (hT p hp)
        cases b6
    · obtain ⟨o, es, ep, e, d, _⟩ := hns
      rw [z, hT p hp] at e
      cases e
      cases d
  have hok : HOk P w H s₁.heap := fun b u z => by
    rcases hp0_cases (K := K) (T := T) (a := a) (b := b) (o := ob) (xs := ns.map V.int) with ⟨h, q⟩ | ⟨_, rfl, _, q⟩ | ⟨_, _, q⟩
    · cases q.symm.trans z; exact (isT h).1
    · cases q.symm.trans z; exact ⟨ha, by rw [List.length_map]; exact hl, vs, _, rv, ha⟩
    · cases q.symm.trans z
  have hS : SqL K H a (ns.map V.int) := by
    cases hk : K.lookup a with
    | none => exact .inl (.inr ⟨ob, hp0_a aT hk⟩)
    | some o =>
      cases ha.symm.trans (KX a o hk)
      exact .inr ⟨_, vs.toArray, _, hk, rfl, rfl, rfl, by rw [List.size_toArray, hi.length]; exact hl, by simpa using rv⟩
  have hH : ∀ p ∈ cs, H p.2 = some (.tbl #[]) := fun p hp => hp0_T (List.mem_map.mpr ⟨p, hp, rfl⟩)
  have e0 : Env0 P w K mg (hidT s₁.heap H) callerA [] s₁ H := ⟨rfl, hM, fun b o e => of_hidT e, Nat.le_of_eq (hidT_size _ _), trivial, fun b hb => absurd (show b ∈ ([] : List Addr) from hb) (by simp), hok, .of_eq hg⟩
  refine codeAny_mono ((F _ hKb (keepNs hns) TB).go callerA [] s₁ H ⟨[.ref a], []⟩ [.ref a] [.ref a] _ _ rfl hr e0 (hbind s₁ (.ref a)) (.cons rfl .nil) (hsp H hH hS)) fun r s' h => ?_
  match r, h with
  | .error e, h => exact (hCX H e s' h).elim
  | .ok (.ret u), ⟨v, H', os, bare, un, hok', r', q⟩ =>
    cases (show v = .bl true from q)
    obtain rfl : u = Value.bool true := r'
    have grown : ∀ b ∈ T, ∃ more : Array Value, s'.heap.get? b = some { cls := .none, data := .fields more } := fun b hb => by
      obtain ⟨more, z⟩ := un.tbls b #[] (hp0_T hb)
      exact ⟨_, hok' b _ z⟩
    have kept : ∀ b o, b ∉ T → s₁.heap.get? b = some o → s'.heap.get? b = some o := fun b o nb e => by
      rcases hp0_cases (K := K) (T := T) (a := a) (b := b) (o := ob) (xs := ns.map V.int) with ⟨h, _⟩ | ⟨_, _, _, q⟩ | ⟨_, _, q⟩
      · exact (nb h).elim
      · cases e.symm.trans (hok b _ q).1
        exact (hok' b _ (un.frzs b _ _ q)).1
      · exact un.keep b o e q (fun z => nomatch (show b ∈ ([] : List Addr) from z)) fun z => nomatch z
    refine ⟨rfl, ⟨fun b o e => ?_, fun b o e => ?_⟩, os, bare⟩
    · by_cases hb : b ∈ T
      · obtain ⟨more, hm⟩ := grown b hb
        obtain ⟨p, hp, rfl⟩ := List.mem_map.mp hb
        cases e.symm.trans (hT p hp)
        exact .inr (.inl ⟨((C p hp).tab (hT p hp)).isCodeTable, rfl, #[], more, rfl, by rw [Array.empty_append]; exact hm⟩)
      · exact .inl (kept b o hb e)
    · by_cases hb : b ∈ T
      · obtain ⟨more, hm⟩ := grown b hb
        exact ⟨_, hm⟩
      · exact ⟨o, kept b o hb e⟩
end Dl

set_option Elab.async false
set_option linter.all false
set_option maxRecDepth 100000
set_option maxHeartbeats 4000000
set_option autoImplicit false
namespace Dl
open PySem PySem.Spec PyProof.Rows L2
/-- the law's def and what it promises, at the heap behind the top -/
structure EndG (l : PySem.W.OpenLaw) (w : World) (K : PySem.W.Frag) (k : Nat) (x : Str) (mg : Str → Option Value) (fa : Addr) (h : Heap) (n : Nat) where
  fd : FuncData
  cs : List (Addr × Addr)
  R : Rel
  tab : ∀ p ∈ cs, h.get? p.2 = some { cls := .none, data := .fields #[] } ∧ K.lookup p.2 = none ∧ PySem.W.CodeHd h p.1 p.2
  bind : ∀ (s : Shared) (u : Value), BindsTo s fd ⟨[u], []⟩ [(x, u)]
  holds : ∀ (H : Hp) (a : Addr) (ns : List Int), ns.length ≤ n → (∀ z ∈ ns, Builtin.Int.intBits z ≤ 1048576) → (∀ p ∈ cs, H p.2 = some (.tbl #[])) → SqL K H a (ns.map V.int) → spD K R [.ref a] H (fun v _ => v = .bl true) fun _ _ _ => False
  ok : ∀ base : Heap, K.In base → base.Ns mainGlobals mg → (∀ p ∈ cs, LamX.TabB base mg p.1 p.2) → FnG l.prog w K mg base (L2.CX l.prog w) k fa fd [x] (spD K R)
theorem walk_G {l : PySem.W.OpenLaw} {n k : Nat} {q : Program} {loose : List Str} {XP : (Str → Option Value) → Heap → Prop} {YP : World → Heap → Prop} {d : DefRec} {K : Params → PySem.W.Frag} {x : Str}
    (hn : l.most = some n) (hn2 : n ≤ sizeLine) (hdf : d.params.defaults = []) (hr : Room k callerA) (hY : ∀ (w : World) (h : Heap), YP w h → (K w.params).In h)
    (F : ∀ (w : World) (mg : Str → Option Value) (fa : Addr) (h : Heap), (K w.params).In h → h.Ns mainGlobals mg → mg d.name = some (.ref fa) →
      (∀ (y : Str) (e : DefRec) (c P : Addr), (recsOf q).find? (fun e => e.name == y) = some e → PySem.W.tabIn (K w.params) y = some (c, P) → PySem.W.CodeHd h c P ∧ h.get? P = some (PySem.W.tabObj #[])) → Nonempty (EndG l w (K w.params) k x mg fa h n)) :
    PySem.W.WalkO q loose XP YP l.row.toRowW d [] (fun f vs => PySem.call f vs) := by
  refine Att.attach_callB hn hdf fun w s₀ s₁ mg mb fa o pm cd doc a vs ns G Y ho hd hcd hmg hobj hints hlen hbits hg => ?_
  have inK := hY w _ Y
  obtain ⟨Z⟩ := F w mg fa _ inK G.T.g hmg fun y e c P e1 e2 => PySem.W.tab_of G.T inK e1 e2
  exact law_callG inK G.T.g G.T.b G.T.builtins G.T.nolimit hg (fun p hp => (Z.tab p hp).1) (fun p hp => (Z.tab p hp).2.1) (fun p hp => (Z.tab p hp).2.2) G.T.bmain hobj hints (Nat.le_trans hlen hn2) hr Z.ok Z.bind
    (fun H hH hS => Z.holds H a ns hlen hbits hH hS) fun H e s' h => by obtain ⟨_, _, _, _, _, _, _, _, _, _, _, _, z⟩ := h; exact z
end Dl

set_option Elab.async false
set_option linter.all false
set_option maxRecDepth 100000
set_option maxHeartbeats 4000000
set_option autoImplicit false
namespace Dl
open PySem PySem.Spec PyProof.Rows L2
/-- as fn_Dc (a maker of lambdas: its code object is known), for a body that may count on it that no guard stands around -/
theorem fn_Gc {P : Program} {w : World} {K : PySem.W.Frag} {mg : Str → Option Value} {base : Heap} {x qual : Str} {st : Stmt} {f cA : Addr} {oc kV doc pm ct : Value} {od an : Option Addr} {osl : Array (Option Value)} {Nn ps : List Str} {k : Nat} {R : Rel}
    (lk : K.lookup f = some ⟨oc, od, .func (PySem.W.fnOf x qual (defArgs st) (defBody st) (defScope st) .none kV doc pm an (.ref cA) ct), osl⟩) (hcd : PySem.W.codeIn K (.ref cA) qual = true) (Sc : FnScope Nn ps (defScope st)) (hlen : ∀ ss μ r μ', R ss μ r μ' → ss.length = ps.length)
    (body : ∀ (A : Around) (outer : List Env) (s : Shared) (H : Hp) (E : XK) (N : En) (W : WX) (ss : List S) (μ : List M) (r : Rx) (μ' : List M), Go (cxOf (L2.CX P w) P w K mg base Nn qual (defScope st) f (.ref cA) A outer s H E) N W k → (cxOf (L2.CX P w) P w K mg base Nn qual (defScope st) f (.ref cA) A outer s H E).A.guards = some [] → N.A0.length = μ.length → R ss μ r μ' →
      ∃ o, DSs (cxOf (L2.CX P w) P w K mg base Nn qual (defScope st) f (.ref cA) A outer s H E) N W (starts Nn ss) μ (defBody st) o ∧ Fit μ.length o r μ') :
    FnG P w K mg base (L2.CX P w) (k + 1) f (PySem.W.fnOf x qual (defArgs st) (defBody st) (defScope st) .none kV doc pm an (.ref cA) ct) ps (spD K R) := by
  have len : ∀ vs H Q E, spD K R vs H Q E → vs.length = ps.length := fun vs H Q E ⟨F0, A0, ss, μ, r, μ', hR, _, rv, _⟩ => by
    rw [rv.length]
    exact hlen _ _ _ _ hR
  refine ⟨len, fun A outer s H args us vs Q E hg hr e0 hb hv hsp => ?_⟩
  refine LamX.run_ofS lk hcd Sc hr e0 hb hv (len _ _ _ _ hsp) fun hr1 => ?_
  obtain ⟨F0, A0, ss, μ, r, μ', hR, rc, rv, hq⟩ := hsp
  have g : Go (cxOf (L2.CX P w) P w K mg base Nn qual (defScope st) f (.ref cA) A outer s H E) ⟨K, H, F0, A0⟩ (fun cls d _ H => E cls d H) k :=
    ⟨takes_of rfl rfl rfl rfl, rfl, rfl, hr1, passes_of rfl, Sc.nd⟩
  have h0 : A0.length = μ.length := rc.len
  obtain ⟨o, hd, fit⟩ := body A outer s H E ⟨K, H, F0, A0⟩ _ ss μ r μ' g hg h0 hR
  refine ⟨_, hd, F0, A0, ⟨rc, (start_slots (N := ⟨K, H, F0, A0⟩) Nn rv).1, (start_slots (N := ⟨K, H, F0, A0⟩) Nn rv).2⟩, ?_⟩
  cases fit with
  | rt => exact fun v F' A' H' e p rc' rv' => hq v F' A' H' rc' rv'
  | rtT hn => exact fun v F' A' H' e p rc' rv' => hq v F' _ H' (rc'.trim (by show A0.length ≤ _; omega)) rv'
  | nx => exact fun σ' F' A' H' e p R' => hq .non F' A' H' R'.rc .non
  | nxT hn => exact fun σ' F' A' H' e p R' => hq .non F' _ H' (R'.rc.trim (by show A0.length ≤ _; omega)) .non
  | xx => exact fun σ' dx v F' A' H' e p R' h1 h2 => hq dx v F' A' H' R'.rc h1 h2
  | xxT hn => exact fun σ' dx v F' A' H' e p R' h1 h2 => hq dx v F' _ H' (R'.rc.trim (by show A0.length ≤ _; omega)) h1 h2
end Dl

set_option Elab.async false
set_option linter.all false
set_option maxRecDepth 100000
set_option maxHeartbeats 4000000
set_option autoImplicit false
namespace Dl
open PySem PySem.Spec PyProof.Rows L2
/-! ## dicts written: {}, and one text as key with an int as value -/
section
variable {X : Cx} {N : En} {W : WX} {δ : List (Option S)} {μ : List M} {p1 p2 pos : Pos} {x : Str} {i : Int} {j1 j2}
theorem de_dic0 : DE X N W δ μ (.Dict [] [] pos) (.v (.p (.dic [] []))) μ :=
  PE.imp pe_dnewK fun σ H Q ⟨F, A, R, q⟩ p np => by
    have sm := same_updN (o := .dK []) (R.rc.fresh np).2.1
    exact q (.ref p) _ A _ sm (List.prefix_refl _) (R.to sm (List.prefix_refl _) (R.rc.frozen np _)) (.dic (kvs := []) upd_same .nil)
theorem de_dic1 : DE X N W δ μ (.Dict [some (.Constant (.str x) j1 p1)] [.Constant (.int i) j2 p2] pos) (.v (.p (.dic [.inr x] [.int i]))) μ :=
  PE.imp (pe_disp (pps_cons pe_str pe_int pps_nil) rfl rfl (by simp) (by show 1 ≤ 15; decide)) fun σ H Q ⟨F, A, R, q⟩ p np => by
    have sm := same_updN (o := .dK [((.inr x : Key), V.int i)]) (R.rc.fresh np).2.1
    refine ⟨upd_same, [(.inr x, .int i)], rfl, by show 1 ≤ 15; decide, ?_⟩
    rw [upd_upd]
    exact q (.ref p) _ A _ sm (List.prefix_refl _) (R.to sm (List.prefix_refl _) (R.rc.frozen np _)) (.dic (kvs := [(.inr x, .int i)]) upd_same (.cons (.int i) .nil))
end
end Dl

set_option Elab.async false
set_option linter.all false
set_option maxRecDepth 100000
set_option maxHeartbeats 4000000
set_option autoImplicit false
namespace Dl
open PySem PySem.Spec PyProof.Rows L2
/-! ## a, b = e1, e2 with plain names: the pair is never made -/
section
variable {X : Cx} {N : En} {W : WX} {n : Nat} {δ : List (Option S)} {μ μ1 : List M} {a b : Expr} {s1 s2 : S} {x y : Str} {px py pt pos : Pos} {kt k2} {pt2 : Pos}
theorem ds_par (i j : Nat) (g : Go X N W n) (ha : DA X N W δ μ [a, b] [s1, s2] μ1) (hi : X.N[i]? = some x := by rfl) (hj : X.N[j]? = some y := by rfl) (hij : i ≠ j := by decide)
    (hx : X.env.scope.names.lookup x = some .local := by rfl) (hy : X.env.scope.names.lookup y = some .local := by rfl)
    (hw : swappedStores [.Tuple [.Name x px, .Name y py] kt pt] (.Tuple [a, b] k2 pt2) X.env = pure (some [x, y]) := by rfl)
    (hs : swapsWithSole [.Tuple [.Name x px, .Name y py] kt pt] (.Tuple [a, b] k2 pt2) pos.line X.env = pure false := by rfl) :
    DS X N W δ μ (.Assign [.Tuple [.Name x px, .Name y py] kt pt] (.Tuple [a, b] k2 pt2) pos) (.nx ((δ.set i (some s1)).set j (some s2)) μ1) :=
  PS.imp (ps_par (i := i) (j := j) g.calm g.nd hi hj hij hx hy ha hw hs) fun K σ H ⟨F, A, R, k⟩ => ⟨F, A, R, fun vs F1 A1 H1 e1 p1 R1 rv => by
    obtain ⟨v, w, rfl, r1, r2⟩ := two_of rv
    exact ⟨v, w, rfl, k _ F1 A1 H1 e1 p1 ((R1.set r1).set r2)⟩⟩
end
end Dl

set_option Elab.async false
set_option linter.all false
set_option maxRecDepth 100000
set_option maxHeartbeats 4000000
set_option autoImplicit false
namespace Dl
open PySem PySem.Spec PyProof.Rows L2
/-! ## an int before an own object: the reflected method -/
section
variable {prog : Program} {w : World} {A : Around} {E : Value → Shared → Prop} {s : Shared} {Q : Value → Shared → Prop} {name : Str} {id nm : String} {fn : Int → Int → Sem PySem.Fin} {i : Int} {t : Tok} {x C f L : Addr} {od : Option Obj} {ox : Obj} {K : PySem.W.Frag} {h₀ : Heap} {m : Str → Option Value}
open Builtin Builtin.Int in
theorem call_ni (slot : Slot "int" name id) (entry : entryFor table id = some (intBinary nm fn)) (args : argsOk id ⟨[.int i t, .ref x], []⟩) (hx : s.heap.get? x = some ox) (hd : ∀ p, ox.data ≠ .prim p) (h : Q .notImplemented s) : wpAny (model prog w) A (call (.builtin id) [.int i t, .ref x]) Q E s := by
  refine wpAny_call_entry slot (typeIs_int s i t) entry ?_ args
  unfold intBinary
  refine wpAny_bind (m := slotArgs nm 1 _) (wpAny_pure ?_)
  refine wpAny_bind (m := intOfSelf (.int i t)) (wpAny_pure ?_)
  refine wpAny_bind (m := asInt? (.ref x)) ?_
  unfold asInt?
  refine wpAny_bind (wpAny_load hx ?_)
  split
  · rename_i q
    exact absurd q (hd _)
  · refine wpAny_pure ?_
    show wpAny _ _ (rule _ >>= fun _ => ret _) _ _ _
    exact wpAny_bind (wpAny_rule (wpAny_pure ⟨_, rfl, h⟩))
open Builtin Builtin.Int in
theorem cmp_refl {op : CmpOp} (hu : A.units < cLine) (X : K.In s.heap) (I : PySem.W.InstAt s.heap x ox C od) (hd : ∀ p, ox.data ≠ .prim p) (hx : s.heap.get? x = some ox) (hsub : PySem.W.subIn K (.ref C) (.type "int") = some false)
    (slot : Slot "int" (cmpInfo op).2.1 id) (entry : entryFor table id = some (intBinary nm fn)) (args : ∀ a b : Value, argsOk id ⟨[a, b], []⟩) (hs : PySem.W.findIn K (.ref C) (cmpInfo op).2.2 = some (some (.ref f))) (hf : PySem.W.isFn K (.ref f) = true)
    (h : wpAny (model prog w) A (call (.ref f) [.ref x, .int i t]) (PySem.W.CmpBack Q) E s) : wpAny (model prog w) A (richCompare op (.int i t) (.ref x)) Q E s := by
  have one : wpAny (model prog w) A (tryCompare (.ref x) (cmpInfo op).2.2 (.int i t)) (fun r s' => ∃ v, r = some v ∧ Q v s') E s := by
    unfold tryCompare
    refine wpAny_bind (PySem.W.ifBound_K X I hs hf (wpAny_mono h (fun v s' hv => ?_) fun _ _ e => e))
    cases v <;> first | exact hv.elim | exact wpAny_pure ⟨_, rfl, hv⟩
  have no : wpAny (model prog w) A (tryCompare (.int i t) (cmpInfo op).2.1 (.ref x)) (fun r s' => r = none ∧ s' = s) E s := by
    unfold tryCompare
    exact wpAny_bind (wpAny_callSpecialIfBound?_slot (typeIs_int s i t) slot (call_ni slot entry (args _ _) hx hd (wpAny_pure ⟨rfl, rfl⟩)))
  unfold richCompare
  have e1 : oneThing? op (.int i t) (.ref x) = none := rfl
  simp only [e1]
  refine wpAny_holding (wpAny_bind (wpAny_cRoomFor hu ?_))
  refine wpAny_bind (m := typeOf (.int i t)) (wpAny_pure ?_)
  refine wpAny_bind (I.type.here ?_)
  have hne : ((Value.type "int") != (Value.ref C)) = true := rfl
  simp only [hne, if_true]
  refine wpAny_bind ((PySem.W.looks_subIn X hsub).here ?_)
  simp only [Bool.false_eq_true, if_false]
  refine wpAny_bind (wpAny_mono no (fun r s' z => ?_) fun _ _ e => e)
  obtain ⟨rfl, rfl⟩ := z
  simp only [Bool.not_false, if_true]
  refine wpAny_bind (wpAny_mono one (fun r s' z => ?_) fun _ _ e => e)
  obtain ⟨v, rfl, hq⟩ := z
  exact wpAny_pure hq
open Builtin Builtin.Int in
theorem bin_refl {op : Operator} {fo : Value} (X : K.In s.heap) (I : PySem.W.InstAt s.heap x ox C od) (hd : ∀ p, ox.data ≠ .prim p) (hx : s.heap.get? x = some ox) (hc : PySem.W.selfFirst K C = true) (hsub : PySem.W.subIn K (.ref C) (.type "int") = some false)
    (hfi : fillsNumberSlot (.type "int") op.info.2 = pure true) (slot : Slot "int" (PySem.dunder op.info.2) id) (entry : entryFor table id = some (intBinary nm fn)) (args : ∀ a b : Value, argsOk id ⟨[a, b], []⟩)
    (h1 : PySem.W.findIn K (.ref C) (PySem.dunder op.info.2) = some (some fo)) (hfo : ∃ a : Addr, fo = .ref a) (hs : PySem.W.findIn K (.ref C) (dunderR op.info.2) = some (some (.ref f))) (hf : PySem.W.isFn K (.ref f) = true)
    (h : wpAny (model prog w) A (call (.ref f) [.ref x, .int i t]) (PySem.W.CmpBack Q) E s) : wpAny (model prog w) A (binaryOp op (.int i t) (.ref x)) Q E s := by
  obtain ⟨a, rfl⟩ := hfo
  obtain ⟨cd, rest, hcd, hm⟩ := PySem.W.ksp_first hc
  rcases hi : op.info with ⟨sym, nm'⟩
  rw [hi] at slot hs h1 hfi
  dsimp only at slot hs h1 hfi
  have one := PySem.W.ksp_try X I hs hf h
  have no : wpAny (model prog w) A (tryMethod (.int i t) (PySem.dunder nm') (.ref x)) (fun r s' => r = none ∧ s' = s) E s := by
    unfold tryMethod
    exact wpAny_bind (wpAny_callSpecial?_slot (typeIs_int s i t) slot (call_ni slot entry (args _ _) hx hd (wpAny_pure ⟨rfl, rfl⟩)))
  obtain ⟨hh, g, d, tt, os⟩ := s
  have L1 : PySem.W.Looks (model prog w) hh (typeOf (.ref x)) (.ref C) := I.type
  have L2 : PySem.W.Looks (model prog w) hh (typeOf (.int i t)) (.type "int") := PySem.W.Looks.of_pure rfl
  have L3 : PySem.W.Looks (model prog w) hh (fillsNumberSlot (.ref C) nm') true := PySem.W.fills_K X hcd hm h1
  have L4 : PySem.W.Looks (model prog w) hh (fillsNumberSlot (.type "int") nm') true := PySem.W.Looks.of_pure hfi
  have L5 : PySem.W.Looks (model prog w) hh (isSubtype (.ref C) (.type "int")) false := PySem.W.looks_subIn X hsub
  have L7 : PySem.W.Looks (model prog w) hh (numberSlotInPython (.type "int") nm') false := PySem.W.Looks.of_pure rfl
  have hne : ((Value.type "int") == (Value.ref C)) = false := rfl
  simp only [binaryOp, hi]
  refine wpAny_holding (wpAny_bind ?_)
  unfold binaryOp1
  refine wpAny_bind (L2.at (wpAny_bind (L1.at (wpAny_bind (L4.at ?_)))))
  simp only [hne, Bool.false_eq_true, if_false]
  repeat ((fail_if_success (with_reducible show wpAny _ _ (tryMethod _ _ _) _ _ _)); lk)
  refine wpAny_mono no (fun r s' z => ?_) fun _ _ e => e
  obtain ⟨rfl, rfl⟩ := z
  repeat ((fail_if_success (with_reducible show wpAny _ _ (tryMethod _ _ _) _ _ _)); lk)
  refine wpAny_mono one (fun r s' hr' => ?_) fun _ _ e => e
  obtain ⟨v, rfl, hq⟩ := hr'
  repeat ((fail_if_success (with_reducible show wpAny _ _ (tryMethod _ _ _) _ _ _)); lk)
  exact hq
end
end Dl

set_option Elab.async false
set_option linter.all false
set_option maxRecDepth 100000
set_option maxHeartbeats 4000000
set_option autoImplicit false
namespace Dl
open PySem PySem.Spec PyProof.Rows L2
/-- what is asked of an own class whose operator op meets ints on either side -/
structure NumOp (K : PySem.W.Frag) (C : Addr) (op : Operator) : Prop where
  r : ∃ rc, PySem.W.findIn K (.ref C) (dunderR op.info.2) = some rc ∧ (rc = none ∨ ∃ g : Addr, rc = some (.ref g))
  h1 : ∃ fo, PySem.W.findIn K (.type "int") (PySem.dunder op.info.2) = some fo
  h2 : ∃ ro, PySem.W.findIn K (.type "int") (dunderR op.info.2) = some ro
  s1 : PySem.W.subIn K (.type "int") (.ref C) = some false
open Builtin.Int in
/-- int's own part of it -/
structure IntOp (op : Operator) : Prop where
  ex : ∃ (id nm : String) (fn : Int → Int → Sem PySem.Fin), Slot "int" (PySem.dunder op.info.2) id ∧ entryFor table id = some (intBinary nm fn) ∧ ∀ a b : Value, argsOk id ⟨[a, b], []⟩
  fi : fillsNumberSlot (.type "int") op.info.2 = pure true
theorem io_add : IntOp .Add := ⟨⟨_, _, _, PySem.F.slot_int_add, PySem.F.entry_int_add, PySem.F.args_int_add_2⟩, PySem.F.fills_int_add⟩
theorem io_sub : IntOp .Sub := ⟨⟨_, _, _, PySem.F.slot_int_sub, PySem.F.entry_int_sub, PySem.F.args_int_sub_2⟩, PySem.F.fills_int_sub⟩
theorem io_mul : IntOp .Mult := ⟨⟨_, _, _, PySem.F.slot_int_mul, PySem.F.entry_int_mul, PySem.F.args_int_mul_2⟩, PySem.F.fills_int_mul⟩
open Builtin.Int in
structure IntCmp (op : CmpOp) : Prop where
  ex : ∃ (id nm : String) (fn : Int → Int → Sem PySem.Fin), Slot "int" (cmpInfo op).2.1 id ∧ entryFor table id = some (intBinary nm fn) ∧ ∀ a b : Value, argsOk id ⟨[a, b], []⟩
theorem ic_lt : IntCmp .Lt := ⟨⟨_, _, _, slot_int_lt, entry_int_lt, args_int_lt⟩⟩
theorem ic_gt : IntCmp .Gt := ⟨⟨_, _, _, PySem.F.slot_int_gt, PySem.F.entry_int_gt, PySem.F.args_int_gt_2⟩⟩
theorem ic_le : IntCmp .LtE := ⟨⟨_, _, _, slot_int_le, entry_int_le, args_int_le⟩⟩
theorem ic_ge : IntCmp .GtE := ⟨⟨_, _, _, slot_int_ge, entry_int_ge, args_int_ge⟩⟩
section
variable {X : Cx} {N : En} {W : WX} {n : Nat} {δ δ' δ1 δ2 : List (Option S)} {μ μ' μ1 μ2 μ3 : List M} {e a b c o : Expr} {es : List Expr} {ss : List S} {pos p apos : Pos} {d : D} {s s1 s2 : S} {r : Rx} {R : Rel} {k : Nat} {x m f : Str} {dd : List D} {C : Addr} {i : Int}
theorem inst_no {C dx : Addr} : ∀ p, (PySem.W.instObj C dx).data ≠ .prim p := fun p h => by cases h
/-- own op int -/
theorem de_binOI {op : Operator} {ns : List Str} {d1 : List D} (g : Go X N W n) (cm : Cm X.prog X.w X.K X.mg X.base k C (PySem.dunder op.info.2) [] R) (sf : PySem.W.selfFirst X.K C = true) (no : NumOp X.K C op)
    (ha : DE X N W δ μ a (.v (.p (.ins C ns d1))) μ1) (hb : DE X N W δ μ1 b (.v (.p (.int i))) μ2) (hR : R [.p (.ins C ns d1), .p (.int i)] μ2 r μ3) (hk : k ≤ n := by decide) : DE X N W δ μ (.BinOp a op b pos) r μ3 := by
  obtain ⟨f, fd, ps, ds, dvs, Fo, hme, hbi, hd, rd⟩ := cm.ex
  obtain ⟨⟨rc, hr, hp⟩, ⟨fo, h1⟩, ⟨ro, h2⟩, s1⟩ := no
  refine ⟨fun pins s σ H Q I ⟨F, A, R0, q⟩ => wpAny_BinOp (two_then ha hb I R0 fun v u s3 x y H2 F2 A2 I2 rx ry e2 p2 R2 h1' h2' => ?_)⟩
  obtain ⟨a1, dx1, fs1, rfl, g1, g2, g3⟩ := rep_ins h1'
  have h2'' : Rep N.K F2 y (.int i) := h2'
  cases h2''
  cases rx
  obtain ⟨t, rfl⟩ := ry
  obtain ⟨od1, J1⟩ := inst_at I2 (R2.rc.sub _ _ g1)
  obtain ⟨m', Fr'⟩ := I2.fr
  refine PySem.W.ksp_binT (T := "int") Fr' I2.mod.kin J1 rfl sf hme.at_ hme.fn hr hp h1 h2 s1 ?_
  exact wpAny_mono (call_fnD (us := [.ref a1, .int i t]) (vs := [.ref a1, .int i]) (ss := [.p (.ins C ns d1), .p (.int i)]) g hk Fo hbi hd rd I2 R2 (.cons h1' (.cons h2' .nil)) (.cons rfl (.cons ⟨t, rfl⟩ .nil)) hR (q.to e2 p2)) (fun _ _ h => back_of h) fun _ _ h => h
/-- int op own -/
theorem de_binIO {op : Operator} {ns : List Str} {d1 : List D} {k' : Nat} {R' : Rel} {dd' : List D} (g : Go X N W n) (cm : Cm X.prog X.w X.K X.mg X.base k C (dunderR op.info.2) [] R) (cm' : Cm X.prog X.w X.K X.mg X.base k' C (PySem.dunder op.info.2) dd' R') (sf : PySem.W.selfFirst X.K C = true) (io : IntOp op) (sub : PySem.W.subIn X.K (.ref C) (.type "int") = some false)
    (ha : DE X N W δ μ a (.v (.p (.int i))) μ1) (hb : DE X N W δ μ1 b (.v (.p (.ins C ns d1))) μ2) (hR : R [.p (.ins C ns d1), .p (.int i)] μ2 r μ3) (hk : k ≤ n := by decide) : DE X N W δ μ (.BinOp a op b pos) r μ3 := by
  obtain ⟨f, fd, ps, ds, dvs, Fo, hme, hbi, hd, rd⟩ := cm.ex
  obtain ⟨f', _, _, _, _, _, hme', _⟩ := cm'.ex
  obtain ⟨⟨id, nm, fn, slot, entry, args⟩, fi⟩ := io
  refine ⟨fun pins s σ H Q I ⟨F, A, R0, q⟩ => wpAny_BinOp (two_then ha hb I R0 fun v u s3 x y H2 F2 A2 I2 rx ry e2 p2 R2 h1' h2' => ?_)⟩
  obtain ⟨a1, dx1, fs1, rfl, g1, g2, g3⟩ := rep_ins h2'
  have h1'' : Rep N.K F2 x (.int i) := h1'
  cases h1''
  cases ry
  obtain ⟨t, rfl⟩ := rx
  obtain ⟨od1, J1⟩ := inst_at I2 (R2.rc.sub _ _ g1)
  refine bin_refl I2.kIn J1 inst_no J1.at_ sf sub fi slot entry args hme'.at_ ⟨_, rfl⟩ hme.at_ hme.fn ?_
  exact wpAny_mono (call_fnD (us := [.ref a1, .int i t]) (vs := [.ref a1, .int i]) (ss := [.p (.ins C ns d1), .p (.int i)]) g hk Fo hbi hd rd I2 R2 (.cons h2' (.cons h1' .nil)) (.cons rfl (.cons ⟨t, rfl⟩ .nil)) hR (q.to e2 p2)) (fun _ _ h => back_of h) fun _ _ h => h
/-- own < anything, by the own method -/
theorem de_cmpOwn {op : CmpOp} {ns : List Str} {d1 : List D} {d2 : D} {t : Value} (g : Go X N W n) (cm : Cm X.prog X.w X.K X.mg X.base k C (cmpInfo op).2.1 [] R) (ty : TyD X.K d2 t) (nf : PySem.W.notFirst X.K C t = true)
    (ha : DE X N W δ μ a (.v (.p (.ins C ns d1))) μ1) (hb : DE X N W δ μ1 b (.v (.p d2)) μ2) (hR : R [.p (.ins C ns d1), .p d2] μ2 r μ3) (hk : k ≤ n := by decide) (hco : ∀ x y, compareOp op x y = richCompare op x y := by intros; rfl) (hm : behindInMarks op b = false := by first | exact nomark _ | rfl) : DE X N W δ μ (.Compare a [op] [b] pos) r μ3 := by
  obtain ⟨f, fd, ps, ds, dvs, Fo, hme, hbi, hd, rd⟩ := cm.ex
  refine ⟨fun pins s σ H Q I ⟨F, A, R0, q⟩ => wpAny_Compare1 (two_then ha hb I R0 fun v u s3 x y H2 F2 A2 I2 rx ry e2 p2 R2 h1 h2 => ?_) hm⟩
  obtain ⟨a1, dx1, fs1, rfl, g1, g2, g3⟩ := rep_ins h1
  cases rx
  obtain ⟨od1, J1⟩ := inst_at I2 (R2.rc.sub _ _ g1)
  obtain ⟨m', Fr'⟩ := I2.fr
  rw [hco]
  refine PySem.W.cmp_K (g.room.units0) Fr' I2.mod.kin J1 (type_of I2 R2.rc.sub ty (by rw [← g.hK]; exact h2) ry) nf hme.at_ hme.fn ?_
  exact wpAny_mono (call_fnD (us := [.ref a1, u]) (vs := [.ref a1, y]) (ss := [.p (.ins C ns d1), .p d2]) g hk Fo hbi hd rd I2 R2 (.cons h1 (.cons h2 .nil)) (.cons rfl (.cons ry .nil)) hR (q.to e2 p2)) (fun _ _ h => back_of h) fun _ _ h => h
/-- int < own, by the other one's method -/
theorem de_cmpIO {op : CmpOp} {ns : List Str} {d1 : List D} (g : Go X N W n) (cm : Cm X.prog X.w X.K X.mg X.base k C (cmpInfo op).2.2 [] R) (ic : IntCmp op) (sub : PySem.W.subIn X.K (.ref C) (.type "int") = some false)
    (ha : DE X N W δ μ a (.v (.p (.int i))) μ1) (hb : DE X N W δ μ1 b (.v (.p (.ins C ns d1))) μ2) (hR : R [.p (.ins C ns d1), .p (.int i)] μ2 r μ3) (hk : k ≤ n := by decide) (hco : ∀ x y, compareOp op x y = richCompare op x y := by intros; rfl) (hm : behindInMarks op b = false := by first | exact nomark _ | rfl) : DE X N W δ μ (.Compare a [op] [b] pos) r μ3 := by
  obtain ⟨f, fd, ps, ds, dvs, Fo, hme, hbi, hd, rd⟩ := cm.ex
  obtain ⟨⟨id, nm, fn, slot, entry, args⟩⟩ := ic
  refine ⟨fun pins s σ H Q I ⟨F, A, R0, q⟩ => wpAny_Compare1 (two_then ha hb I R0 fun v u s3 x y H2 F2 A2 I2 rx ry e2 p2 R2 h1' h2' => ?_) hm⟩
  obtain ⟨a1, dx1, fs1, rfl, g1, g2, g3⟩ := rep_ins h2'
  have h1'' : Rep N.K F2 x (.int i) := h1'
  cases h1''
  cases ry
  obtain ⟨t, rfl⟩ := rx
  obtain ⟨od1, J1⟩ := inst_at I2 (R2.rc.sub _ _ g1)
  rw [hco]
  refine cmp_refl g.room.units0 I2.kIn J1 inst_no J1.at_ sub slot entry args hme.at_ hme.fn ?_
  exact wpAny_mono (call_fnD (us := [.ref a1, .int i t]) (vs := [.ref a1, .int i]) (ss := [.p (.ins C ns d1), .p (.int i)]) g hk Fo hbi hd rd I2 R2 (.cons h2' (.cons h1' .nil)) (.cons rfl (.cons ⟨t, rfl⟩ .nil)) hR (q.to e2 p2)) (fun _ _ h => back_of h) fun _ _ h => h
end
end Dl

set_option Elab.async false
set_option linter.all false
set_option maxRecDepth 100000
set_option maxHeartbeats 4000000
set_option autoImplicit false
namespace Dl
open PySem PySem.Spec PyProof.Rows L2
section
variable {X : Cx} {N : En} {W : WX} {n : Nat} {δ δ' δ1 δ2 : List (Option S)} {μ μ' μ1 μ2 μ3 : List M} {e a b c o : Expr} {es : List Expr} {ss : List S} {pos p apos : Pos} {d : D} {s s1 s2 : S} {r : Rx} {R : Rel} {k : Nat} {x m f : Str} {dd : List D} {C : Addr} {i : Int}
/-! ### // by any int but 0 -/
def CDivZ (_ j : Int) : Prop := j ≠ 0 ∧ j.natAbs.log2 < 9000
theorem op_fdivZ : OpR X (binaryOp .FloorDiv) (rI CDivZ fun i j => .int (i.fdiv j)) := opI fun i j _ _ _ _ _ hc q => floordiv_int hc.1 q (.inl (PyProof.noPylong_of_log2 hc.2))
theorem o_divZ {i j : Int} (hc : CDivZ i j) : OpOk X N W (binaryOp .FloorDiv) μ (.p (.int i)) (.p (.int j)) (.v (.p (.int (i.fdiv j)))) μ := o_intC op_fdivZ hc
/-! ### math.gcd -/
theorem de_gcd {i j : Int} {a b : Expr} (g : Go X N W n) (ha : DE X N W δ μ a (.v (.p (.int i))) μ1) (hb : DE X N W δ μ1 b (.v (.p (.int j))) μ2) (hm : X.mg x = some (.builtin "math.gcd")) (hg : Gl X x := by rfl) (hdb : (x == ("__debug__" : Str)) = false := by decide)
    (h1 : starEach [a, b] X.env = (false, eval a X.env) :: starEach [b] X.env := by rfl) (h2 : starEach [b] X.env = (false, eval b X.env) :: starEach [] X.env := by rfl) (hpl : (backTo pos (starEach [b] X.env)).any (·.1) = false := by rfl) :
    DE X N W δ μ (.Call (.Name x p) [a, b] [] pos) (.v (.p (.int ((Nat.gcd i.natAbs j.natAbs : Nat) : Int)))) μ2 :=
  PE.imp (pe_callBfun cr_gcd hg hm (da_cons (s := .p (.int i)) ha (da_cons (s := .p (.int j)) hb da_nil h2) h1) hdb h1 hpl) fun σ H Q ⟨F, A, R, k⟩ => ⟨F, A, R, fun vs F1 A1 H1 e1 p1 R1 rv => by
    cases rv with
    | cons r1 rv =>
      cases rv with
      | cons r2 rv =>
        cases rv
        cases rs_int r1
        cases rs_int r2
        exact ⟨i, j, rfl, k _ F1 A1 H1 e1 p1 R1 (.int _)⟩⟩
/-! ### while, without break -/
inductive Wl (X : Cx) (N : En) (W : WX) (c : Expr) (body : List Stmt) : Nat → List (Option S) → List M → Os → Prop
  | stop {q : Nat} {u : List (Option S)} {v v1 : List M} : DT X N W u v c false v1 → Wl X N W c body q u v (.nx u v1)
  | turn {q : Nat} {u u1 : List (Option S)} {v v1 v2 : List M} {oo : Os} : DT X N W u v c true v1 → DSs X N W u v1 body (.nx u1 v2) → Wl X N W c body q u1 v2 oo → Wl X N W c body (q + 1) u v oo
theorem ds_while {body : List Stmt} {m : Nat} {o : Os} (g : Go X N W n) (h : Wl X N W c body m δ μ o) : DS X N W δ μ (.While c body [] pos) o := by
  have hc : PT X c (fun σ H Q => ∃ δt μt b μ1, DT X N W δt μt c b μ1 ∧ tDT N W δt μt b μ1 σ H Q) := ⟨fun p s σ H Q I ⟨δt, μt, b, μ1, hd, q⟩ => hd.run p s σ H Q I q⟩
  have hb : PSs X body (fun K σ H => ∃ δt μt o1, DSs X N W δt μt body o1 ∧ tDS N W δt μt o1 K σ H) := ⟨fun p s σ H K I ⟨δt, μt, o1, hd, q⟩ => hd.run p s σ H K I q⟩
  refine PS.imp (ps_while g.po hc hb) fun K σ H ⟨F, A, R, k⟩ => ?_
  refine ⟨fun m σ' H' => ∃ F' A' δ' μ', Same F F' ∧ A <+: A' ∧ Rl N F' A' H' σ' δ' μ' ∧ Wl X N W c body m δ' μ' o, ⟨m, F, A, δ, μ, Same.refl _, List.prefix_refl _, R, h⟩, ?_⟩
  rintro m σ' H' ⟨F', A', δ', μ', e', p', R', hL⟩
  have k' := k.to e' p'
  cases hL with
  | stop ht =>
    refine ⟨_, _, false, _, ht, F', A', R', fun F2 A2 H2 e2 p2 R2 => ?_⟩
    exact iteF (k' σ' F2 A2 H2 e2 p2 R2)
  | @turn m' _ δ1 _ μ1 μ2 _ ht hd hL =>
    refine ⟨_, _, true, _, ht, F', A', R', fun F2 A2 H2 e2 p2 R2 => ?_⟩
    refine iteT ⟨fun σ3 H3 => ∃ F3 A3, Same F F3 ∧ A <+: A3 ∧ Rl N F3 A3 H3 σ3 δ1 μ2, fun σ3 H3 ⟨F3, A3, a, b, c⟩ => ⟨m', Nat.lt_succ_self _, F3, A3, δ1, μ2, a, b, c, hL⟩, _, _, _, hd, F2, A2, R2, fun σ4 F4 A4 H4 e4 p4 R4 => ⟨F4, A4, (e'.trans e2).trans e4, (p'.trans p2).trans p4, R4⟩⟩
/-! ### int of a text -/
theorem c_intT {z : Str} {i : Int} (h : PySem.intText? z = some i) (hl : z.length ≤ 640) : CallOk X N W (.type "int") μ [.p (.str z)] (.v (.p (.int i))) μ :=
  ⟨_, call_int_str, fun σ δ F A H vs Q R rv k => by
    cases rv with
    | cons r1 rv =>
      cases rv
      cases rs_str r1
      exact ⟨z, i, rfl, h, hl, k.here R (.int _)⟩⟩
/-! ### f-texts -/
theorem de_fmtI {i : Int} (h : DE X N W δ μ e (.v (.p (.int i))) μ1) (hi : i.natAbs.log2 < 1920) : DE X N W δ μ (.FormattedValue e (-1) none pos) (.v (.p (.str (toString i)))) μ1 :=
  PE.imp (pe_fmt h) fun σ H Q ⟨F, A, R, k⟩ => ⟨F, A, R, fun v F1 A1 H1 e1 p1 R1 rv => .inr ⟨i, rs_int rv, hi, k _ F1 A1 H1 e1 p1 R1 (.str _)⟩⟩
inductive DJ (X : Cx) (N : En) (W : WX) (δ : List (Option S)) (μ : List M) : List Expr → List Str → Prop
  | nil : DJ X N W δ μ [] []
  | cons {e1 : Expr} {y : Str} {es1 : List Expr} {ys : List Str} : DE X N W δ μ e1 (.v (.p (.str y))) μ → DJ X N W δ μ es1 ys → DJ X N W δ μ (e1 :: es1) (y :: ys)
def catS : Str → List Str → Str
  | acc, [] => acc
  | acc, y :: ys => catS (acc ++ y) ys
theorem catS_le : ∀ (ys : List Str) (acc : Str), acc.length ≤ (catS acc ys).length
  | [], _ => Nat.le_refl _
  | y :: ys, acc => Nat.le_trans (by rw [strLen_append]; omega) (catS_le ys (acc ++ y))
theorem dj_ts {es : List Expr} {ys : List Str} (h : DJ X N W δ μ es ys) : ∃ ts, PJ X es ts ∧ ∀ (acc : Str) (σ : L2.St) (F : Hp) (A : List Addr) (H : Hp) (Q : Str → Hp → Prop), (catS acc ys).length ≤ sizeLine → Rl N F A H σ δ μ → (∀ F' A' H', Same F F' → A <+: A' → Rl N F' A' H' σ δ μ → Q (catS acc ys) H') → tJs ts acc σ H Q := by
  induction h with
  | nil => exact ⟨[], .nil, fun acc σ F A H Q _ R k => k F A H (Same.refl _) (List.prefix_refl _) R⟩
  | @cons e y es ys h1 _ ih =>
    obtain ⟨ts, hp, ht⟩ := ih
    refine ⟨_ :: ts, .cons h1 hp, fun acc σ F A H Q hl R k => ⟨F, A, R, fun v F1 A1 H1 e1 p1 R1 rv => ⟨y, rs_str rv, ?_, ht (acc ++ y) σ F1 A1 H1 Q hl R1 fun F' A' H' e' p' R' => k F' A' H' (e1.trans e') (p1.trans p') R'⟩⟩⟩
    exact Nat.le_trans (catS_le ys (acc ++ y)) hl
theorem de_fstr {v1 v2 : Expr} {rest : List Expr} {ys : List Str} (h : DJ X N W δ μ (v1 :: v2 :: rest) ys) (hl : (catS Str.empty ys).length ≤ sizeLine) : DE X N W δ μ (.JoinedStr (v1 :: v2 :: rest) pos) (.v (.p (.str (catS Str.empty ys)))) μ := by
  obtain ⟨ts, hp, ht⟩ := dj_ts h
  exact PE.imp (pe_joined hp) fun σ H Q ⟨F, A, R, k⟩ => ht Str.empty σ F A H _ hl R fun F' A' H' e' p' R' => k _ F' A' H' e' p' R' (.str _)
/-! ### repr(o), by an own __repr__ -/
theorem c_reprOwn {ns : List Str} {d1 : List D} {q : Str} (g : Go X N W n) (cm : Cm X.prog X.w X.K X.mg X.base k C "__repr__" [] R) (hR : R [.p (.ins C ns d1)] μ (.v (.p (.str q))) μ') (hk : k + 1 ≤ n := by decide) : CallOk X N W (.builtin "repr") μ [.p (.ins C ns d1)] (.v (.p (.str q))) μ' := by
  obtain ⟨f, fd, ps, ds, dvs, Fo, hme, hb, hd, rd⟩ := cm.ex
  refine ⟨fun xs H Q => ∃ a dx fs, xs = [.ref a] ∧ H a = some (.ins C dx fs) ∧ spD X.K R (xs ++ dvs) H (fun v H' => v = .str q ∧ Q (.str q) H') (fun _ _ _ => False), fun pins s σ H xs us Q I r ⟨a, dx, fs, e, ha, h⟩ => ?_, fun σ δ F A H vs Q R0 rv k0 => ?_⟩
  · subst e
    cases r with
    | cons r1 r2 =>
      cases r2
      cases r1
      obtain ⟨od, J⟩ := inst_at I ha
      obtain ⟨m', Fr'⟩ := I.fr
      have hun := g.room.units
      refine PySem.W.repr_K (by show X.A.units + 1 < _; omega) Fr' I.mod.kin J hme.at_ hme.fn ?_
      have r2 : Vals ([V.ref a] ++ dvs) ([Value.ref a] ++ ds) := L2.Vals.append (show L2.Vals [V.ref a] [Value.ref a] from .cons rfl .nil) hd
      have hl : ([Value.ref a] ++ ds).length = ps.length := by rw [← r2.length]; exact Fo.len _ _ _ _ h
      refine wpAny_call (codeAny_mono (Fo.run X.A.in1 X.stack s H ⟨[.ref a], []⟩ ([.ref a] ++ ds) ([.ref a] ++ dvs) _ (WE W0 σ) (g.room.mono hk).in1 I.env0.in1 (hb s [.ref a] I.kIn hl) r2 h) fun r s' hq' => ?_)
      cases r with
      | error e => exact passAt (W := W0) takes00 σ pins H s e s' I hq'
      | ok fl =>
        cases fl with
        | ret u =>
          obtain ⟨v, H', I', rv, ev, q'⟩ := I.after hq'
          subst ev
          obtain ⟨t, rfl⟩ := rv
          exact ⟨.str q, H', I', ⟨t, rfl⟩, q'⟩
        | next => exact False.elim hq'
        | brk => exact False.elim hq'
        | cont => exact False.elim hq'
  · obtain ⟨v, rfl, h1⟩ := one_of rv
    have h1' : Rep N.K F v (.ins C ns d1) := h1
    obtain ⟨a, dx, fs, rfl, g1, g2, g3⟩ := rep_ins h1'
    refine ⟨a, dx, fs, rfl, R0.rc.sub _ _ g1, ?_⟩
    have hK := g.hK
    rw [← hK] at rd ⊢
    refine spD_in (N := N) (σ := σ) (δ := δ) (F := F) (A := A) (ss := [.p (.ins C ns d1)] ++ ([] : List D).map S.p) (r := .v (.p (.str q))) hR R0 (RepSs.append (.cons h1 .nil) (of_reps (rd F))) ?_
    intro v F' A' H' e' p' R' rv'
    have e2 : v = .str q := rs_str rv'
    subst e2
    exact ⟨rfl, k0 _ F' A' H' e' p' R' rv'⟩
end
end Dl

set_option Elab.async false
set_option linter.all false
set_option maxRecDepth 100000
set_option maxHeartbeats 4000000
set_option autoImplicit false
namespace Dl
open PySem PySem.Spec PyProof.Rows L2
/-! ## a def with defaults -/
theorem fn_Dd {P : Program} {w : World} {K : PySem.W.Frag} {mg : Str → Option Value} {base : Heap} {x qual : Str} {st : Stmt} {f : Addr} {oc dV kV doc pm cdv ct : Value} {od an : Option Addr} {osl : Array (Option Value)} {Nn ps : List Str} {k : Nat} {R : Rel}
    (lk : K.lookup f = some ⟨oc, od, .func (PySem.W.fnOf x qual (defArgs st) (defBody st) (defScope st) dV kV doc pm an cdv ct), osl⟩) (hcd : PySem.W.codeIn K cdv qual = true) (Sc : FnScope Nn ps (defScope st)) (hlen : ∀ ss μ r μ', R ss μ r μ' → ss.length = ps.length)
    (body : ∀ (A : Around) (outer : List Env) (s : Shared) (H : Hp) (E : XK) (N : En) (W : WX) (ss : List S) (μ : List M) (r : Rx) (μ' : List M), Go (cxOf (L2.CX P w) P w K mg base Nn qual (defScope st) f cdv A outer s H E) N W k → N.A0.length = μ.length → R ss μ r μ' →
      ∃ o, DSs (cxOf (L2.CX P w) P w K mg base Nn qual (defScope st) f cdv A outer s H E) N W (starts Nn ss) μ (defBody st) o ∧ Fit μ.length o r μ') :
    FnOk P w K mg base (L2.CX P w) (k + 1) f (PySem.W.fnOf x qual (defArgs st) (defBody st) (defScope st) dV kV doc pm an cdv ct) ps (spD K R) := by
  refine fn_of lk hcd Sc (fun vs H Q E h => ?_) (fun A outer s H vs Q E hr h => ?_)
  · obtain ⟨F0, A0, ss, μ, r, μ', hR, _, rv, _⟩ := h
    rw [rv.length]
    exact hlen _ _ _ _ hR
  · obtain ⟨F0, A0, ss, μ, r, μ', hR, rc, rv, hq⟩ := h
    have g : Go (cxOf (L2.CX P w) P w K mg base Nn qual (defScope st) f cdv A outer s H E) ⟨K, H, F0, A0⟩ (fun cls d _ H => E cls d H) k :=
      ⟨takes_of rfl rfl rfl rfl, rfl, rfl, hr, passes_of rfl, Sc.nd⟩
    have h0 : A0.length = μ.length := rc.len
    obtain ⟨o, hd, fit⟩ := body A outer s H E ⟨K, H, F0, A0⟩ _ ss μ r μ' g h0 hR
    refine ⟨_, hd, F0, A0, ⟨rc, (start_slots (N := ⟨K, H, F0, A0⟩) Nn rv).1, (start_slots (N := ⟨K, H, F0, A0⟩) Nn rv).2⟩, ?_⟩
    · cases fit with
      | rt => exact fun v F' A' H' e p rc' rv' => hq v F' A' H' rc' rv'
      | rtT hn => exact fun v F' A' H' e p rc' rv' => hq v F' _ H' (rc'.trim (by show A0.length ≤ _; omega)) rv'
      | nx => exact fun σ' F' A' H' e p R' => hq .non F' A' H' R'.rc .non
      | nxT hn => exact fun σ' F' A' H' e p R' => hq .non F' _ H' (R'.rc.trim (by show A0.length ≤ _; omega)) .non
      | xx => exact fun σ' dx v F' A' H' e p R' h1 h2 => hq dx v F' A' H' R'.rc h1 h2
      | xxT hn => exact fun σ' dx v F' A' H' e p R' h1 h2 => hq dx v F' _ H' (R'.rc.trim (by show A0.length ≤ _; omega)) h1 h2
end Dl

set_option Elab.async false
set_option linter.all false
set_option maxRecDepth 100000
set_option maxHeartbeats 4000000
set_option autoImplicit false
namespace Dl
open PySem PySem.Spec PyProof.Rows L2
/-! ## repr of a pair, its items ints or own objects with a __repr__ of their own -/
section
variable {prog : Program} {w : World} {A : Around} {E : Value → Shared → Prop} {s : Shared} {K : PySem.W.Frag} {x C f a : Addr} {ox o : Obj} {od : Option Obj} {b : Nat}
theorem under_own {Q : Str → Shared → Prop} (hb : b ≤ sizeLine) (hu : A.units < cLine) (X : K.In s.heap) (I : PySem.W.InstAt s.heap x ox C od) (hs : PySem.W.findIn K (.ref C) "__repr__" = some (some (.ref f))) (hf : PySem.W.isFn K (.ref f) = true)
    (h : wpAny (model prog w) A (call (.ref f) [.ref x]) (fun v s' => ∃ z t, v = .str z t ∧ Q z s') E s) : wpAny (model prog w) A (pyReprUnder b (.ref x)) Q E s := by
  refine wpAny_pyReprUnder_ref hb ?_
  unfold pyReprObjUnder pyReprObjBy
  refine wpAny_bind (wpAny_cRoomFor hu ?_)
  refine wpAny_bind (wpAny_bind (I.type.here ((PySem.W.looks_findIn X hs).here ?_)))
  show wpAny _ _ (if (some (Value.ref f)).isNone = true then _ else _) _ _ _
  rw [if_neg (by simp)]
  simp only [callSpecialIfBoundBy?, bindSpecialIfBound?]
  refine wpAny_bind ?_
  refine wpAny_holding (wpAny_bind (wpAny_bind (wpAny_bind (I.type.here ((PySem.W.looks_findIn X hs).here ?_)))))
  refine wpAny_bind (wpAny_askSetting (wpAny_ite ?_))
  have tail : ∀ R : Option Value → Shared → Prop, (∀ z t s', Q z s' → R (some (.str z t)) s') → wpAny (model prog w) A (call (.ref f) ([.ref x] ++ []) >>= fun v => pure (some v)) R E s := fun R hR => wpAny_bind (wpAny_mono h (fun v s' hv => by
    obtain ⟨z, t, rfl, hq⟩ := hv
    exact wpAny_pure (hR z t s' hq)) fun _ _ h' => h')
  have back : ∀ z t s', Q z s' → wpAny (model prog w) A (isInstance (.str z t) (Value.type "str")) (fun q s'' => q = true ∧ s'' = s') E s' := fun z t s' _ => wpAny_isInstance (T := "str") (b := true) rfl isSubtype_str_str ⟨rfl, rfl⟩
  split
  · refine wpAny_bind ((PySem.W.bind_fn X _ (beq_iff_eq.mp hf)).here (wpAny_pure ?_))
    exact tail _ fun z t s' hq => wpAny_bind (wpAny_mono (back z t s' hq) (fun q s'' e => by
      obtain ⟨rfl, rfl⟩ := e
      exact wpAny_pure ⟨z, t, rfl, hq⟩) fun _ _ e => e)
  · refine wpAny_tryCatch (wpAny_bind ((PySem.W.bind_fn X _ (beq_iff_eq.mp hf)).here (wpAny_pure ?_)))
    exact tail _ fun z t s' hq => wpAny_bind (wpAny_mono (back z t s' hq) (fun q s'' e => by
      obtain ⟨rfl, rfl⟩ := e
      exact wpAny_pure ⟨z, t, rfl, hq⟩) fun _ _ e => e)
/-- the pair's own method, turn by turn -/
theorem call_pair {u1 u2 : Value} {n : Nat} {t1 t2 : Str} {Q : Value → Shared → Prop} (hTy : s.TypeIs (.ref a) "tuple") (hg : A.guards = some []) (ha : s.heap.get? a = some o) (hd : o.data = .seq #[u1, u2] n) (hsz : (tupleText [t1, t2]).length ≤ sizeLine)
    (h : wpAny (model prog w) (A.under (.builtin "tuple.__repr__" ⟨[.ref a], []⟩)) (pyReprUnder 1 u1) (fun z s1 => z = t1 ∧ wpAny (model prog w) (A.under (.builtin "tuple.__repr__" ⟨[.ref a], []⟩)) (pyReprUnder (t1.length + 2 + 1) u2) (fun z' s2 => z' = t2 ∧ ∀ u tk, Q (.str (tupleText [t1, t2]) u) { s2 with toks := tk }) E s1) E s) :
    wpAny (model prog w) A (call (.builtin "tuple.__repr__") [.ref a]) Q E s := by
  refine wpAny_call (codeAny_call_builtin_own (Code.quiet_builtin _ (by decide +kernel)) PySem.F.entry_tuple_repr (PySem.F.slot_tuple_repr.check _ _ _ _ _ _ _ _ hTy (PySem.F.args_tuple_repr_1 _) ?_))
  show wpOwn _ _ _ (Builtin.tupleReprAt 0 ⟨[.ref a], []⟩) _ _ _
  rw [tuple_repr_tree, tupleReprUnderWay_eq]
  refine wpOwn_bind (wpOwn_stackTailAny hg (tupGuardF_off _) (tupGuardF_pos _) ?_)
  show wpOwn _ _ _ (if false = true then _ else _) _ _ _
  rw [if_neg Bool.false_ne_true]
  refine wpOwn_of_wpAny ?_
  unfold tupleReprRest Builtin.Tuple.tupleItemsOf
  refine wpAny_bind (wpAny_bind (wpAny_seqItems ha hd (wpAny_pure ?_)))
  rw [← Array.forIn_toList]
  show wpAny _ _ (forIn [u1, u2] _ tupBody >>= _) _ _ _
  rw [List.forIn_cons, bind_assoc]
  unfold tupBody
  refine wpAny_bind (wpAny_bind (wpAny_mono h (fun z s1 hz => ?_) fun _ _ e => e))
  obtain ⟨rfl, h2⟩ := hz
  refine wpAny_pure ?_
  dsimp only
  rw [List.forIn_cons, bind_assoc]
  refine wpAny_bind (wpAny_bind (wpAny_mono (s := s1) (show wpAny _ _ (pyReprUnder (0 + (z.length + 2) + 1) u2) _ _ _ by rw [Nat.zero_add]; exact h2) (fun z' s2 hz' => ?_) fun _ _ e => e))
  obtain ⟨rfl, h3⟩ := hz'
  refine wpAny_pure ?_
  dsimp only
  rw [List.forIn_nil]
  refine wpAny_bind (wpAny_pure ?_)
  refine wpAny_bind (wpAny_mkStr (wpAny_pure ?_) ?_)
  · exact h3 _ _
  · exact hsz
end
end Dl

set_option Elab.async false
set_option linter.all false
set_option maxRecDepth 100000
set_option maxHeartbeats 4000000
set_option autoImplicit false
namespace Dl
open PySem PySem.Spec PyProof.Rows L2
/-! ## repr of a pair, its items ints or own objects with a __repr__ of their own: in terms of data -/
abbrev tupC (a : Addr) : Code := .builtin "tuple.__repr__" ⟨[.ref a], []⟩
theorem tup_depth {A : Around} {a : Addr} : (A.under (tupC a)).depth = A.depth + 1 := by
  first | rfl | simp [Around.under, Code.weight, Code.isCreation, Code.isGuard, Code.isCaller, Code.frames, Code.isFrame, guardIds]
theorem tup_units {A : Around} {a : Addr} : (A.under (tupC a)).units = A.units + 1 := by
  first | rfl | simp [Around.under, Code.cUnits, Code.frames, Code.isFrame]
theorem Room.tup {k : Nat} {A : Around} (r : L2.Room (k + 1) A) (a : Addr) : L2.Room k (A.under (tupC a)) :=
  ⟨r.hd, by have := r.dp; rw [tup_depth]; omega, by have := r.un; rw [tup_units]; omega⟩
theorem Env0.tup {P : Program} {w : World} {K : PySem.W.Frag} {mg : Str → Option Value} {base : Heap} {A : Around} {outer : List Env} {s : Shared} {H : Hp} (e : L2.Env0 P w K mg base A outer s H) (a : Addr) :
    L2.Env0 P w K mg base (A.under (tupC a)) outer s H := ⟨by first | exact e.frames | (simpa [Around.under, Code.envs, Code.isFrame, pushEnvs] using e.frames), e.mod, e.bs, e.bsz, e.funs, e.frf, e.hok, e.bare⟩
section
variable {X : Cx} {N : En} {W : WX} {n k : Nat} {δ : List (Option S)} {μ μ' : List M} {R : Rel} {C : Addr}
/-- what an item shows -/
inductive ItD (C : Addr) (R : Rel) (μ : List M) : D → Str → Prop
  | int (i : Int) : i.natAbs.log2 < 1920 → ItD C R μ (.int i) (toString i)
  | own {ns : List Str} {ds : List D} {q : Str} : R [.p (.ins C ns ds)] μ (.v (.p (.str q))) μ → ItD C R μ (.ins C ns ds) q
theorem item_run {pins : List (Addr × Obj)} {σ σI : L2.St} {H F : Hp} {A : List Addr} {s : Shared} {a : Addr} {v : V} {u : Value} {d : D} {t : Str} {b : Nat} {Q : Str → Shared → Prop} (g : Go X N W n) (cm : Cm X.prog X.w X.K X.mg X.base k C "__repr__" [] R) (hk : k + 2 ≤ n)
    (it : ItD C R μ d t) (I : Inv X pins σI H s) (R0 : Rl N F A H σ δ μ) (rp : Rep X.K F v d) (ru : RelV v u) (hb : b + t.length ≤ sizeLine)
    (hq : ∀ s1 F1 A1 H1, Same F F1 → A <+: A1 → Rl N F1 A1 H1 σ δ μ → Inv X pins σI H1 s1 → Q t s1) :
    wpAny (model X.prog X.w) (X.A.in1.under (tupC a)) (pyReprUnder b u) Q X.xe s := by
  cases it with
  | int i hi =>
    cases rp
    obtain ⟨tk, rfl⟩ := (show ∃ tk, u = Value.int i tk from ru)
    exact ReprIs.int tk hi b hb _ _ _ _ fun tk' => hq _ F A H (Same.refl _) (List.prefix_refl _) R0 (I.kept (h' := s.heap) (t' := tk') fun _ _ e => e)
  | @own ns ds q hR =>
    obtain ⟨f, fd, ps, dsv, dvs, Fo, hme, hbi, hd, rd⟩ := cm.ex
    obtain ⟨a1, dx, fs, rfl, g1, g2, g3⟩ := rep_ins rp
    cases ru
    obtain ⟨od, J⟩ := inst_at I (R0.rc.sub _ _ g1)
    have hun := g.room.units
    have hK := g.hK
    refine under_own (by omega) (by rw [tup_units]; show X.A.units + 1 + 1 < _; omega) I.kIn J hme.at_ hme.fn ?_
    have r2 : Vals ([V.ref a1] ++ dvs) ([Value.ref a1] ++ dsv) := L2.Vals.append (show L2.Vals [V.ref a1] [Value.ref a1] from .cons rfl .nil) hd
    have hs : spD X.K R ([V.ref a1] ++ dvs) H (fun v H' => v = .str t ∧ ∃ F1 A1, Same F F1 ∧ A <+: A1 ∧ Rl N F1 A1 H' σ δ μ) (WE W0 σI) := by
      rw [← hK] at rd rp ⊢
      refine spD_in (N := N) (σ := σ) (δ := δ) (F := F) (A := A) (ss := [.p (.ins C (fs.map (·.1)) ds)] ++ ([] : List D).map S.p) (r := .v (.p (.str t))) (μ' := μ) (by rw [g2]; exact hR) R0 (RepSs.append (.cons (by rw [g2]; exact rp) .nil) (of_reps (rd F))) ?_
      intro v F' A' H' e' p' R' rv'
      exact ⟨rs_str rv', F', A', e', p', R'⟩
    have hl : ([Value.ref a1] ++ dsv).length = ps.length := by rw [← r2.length]; exact Fo.len _ _ _ _ hs
    refine wpAny_call (codeAny_mono (Fo.run (X.A.in1.under (tupC a)) X.stack s H ⟨[.ref a1], []⟩ ([.ref a1] ++ dsv) ([.ref a1] ++ dvs) _ (WE W0 σI) (Room.tup (g.room.mono (show k + 1 + 1 ≤ n by omega)).in1 a) (Env0.tup I.env0.in1 a) (hbi s [.ref a1] I.kIn hl) r2 hs) fun r s' hq' => ?_)
    cases r with
    | error e => exact passAt (W := W0) takes00 σI pins H s e s' I hq'
    | ok fl =>
      cases fl with
      | ret u =>
        obtain ⟨v, H', I', rv, ev, F1, A1, e1, p1, R1⟩ := I.after hq'
        subst ev
        obtain ⟨tk, rfl⟩ := (show ∃ tk, u = Value.str t tk from rv)
        exact ⟨t, tk, rfl, hq s' F1 A1 H' e1 p1 R1 I'⟩
      | next => exact False.elim hq'
      | brk => exact False.elim hq'
      | cont => exact False.elim hq'
/-- repr(e), e a pair of such -/
theorem de_reprPair {e : Expr} {p1 pos : Pos} {μ1 : List M} {d1 d2 : D} {t1 t2 : Str} (g : Go X N W n) (gd : X.A.guards = some []) (cm : Cm X.prog X.w X.K X.mg X.base k C "__repr__" [] R) (h : DE X N W δ μ1 e (.v (.p (.tup [d1, d2]))) μ) (i1 : ItD C R μ d1 t1) (i2 : ItD C R μ d2 t2) (sz : (tupleText [t1, t2]).length ≤ sizeLine) (hm : X.mg "repr" = none) (hk : k + 2 ≤ n := by decide) (hg : Gl X "repr" := by rfl)
    (h1 : starEach [e] X.env = (false, eval e X.env) :: starEach [] X.env := by rfl) : DE X N W δ μ1 (.Call (.Name "repr" p1) [e] [] pos) (.v (.p (.str (tupleText [t1, t2])))) μ := by
  have cr : CallR X (.builtin "repr") (fun xs H Q => ∃ (σ : L2.St) (F : Hp) (A : List Addr) (v : V), xs = [v] ∧ Rl N F A H σ δ μ ∧ Rep X.K F v (.tup [d1, d2]) ∧ ∀ F1 A1 H1, Same F F1 → A <+: A1 → Rl N F1 A1 H1 σ δ μ → Q (.str (tupleText [t1, t2])) H1) := by
    intro pins s σI H xs us Q I r ⟨σ, F, A, v, ex, R0, rp, k0⟩
    subst ex
    obtain ⟨u, rfl, ru⟩ := vals1 r
    obtain ⟨a, vs, rfl, sq, rps⟩ := rep_tup rp
    cases ru
    obtain ⟨its, rv, ⟨o, h1, h2, nn, h3⟩, _⟩ := I.tuple (same_sqT R0.rc.sub sq)
    have hun := g.room.un
    cases rps with
    | cons q1 rps =>
      cases rps with
      | cons q2 rps =>
        cases rps
        cases rv with
        | cons w1 rv =>
          cases rv with
          | cons w2 rv =>
            cases rv
            have l1 := piled_le_tupleText [t1, t2]
            simp only [piled, List.map_cons, List.map_nil, List.sum_cons, List.sum_nil] at l1
            refine call_repr_slot (by omega) ⟨o, h1, h2⟩ PySem.F.slot_tuple_repr ?_
            refine call_pair (A := X.A.in1) (t1 := t1) (t2 := t2) ⟨o, h1, h2⟩ gd h1 h3 sz ?_
            refine item_run g cm hk i1 I R0 q1 w1 (by omega) fun s1 F1 A1 H1 e1 p1 R1 I1 => ⟨rfl, ?_⟩
            refine item_run g cm hk i2 I1 R1 (q2.mono e1) w2 (by omega) fun s2 F2 A2 H2 e2 p2 R2 I2 => ⟨rfl, fun u tk => ⟨_, _, rfl, ?_⟩⟩
            exact ⟨.str (tupleText [t1, t2]), H2, I2.kept (h' := s2.heap) (t' := tk) fun _ _ e => e, ⟨u, rfl⟩, k0 F2 A2 H2 (e1.trans e2) (p1.trans p2) R2⟩
  exact PE.imp (pe_callB cr hg hm (by decide +kernel) (pa_cons h pa_nil h1) (by decide) (by decide) h1 (by rfl)) fun σ H Q ⟨F, A, R0, k⟩ => ⟨F, A, R0, fun v F1 A1 H1 e1 p1 R1 rv => by
    have rv' : Rep N.K F1 v (.tup [d1, d2]) := rv
    have hK := g.hK
    rw [hK] at rv'
    exact ⟨σ, F1, A1, v, rfl, R1, rv', fun F2 A2 H2 e2 p2 R2 => k _ F2 A2 H2 (e1.trans e2) (p1.trans p2) R2 (.str _)⟩⟩
end
end Dl

set_option Elab.async false
set_option linter.all false
set_option maxRecDepth 100000
set_option maxHeartbeats 4000000
set_option autoImplicit false
namespace Dl
open PySem PySem.Spec PyProof.Rows L2
/-! ## lambdas that are handed to defs, and from these to others -/
theorem un_up {fs fs' : List Addr} {H H1 H2 : Hp} {h h1 h2 : Heap} (a : Un fs [] H H1 h h1) (b : Un fs' [] H1 H2 h1 h2) (hf : ∀ x ∈ fs', x ∈ fs ∨ h.objs.size ≤ x) : Un fs [] H H2 h h2 where
  keep := fun c ob q n hc hx => b.keep c ob (a.keep c ob q n hc hx) (a.free c ob q n hx) (fun z => (hf c z).elim hc fun z => absurd (Heap.lt_size q) (Nat.not_lt.mpr z)) hx
  slot := fun c ob q n hc hx => by
    obtain ⟨sl, e1⟩ := a.slot c ob q n hc hx
    obtain ⟨sl', e2⟩ := b.any e1 (a.free c ob q n hx) hx
    exact ⟨sl', e2⟩
  free := fun c ob q n hx => by
    obtain ⟨o', e1⟩ := a.there c ob q hx
    exact b.free c o' e1 (a.free c ob q n hx) hx
  there := fun c ob q hx => by
    obtain ⟨o', e1⟩ := a.there c ob q hx
    exact b.there c o' e1 hx
  tups := fun c xs q => b.tups c xs (a.tups c xs q)
  frzs := fun c ob xs q => b.frzs c ob xs (a.frzs c ob xs q)
  tbls := fun c ps q => by
    obtain ⟨m1, e1⟩ := a.tbls c ps q
    obtain ⟨m2, e2⟩ := b.tbls c _ e1
    exact ⟨m1 ++ m2, by rw [e2, Array.append_assoc]⟩
/-- from this state on the function at fl may be called -/
def Call0 (P : Program) (w : World) (K : PySem.W.Frag) (mg : Str → Option Value) (base : Heap) (j : Nat) (fl : Addr) (tl : XK → Hp → VK → Prop) (outer : List Env) (s : Shared) (H : Hp) : Prop :=
  ∀ (A : Around) (outer' : List Env) (s1 : Shared) (H1 : Hp) (E : XK) (Q : VK), Room j A → Env0 P w K mg base A outer' s1 H1 → Un (frs outer) [] H H1 s.heap s1.heap → tl E H1 Q →
    PySem.W.FnAt fl s1.heap ∧ codeAny (model P w) A (.call (.ref fl) ⟨[], []⟩) (CR (L2.CX P w) outer' P w H1 s1 Q E) s1
section
variable {X Z : Cx} {pins : List (Addr × Obj)} {σ : L2.St} {H : Hp} {s : Shared}
/-- the lambda's own -/
theorem lam_call0 {f c' : Addr} {pm ctv : Value} {params : Arguments} {body : Expr} {scope : Scope} {k : Nat} {t : XK → TE}
    (I : Inv X pins σ H s) (L : LamX.LamS X.env.scope scope) (at_ : s.heap.get? f = some (lamO X params body scope pm c' ctv)) (hfn : H f = none) (hfr : f ∉ frs X.stack)
    (hbind : bindArgs (PySem.W.kla_fn "<lambda>" (lamQ X) params body scope (cloFrom X.env.cells scope.names []) pm (.ref c') ctv) ⟨[], []⟩ = pure [])
    (hbody : ∀ (E : XK) (A : Around) (outer : List Env) (s : Shared) (H : Hp), Room k (A.deeper (LamX.lamEnv X scope s.heap.objs.size f c')) → PE (LamX.lamCx X A outer s H E scope f c') body (t E)) :
    Call0 X.prog X.w X.K X.mg X.base (k + 1) f (fun E HZ Q => HZ c' = some (LamX.CodeO c' (lamQ X)) ∧ t E σ HZ Q) X.stack s H := by
  intro A outer' s1 H1 E Q hr e0 un ⟨code, want⟩
  have at1 : s1.heap.get? f = some (lamO X params body scope pm c' ctv) := un.keep f _ at_ hfn hfr (by intro z; cases (show f ∈ ([] : List Addr) from z))
  refine ⟨⟨_, _, _, _, at1⟩, ?_⟩
  obtain ⟨⟨oc, vs, tq, oAt, oD, oV⟩, _⟩ := e0.hok c' _ code
  have lim : s1.heap.NoLimit := e0.mod.nolimit.keeps fun b o e => (e0.bs b o e).1
  refine PySem.W.kla_callFunE hr.depth at1 rfl L.co L.gen rfl ⟨c', oc, vs, tq, rfl, oAt, oD, oV⟩ ?_
  rw [hbind]
  refine wpAny_pure (wpAny_newFunctionEnv (fun y hy => (L.own y hy).2) (fun y hy => by cases hy) (fun g1 ns sb => ⟨lim.fresh _ sb, ?_⟩) L.kind)
  have kp : ∀ b o, s1.heap.get? b = some o → g1.get? b = some o := fun b o e => sb.extBut b o (Nat.ne_of_lt (Heap.lt_size e)) (Heap.get?_push_of_some _ e)
  show codeAny _ _ (.expr body (LamX.lamEnv X scope s1.heap.objs.size f c')) _ _
  have J := LamX.lam_start2 (A := A) (outer := outer') (E := E) (f := f) (c' := c') (tk := s1.toks + ([] : List (Str × Value)).length) I L e0 hr.hd un ns kp
  refine PySem.W.kla_codeExpr (wpAny_mono ((hbody E _ _ s1 H1 (hr.deeper _)).run [] _ _ H1 Q J want) (fun v s' ⟨x, H', J', rv, q⟩ => ?_) fun _ _ z => z)
  exact ⟨x, H', J'.os, J'.bare, J'.base, J'.hok, rv, q⟩
/-- .. seen from a def's body at a later state -/
theorem Call0.into {j : Nat} {fl : Addr} {tl : XK → Hp → VK → Prop} (c : Call0 Z.prog Z.w Z.K Z.mg Z.base j fl tl Z.outer Z.s_0 Z.H_0) (hex : Z.ex = []) (I : Inv Z pins σ H s) : Call0 Z.prog Z.w Z.K Z.mg Z.base j fl tl Z.stack s H := by
  intro A outer' s1 H1 E Q hr e0 un h
  have b := I.base
  rw [hex] at b
  refine c A outer' s1 H1 E Q hr e0 (un_up b un fun x hx => ?_) h
  rcases List.mem_cons.mp (I.stkSub x hx) with e | e
  · subst e; exact .inr I.ok.above
  · exact .inl e
/-- it is called there by its name -/
theorem pe_callV {i j : Nat} {fl : Addr} {a : Str} {W : WX} {tl : XK → Hp → VK → Prop} {p1 p2 : Pos} (tk : Takes Z W) (c : Call0 Z.prog Z.w Z.K Z.mg Z.base j fl tl Z.outer Z.s_0 Z.H_0) (hex : Z.ex = []) (hr : Room j Z.A)
    (hN : Z.N[i]? = some a) (hv : Vis Z.env.scope a) (hd : (a == ("__debug__" : Str)) = false := by decide) (hcd : (a == ("__classdict__" : Str)) = false := by decide) :
    PE Z (.Call (.Name a p1) [] [] p2) (fun σ H Q => σ[i]? = some (some (.ref fl)) ∧ tl (WE W σ) H Q) := by
  refine ⟨fun pinsZ sZ σZ HZ Q IZ ⟨slot, want⟩ => wpAny_Call_Name_kw (thn ((pe_var (pos := p1) (i := i) hN hv hd hcd).run pinsZ sZ σZ HZ (fun v H1 => v = .ref fl ∧ H1 = HZ) IZ ⟨.ref fl, slot, rfl, rfl⟩) fun u s1 ⟨v, H1, I1, r1, e1, e2⟩ => ?_)⟩
  subst e1 e2
  obtain rfl : u = Value.ref fl := r1
  have b := I1.base
  rw [hex] at b
  obtain ⟨fa, run⟩ := c Z.A Z.stack s1 H1 (WE W σZ) Q hr I1.env0 b want
  refine PySem.W.callWith_F0 fa ?_
  refine wpAny_call (codeAny_mono run fun r s' hq => ?_)
  cases r with
  | error e => exact passAt tk σZ pinsZ H1 s1 e s' I1 hq
  | ok fl =>
    cases fl with
    | ret u => exact I1.after hq
    | next => exact hq.elim
    | brk => exact hq.elim
    | cont => exact hq.elim
end
/-! ### in terms of data -/
/-- what a call of it does: from which changing things to what, and to which -/
abbrev Lr := List M → Rx → List M → Prop
def EndL (N' : En) (F : Hp) (A : List Addr) (μ' : List M) (E : XK) (Q : VK) : Rx → Prop
  | .v s => ∀ v F' A' H', Same F F' → A <+: A' → Rc N' F' A' H' μ' → RepS N'.K F' A' v s → Q v H'
  | .x C d => ∀ dx v F' A' H', Same F F' → A <+: A' → Rc N' F' A' H' μ' → F' dx = some (.xd [("value", v)]) → Rep N'.K F' v d → E (.ref C) (some dx) H'
def tlD (K : PySem.W.Frag) (F0 : Hp) (A0 : List Addr) (μ : List M) (r : Rx) (μ' : List M) : XK → Hp → VK → Prop := fun E H Q => ∃ (N' : En) (F : Hp) (A : List Addr), N'.K = K ∧ Same F0 F ∧ A0 <+: A ∧ Rc N' F A H μ ∧ EndL N' F A μ' E Q r
theorem EndL.imp {N' : En} {F : Hp} {A : List Addr} {μ' : List M} {E E' : XK} {Q Q' : VK} : ∀ {r : Rx}, EndL N' F A μ' E Q r → (∀ c d h, E c d h → E' c d h) → (∀ v h, Q v h → Q' v h) → EndL N' F A μ' E' Q' r
  | .v _, k, _, h2 => fun v F' A' H' e p R rv => h2 _ _ (k v F' A' H' e p R rv)
  | .x _ _, k, h1, _ => fun dx v F' A' H' e p R a b => h1 _ _ _ (k dx v F' A' H' e p R a b)
theorem tlD_mono {K : PySem.W.Frag} {F0 : Hp} {A0 : List Addr} {μ μ' : List M} {r : Rx} (E E' : XK) (H : Hp) (Q Q' : VK) (h1 : ∀ c d h, E c d h → E' c d h) (h2 : ∀ v h, Q v h → Q' v h) : tlD K F0 A0 μ r μ' E H Q → tlD K F0 A0 μ r μ' E' H Q' :=
  fun ⟨N', F, A, a, b, c, d, k⟩ => ⟨N', F, A, a, b, c, d, k.imp h1 h2⟩
theorem tlD_to {K : PySem.W.Frag} {F0 F1 : Hp} {A0 A1 : List Addr} {μ μ' : List M} {r : Rx} {E : XK} {H : Hp} {Q : VK} (e : Same F0 F1) (p : A0 <+: A1) : tlD K F1 A1 μ r μ' E H Q → tlD K F0 A0 μ r μ' E H Q :=
  fun ⟨N', F, A, a, b, c, d, k⟩ => ⟨N', F, A, a, e.trans b, p.trans c, d, k⟩
def CallL (P : Program) (w : World) (K : PySem.W.Frag) (mg : Str → Option Value) (base : Heap) (j : Nat) (fl : Addr) (L : Lr) (F0 : Hp) (A0 : List Addr) (outer : List Env) (s : Shared) (H : Hp) : Prop :=
  ∀ μ r μ', L μ r μ' → Call0 P w K mg base j fl (tlD K F0 A0 μ r μ') outer s H
/-- a body that was handed it -/
structure Lam (Z : Cx) (N : En) (j : Nat) (fl : Addr) (L : Lr) : Prop where
  ex : Z.ex = []
  c0 : CallL Z.prog Z.w Z.K Z.mg Z.base j fl L N.F0 N.A0 Z.outer Z.s_0 Z.H_0
/-- a def whose first parameter is handed a function; where no guard stands, if b -/
structure FnL (P : Program) (w : World) (K : PySem.W.Frag) (mg : Str → Option Value) (base : Heap) (b : Bool) (k j : Nat) (f : Addr) (fd : FuncData) (ps : List Str) (RL : Lr → Rel) : Prop where
  len : ∀ L ss μ r μ', RL L ss μ r μ' → ss.length + 1 = ps.length
  go : ∀ (L : Lr) (A : Around) (outer : List Env) (s : Shared) (H : Hp) (args : Args) (us : List Value) (vs : List V) (Q : VK) (E : XK) (fl : Addr) (F : Hp) (A0 : List Addr) (ss : List S) (μ : List M) (r : Rx) (μ' : List M),
    (b = true → A.guards = some []) → Room k A → Env0 P w K mg base A outer s H → BindsTo s fd args (ps.zip (.ref fl :: us)) → Vals vs us → RL L ss μ r μ' → Rc ⟨K, H, F, A0⟩ F A0 H μ → RepSs K F A0 vs ss → CallL P w K mg base j fl L F A0 outer s H → EndL ⟨K, H, F, A0⟩ F A0 μ' E Q r →
    codeAny (model P w) A (.call (.ref f) args) (CR (L2.CX P w) outer P w H s Q E) s
theorem FnL.up {P : Program} {w : World} {K : PySem.W.Frag} {mg : Str → Option Value} {base : Heap} {b : Bool} {k k' j : Nat} {f : Addr} {fd : FuncData} {ps : List Str} {RL : Lr → Rel} (F : FnL P w K mg base b k j f fd ps RL) (h : k ≤ k') : FnL P w K mg base b k' j f fd ps RL :=
  ⟨F.len, fun L A outer s H args us vs Q E fl F' A0 ss μ r μ' hg hr => F.go L A outer s H args us vs Q E fl F' A0 ss μ r μ' hg (hr.mono h)⟩
structure Cl (P : Program) (w : World) (K : PySem.W.Frag) (mg : Str → Option Value) (base : Heap) (b : Bool) (k j : Nat) (x : Str) (RL : Lr → Rel) : Prop where
  ex : ∃ (f : Addr) (fd : FuncData) (ps : List Str), FnL P w K mg base b k j f fd ps RL ∧ mg x = some (.ref f) ∧ PySem.W.keepIn K (.ref f) = true ∧ Binds K fd ps []
section
variable {X Z : Cx} {N : En} {W : WX} {n k j : Nat} {δ : List (Option S)} {μ μ1 μ2 μ' : List M} {e : Expr} {es : List Expr} {ss : List S} {r r0 : Rx} {x a : Str} {p p1 p2 pos : Pos} {b : Bool} {L : Lr} {fl : Addr} {RL : Lr → Rel}
/-- call() -/
theorem de_callV (i : Nat) (g : Go Z N W n) (l : Lam Z N j fl L) (hL : L μ r μ') (hs : δ[i]? = some (some (.p (.adr fl))) := by rfl) (hN : Z.N[i]? = some a := by rfl) (hv : Vis Z.env.scope a := by first | exact Or.inl rfl | exact Or.inr (Or.inl rfl) | exact Or.inr (Or.inr rfl)) (hj : j ≤ n := by decide)
    (hd : (a == ("__debug__" : Str)) = false := by decide) (hcd : (a == ("__classdict__" : Str)) = false := by decide) : DE Z N W δ μ (.Call (.Name a p1) [] [] p2) r μ' :=
  PE.imp (pe_callV (i := i) (j := j) g.tk (l.c0 μ r μ' hL) l.ex (g.room.mono hj) hN hv hd hcd) fun σ H Q ⟨F, A, R, k⟩ => by
    obtain ⟨v, hσ, rv⟩ := R.sl i _ hs
    have ev : v = .ref fl := by cases (show Rep N.K F v (.adr fl) from rv); rfl
    subst ev
    refine ⟨hσ, N, F, A, g.hK, R.rc.base, R.rc.prefix_, R.rc, ?_⟩
    cases r with
    | v s0 => exact fun v F' A' H' e' p' R' rv' => k v F' A' H' e' p' (R.to e' p' R') rv'
    | x C d => exact fun dx v F' A' H' e' p' R' h1 h2 => k dx v F' A' H' e' p' (R.to e' p' R') h1 h2
theorem end_of {σ : L2.St} {F : Hp} {A : List Addr} {H : Hp} {Q : VK} (R : Rl N F A H σ δ μ) (k0 : EndE N W σ δ F A μ' Q r) : EndL ⟨N.K, H, F, A⟩ F A μ' (WE W σ) Q r := by
  cases r with
  | v s => exact fun v F' A' H' e p R' rv => k0 v F' A' H' e p (R.to e p (R.rc.back R')) rv
  | x C d => exact fun dx v F' A' H' e p R' h1 h2 => k0 dx v F' A' H' e p (R.to e p (R.rc.back R')) h1 h2
/-- a def that is handed a name's function, and data behind it -/
theorem de_handV (i : Nat) {y : Str} {py : Pos} (g : Go Z N W n) (gd : b = true → Z.A.guards = some []) (l : Lam Z N j fl L) (cl : Cl Z.prog Z.w Z.K Z.mg Z.base b k j x RL) (ha : DA Z N W δ μ es ss μ1) (hR : RL L ss μ1 r μ2) (hs : δ[i]? = some (some (.p (.adr fl))) := by rfl) (hN : Z.N[i]? = some y := by rfl)
    (hv : Vis Z.env.scope y := by first | exact Or.inl rfl | exact Or.inr (Or.inl rfl) | exact Or.inr (Or.inr rfl)) (hk : k ≤ n := by decide) (hg : Gl Z x := by rfl) (hdb : (x == ("__debug__" : Str)) = false := by decide) (hyd : (y == ("__debug__" : Str)) = false := by decide) (hyc : (y == ("__classdict__" : Str)) = false := by decide)
    (he : starEach (.Name y py :: es) Z.env = (false, eval (.Name y py) Z.env) :: starEach es Z.env := by rfl) (hpl : (backTo pos (starEach es Z.env)).any (·.1) = false := by rfl) : DE Z N W δ μ (.Call (.Name x p) (.Name y py :: es) [] pos) r μ2 := by
  obtain ⟨f, fd, ps, Fo, hm, hkp, hb⟩ := cl.ex
  have dv : DE Z N W δ μ (.Name y py) (.v (.p (.adr fl))) μ := de_var i hs hN hv hyd hyc
  refine ⟨fun pins s σ H Q I ⟨F, A, R0, q⟩ => ?_⟩
  refine wpAny_Call_Name_kw (ld_glob I hg hm ?_ hdb)
  refine PySem.W.callWith_K (h₀ := Z.base) I.ok.mod.kin hkp (thn ((da_cons (s := .p (.adr fl)) dv ha he).run pos pins s σ H (fun vs H' => ∃ F' A', Same F F' ∧ A <+: A' ∧ Rl N F' A' H' σ δ μ1 ∧ RepSs N.K F' A' vs (.p (.adr fl) :: ss)) I ⟨F, A, R0, fun vs F' A' H' h1 h2 h3 h4 => ⟨F', A', h1, h2, h3, h4⟩⟩) fun us s1 ⟨vs, H1, I1, r1, F1, A1, e1, p1, R1, rv⟩ => ⟨I1.kIn, ?_⟩) he hpl
  cases rv with
  | @cons v _ vs _ rv0 rv =>
    cases (show Rep N.K F1 v (.adr fl) from rv0)
    cases r1 with
    | @cons _ u _ us ru r1 =>
      cases ru
      have hK := g.hK
      have k1 := q.to e1 p1
      have rc1 := R1.rc.entry
      have c1 : CallL Z.prog Z.w Z.K Z.mg Z.base j fl L F1 A1 Z.stack s1 H1 := fun μ3 r3 μ4 hL A' outer' s2 H2 E' Q' a1 a2 a3 a4 => (l.c0 μ3 r3 μ4 hL).into l.ex I1 A' outer' s2 H2 E' Q' a1 a2 a3 (tlD_to R1.rc.base R1.rc.prefix_ a4)
      have hl : (Value.ref fl :: us).length = ps.length := by
        rw [← Fo.len L ss μ1 r μ2 hR, List.length_cons, ← r1.length, rv.length]
      have hb1 := hb s1 (.ref fl :: us) I1.kIn (by rw [List.append_nil]; exact hl)
      rw [List.append_nil] at hb1
      have ke := end_of R1 k1
      rw [hK] at rc1 rv ke
      refine wpAny_call (codeAny_mono (Fo.go L Z.A Z.stack s1 H1 ⟨.ref fl :: us, []⟩ us vs Q (WE W σ) fl F1 A1 ss μ1 r μ2 gd (g.room.mono hk) I1.env0 hb1 r1 hR rc1 rv c1 ke) fun z s' hq => ?_)
      match z, hq with
      | .error _, hq => exact passAt g.tk σ pins _ _ _ s' I1 hq
      | .ok (.ret _), hq => exact I1.after hq
/-- a def that is handed a lambda, and data behind it -/
theorem de_handL {c P : Addr} {jt : Nat} {params : Arguments} {bdy : Expr} {scope : Scope} {lpos : Pos} (g : Go X N W n) (gd : b = true → X.A.guards = some []) (hT : μ[jt]? = some (.tab P (lamQ X))) (TB : LamX.TabB X.base X.mg c P) (hcode : X.env.code = .ref c)
    (cl : Cl X.prog X.w X.K X.mg X.base b k (j + 1) x RL)
    (body : ∀ E A outer s H f c', ∀ N' : En, N'.K = N.K → Go (LamX.lamCx X A outer s H E scope f c') N' (fun cls d _ H => E cls d H) j → ∀ μ3 r3 μ4, L μ3 r3 μ4 → DE (LamX.lamCx X A outer s H E scope f c') N' (fun cls d _ H => E cls d H) δ μ3 bdy r3 μ4)
    (ha : DA X N W δ μ es ss μ1) (hR : RL L ss μ1 r μ2)
    (S : LamX.LamS X.env.scope scope := by exact LamX.lamS_by (by rfl)) (hk : k ≤ n := by decide) (hg : Gl X x := by rfl) (hdef : defaultsOf params X.env = ([], []) := by rfl)
    (hbind : ∀ (q : Str) (cl : List (Str × Addr)) (pm cv ctv : Value), bindArgs (PySem.W.kla_fn "<lambda>" q params bdy scope cl pm cv ctv) ⟨[], []⟩ = pure [] := by intros; rfl)
    (hdb : (x == ("__debug__" : Str)) = false := by decide) (he : starEach (.Lambda params bdy scope lpos :: es) X.env = (false, eval (.Lambda params bdy scope lpos) X.env) :: starEach es X.env := by rfl) (hpl : (backTo pos (starEach es X.env)).any (·.1) = false := by rfl) :
    DE X N W δ μ (.Call (.Name x p) (.Lambda params bdy scope lpos :: es) [] pos) r μ2 := by
  obtain ⟨f, fd, ps, Fo, hm, hkp, hb⟩ := cl.ex
  refine ⟨fun pins s σ H Q I ⟨F, A, R0, q⟩ => ?_⟩
  refine wpAny_Call_Name_kw (ld_glob I hg hm ?_ hdb)
  obtain ⟨aP, hA, e1, pst, tabAt, tri, known⟩ := R0.rc.at' hT
  subst e1
  refine PySem.W.callWith_K (h₀ := X.base) I.ok.mod.kin hkp ?_ he hpl
  rw [he]
  show wpAny _ _ (spliced ((false, eval (.Lambda params bdy scope lpos) X.env) :: backTo pos (starEach es X.env))) _ _ s
  refine Calls.spliced_cons (lam_made I TB hcode tabAt tri (fun p v h => by
    obtain ⟨b, e, hb⟩ := known p v h
    exact ⟨b, e, R0.rc.sub _ _ hb⟩) hdef (S.has I.ok) fun lf c' pm' ctv H1 s1 I1 l1 hf hfn hfr hco => ?_)
  obtain ⟨F1, sm, rc1, hF⟩ := rc_lam R0.rc hA hT tabAt tri known l1
  have R1 : Rl N F1 A H1 σ δ μ := R0.to sm (List.prefix_refl _) rc1
  have hfs : lf ∉ X.fs := fun z => hfr (by
    rcases I1.ok.stk with e | ⟨e, _⟩
    · rw [e]; exact z
    · rw [e]
      show lf ∈ frs (X.env :: X.outer)
      unfold frs
      rw [List.filterMap_cons]
      split
      · exact z
      · exact List.mem_cons_of_mem _ z)
  have hloc : lf ≠ X.env.locals := fun z => by
    obtain ⟨m, ⟨o, es', ep, e, d, _⟩, _⟩ := I1.loc
    rw [← z, hf] at e
    cases e
    cases d
  have Ip : Inv X ((lf, lamO X params bdy scope pm' c' ctv) :: pins) σ H1 s1 := I1.pins_of fun p hp => by
    rcases List.mem_cons.mp hp with rfl | hp
    · exact ⟨hf, hfn, hloc, hfs, fun v z => by cases z⟩
    · exact I1.pin p (List.mem_append_right _ hp)
  refine thn (ha.run pos _ s1 σ H1 (fun vs H' => ∃ F' A', Same F1 F' ∧ A <+: A' ∧ Rl N F' A' H' σ δ μ1 ∧ RepSs N.K F' A' vs ss) Ip ⟨F1, A, R1, fun vs F' A' H' h1 h2 h3 h4 => ⟨F', A', h1, h2, h3, h4⟩⟩) fun us s2 ⟨vs, H2, I2p, r2, F2, A2, e2, p2, R2, rv⟩ => ?_
  have I2 : Inv X pins σ H2 s2 := I2p.pins_of fun p hp => I2p.pin p (List.mem_append_right _ (List.mem_cons_of_mem _ hp))
  obtain ⟨hf2, hfn2, _⟩ := I2p.pin (lf, lamO X params bdy scope pm' c' ctv) (List.mem_append_right _ List.mem_cons_self)
  have hK := g.hK
  have c2 : CallL X.prog X.w X.K X.mg X.base (j + 1) lf L F2 A2 X.stack s2 H2 := fun μ3 r3 μ4 hL A' outer' s3 H3 E' Q' a1 a2 a3 ⟨N', F3, A3, b1, b2, b3, b4, b5⟩ => by
    refine lam_call0 (k := j) (t := fun E σ H Q => ∃ (N' : En) (F : Hp) (A : List Addr), N'.K = N.K ∧ Rl N' F A H σ δ μ3 ∧ EndE N' (fun cls d _ H => E cls d H) σ δ F A μ4 Q r3) I2 S hf2 hfn2 hfr (hbind _ _ _ _ _)
      (fun E A outer s H hr2 => ⟨fun pins s' σ H' Q I ⟨N', F, A', hK', R, kk⟩ => (body E A outer s H lf c' N' hK' ⟨takes_of rfl rfl rfl rfl, rfl, hK'.trans hK, hr2, passes_of rfl, g.nd⟩ μ3 r3 μ4 hL).run pins s' σ H' Q I ⟨F, A', R, kk⟩⟩) A' outer' s3 H3 E' Q' a1 a2 a3 ⟨b4.sub _ _ (b2 _ _ (e2 _ _ hF)), N', F3, A3, b1.trans hK.symm, ?_, ?_⟩
    · refine ⟨b4, R2.len, fun i s hs => ?_⟩
      obtain ⟨v, h1, h2⟩ := R2.sl i s hs
      refine ⟨v, h1, ?_⟩
      rw [b1.trans hK.symm]
      exact h2.mono b2 b3
    · have Rs : Rl N' F3 A3 H3 σ δ μ3 := ⟨b4, R2.len, fun i s hs => by
        obtain ⟨v, h1, h2⟩ := R2.sl i s hs
        refine ⟨v, h1, ?_⟩
        rw [b1.trans hK.symm]
        exact h2.mono b2 b3⟩
      cases r3 with
      | v s => exact fun v F' A' H' e p R' rv => b5 v F' A' H' e p R'.rc rv
      | x C d => exact fun dx v F' A' H' e p R' h1 h2 => b5 dx v F' A' H' e p R'.rc h1 h2
  have hl : (Value.ref lf :: us).length = ps.length := by
    rw [← Fo.len L ss μ1 r μ2 hR, List.length_cons, ← r2.length, rv.length]
  have hb1 := hb s2 (.ref lf :: us) I2.kIn (by rw [List.append_nil]; exact hl)
  rw [List.append_nil] at hb1
  refine ⟨I2.kIn, ?_⟩
  have ke := end_of R2 (q.to (sm.trans e2) p2)
  have rc2 := R2.rc.entry
  rw [hK] at rc2 rv ke
  refine wpAny_call (codeAny_mono (Fo.go L X.A X.stack s2 H2 ⟨.ref lf :: us, []⟩ us vs Q (WE W σ) lf F2 A2 ss μ1 r μ2 gd (g.room.mono hk) I2.env0 hb1 r2 hR rc2 rv c2 ke) fun z s' hq => ?_)
  match z, hq with
  | .error _, hq => exact passAt g.tk σ pins _ _ _ s' I2 hq
  | .ok (.ret _), hq => exact I2.after hq
end
end Dl

set_option Elab.async false
set_option linter.all false
set_option maxRecDepth 100000
set_option maxHeartbeats 4000000
set_option autoImplicit false
namespace Dl
open PySem PySem.Spec PyProof.Rows L2
theorem pre_take {α : Type} {A0 A : List α} {n : Nat} (p : A0 <+: A) (h : A0.length ≤ n) : A0 <+: A.take n := by
  obtain ⟨B, rfl⟩ := p
  rw [List.take_append, List.take_of_length_le h]
  exact ⟨_, rfl⟩
/-- a def that is handed a function, by its body -/
theorem fn_L {P : Program} {w : World} {K : PySem.W.Frag} {mg : Str → Option Value} {base : Heap} {b : Bool} {x qual : Str} {st : Stmt} {f : Addr} {fd : FuncData} {Nn ps : List Str} {k j : Nat} {RL : Lr → Rel} (F : Fun K x qual st f fd) (Sc : FnScope Nn ps (defScope st)) (hlen : ∀ L ss μ r μ', RL L ss μ r μ' → ss.length + 1 = ps.length)
    (body : ∀ (cdv : Value) (A : Around) (outer : List Env) (s : Shared) (H : Hp) (E : XK) (N : En) (W : WX) (fl : Addr) (L : Lr) (ss : List S) (μ : List M) (r : Rx) (μ' : List M), Go (cxOf (L2.CX P w) P w K mg base Nn qual (defScope st) f cdv A outer s H E) N W k → (b = true → (cxOf (L2.CX P w) P w K mg base Nn qual (defScope st) f cdv A outer s H E).A.guards = some []) →
      N.A0.length = μ.length → Lam (cxOf (L2.CX P w) P w K mg base Nn qual (defScope st) f cdv A outer s H E) N j fl L → RL L ss μ r μ' →
      ∃ o, DSs (cxOf (L2.CX P w) P w K mg base Nn qual (defScope st) f cdv A outer s H E) N W (starts Nn (.p (.adr fl) :: ss)) μ (defBody st) o ∧ Fit μ.length o r μ') :
    FnL P w K mg base b (k + 1) j f fd ps RL := by
  obtain ⟨oc, od, kV, doc, pm, an, cdv, ct, osl, rfl, lk, hcd⟩ := F.ex
  refine ⟨hlen, fun L A outer s H args us vs Q E fl F0 A0 ss μ r μ' hg hr e0 hb hv hR rc rv c0 hq => ?_⟩
  have hl : (V.ref fl :: vs).length = ps.length := by rw [← hlen L ss μ r μ' hR, List.length_cons, rv.length]
  refine LamX.run_ofS lk hcd Sc hr e0 hb (vs := .ref fl :: vs) (.cons rfl hv) hl fun hr1 => ?_
  have g : Go (cxOf (L2.CX P w) P w K mg base Nn qual (defScope st) f cdv A outer s H E) ⟨K, H, F0, A0⟩ (fun cls d _ H => E cls d H) k :=
    ⟨takes_of rfl rfl rfl rfl, rfl, rfl, hr1, passes_of rfl, Sc.nd⟩
  have h0 : A0.length = μ.length := rc.len
  obtain ⟨o, hd, fit⟩ := body cdv A outer s H E ⟨K, H, F0, A0⟩ _ fl L ss μ r μ' g hg h0 ⟨rfl, c0⟩ hR
  have rv' : RepSs K F0 A0 (.ref fl :: vs) (.p (.adr fl) :: ss) := .cons (.adr fl) rv
  refine ⟨_, hd, F0, A0, ⟨rc, (start_slots (N := ⟨K, H, F0, A0⟩) Nn rv').1, (start_slots (N := ⟨K, H, F0, A0⟩) Nn rv').2⟩, ?_⟩
  cases fit with
  | rt => exact fun v F' A' H' e p rc' rv' => hq v F' A' H' e p rc' rv'
  | rtT hn => exact fun v F' A' H' e p rc' rv' => hq v F' _ H' e (pre_take p (by omega)) (rc'.trim (by show A0.length ≤ _; omega)) rv'
  | nx => exact fun σ' F' A' H' e p R' => hq .non F' A' H' e p R'.rc .non
  | nxT hn => exact fun σ' F' A' H' e p R' => hq .non F' _ H' e (pre_take p (by omega)) (R'.rc.trim (by show A0.length ≤ _; omega)) .non
  | xx => exact fun σ' dx v F' A' H' e p R' h1 h2 => hq dx v F' A' H' e p R'.rc h1 h2
  | xxT hn => exact fun σ' dx v F' A' H' e p R' h1 h2 => hq dx v F' _ H' e (pre_take p (by omega)) (R'.rc.trim (by show A0.length ≤ _; omega)) h1 h2
/-- what a def that hears tells -/
def rHear (K : PySem.W.Frag) (CK : Addr) : Lr → Rel := fun L ss μ r μ' => ss = [] ∧ ∃ r0 res, L μ r0 μ' ∧ HR K CK r0 res ∧ r = .v (.p res)
/-- .. in terms of what its call of the function lets out -/
theorem hear_end {K : PySem.W.Frag} {CK : Addr} {F : Hp} {A : List Addr} {H : Hp} {μ μ' : List M} {r0 : Rx} {res : D} {E : XK} {Q : VK} {t : Addr} (rc : Rc ⟨K, H, F, A⟩ F A H μ) (nt : H t = none) (hr : HR K CK r0 res) (kk : EndL ⟨K, H, F, A⟩ F A μ' E Q (.v (.p res))) :
    tlD K F A μ r0 μ' (fun cls d H' => PySem.W.exmOne K cls (.ref CK) = some true ∧ ∀ a, H' a = none → ∀ p, (upd H' a (KpO cls d a)) p = none → Q (.ref p) (upd (upd H' a (KpO cls d a)) p (.tup [.ref a, .non]))) (upd H t (.tup [.non, .non]))
      (fun v H' => ∀ p, H' p = none → Q (.ref p) (upd H' p (.tup [.non, v]))) := by
  refine ⟨⟨K, H, F, A⟩, F, A, rfl, Same.refl _, List.prefix_refl _, rc.junk nt _, ?_⟩
  cases hr with
  | v d =>
    intro v F' A' H' e p R' rv q nq
    have s2 := same_updN (o := .tup [.non, v]) (R'.fresh nq).2.1
    exact kk (.ref q) _ A' _ (e.trans s2) p (R'.frozen nq _) (.tup (.inl (.inl upd_same)) (.cons .non (.cons (Rep.mono s2 rv) .nil)))
  | @x C d hx =>
    intro dx v F' A' H' e p R' h1 h2
    refine ⟨hx, fun a na q nq => ?_⟩
    have r3 := R'.frozen na (KpO (.ref C) (some dx) a)
    have s3 := same_updN (o := KpO (.ref C) (some dx) a) (R'.fresh na).2.1
    have r4 := r3.frozen nq (.tup [.ref a, .non])
    have s4 := same_updN (o := .tup [.ref a, .non]) (r3.fresh nq).2.1
    exact kk (.ref q) _ A' _ ((e.trans s3).trans s4) p r4 (.tup (.inl (.inl upd_same)) (.cons (.exc (s4 _ _ upd_same) (s4 _ _ (s3 _ _ h1)) (Rep.mono (s3.trans s4) h2)) (.cons .non .nil)))
end Dl

set_option Elab.async false
set_option linter.all false
set_option maxRecDepth 100000
set_option maxHeartbeats 4000000
set_option autoImplicit false
namespace Dl
open PySem PySem.Spec PyProof.Rows L2
/-! ## the end, where it is told that sys.modules is a dict -/
theorem law_callH {P : Program} {w : World} {K : PySem.W.Frag} {mg mb : Str → Option Value} {CX : CXT} {k : Nat} {fa a : Addr} {cs : List (Addr × Addr)} {fd : FuncData} {x : Str} {sp : Sp} {s₁ : Shared} {vs : List Value} {ns : List Int}
    (KX : K.In s₁.heap) (hns : s₁.heap.Ns mainGlobals mg) (hb : s₁.heap.Ns builtinsNs mb) (hbb : ∀ x : Str, x ≠ "__name__" → mb x = bootBuiltins x) (hlim : s₁.heap.NoLimit) (hg : s₁.gens = #[])
    (hT : ∀ p ∈ cs, s₁.heap.get? p.2 = some { cls := .none, data := .fields #[] }) (nT : ∀ p ∈ cs, K.lookup p.2 = none) (C : ∀ p ∈ cs, PySem.W.CodeHd s₁.heap p.1 p.2)
    (hbm : ∃ (bm : Addr) (ob : Obj), mg "__builtins__" = some (.ref bm) ∧ bm ≠ builtinsNs ∧ s₁.heap.get? bm = some ob ∧ ob.cls = .type "module" ∧ ob.dict = some builtinsNs ∧ ob.data = .plain)
    (ha : s₁.heap.get? a = some { cls := .type "list", data := .seq vs.toArray }) (hi : IntsAre vs ns) (hl : ns.length ≤ sizeLine) (hr : Room k callerA)
    (hsys : ∃ mm, s₁.heap.Ns sysModules mm) (F : ∀ base : Heap, K.In base → base.Ns mainGlobals mg → (∃ mm, base.Ns sysModules mm) → (∀ p ∈ cs, LamX.TabB base mg p.1 p.2) → FnG P w K mg base CX k fa fd [x] sp) (hbind : ∀ (s : Shared) (u : Value), BindsTo s fd ⟨[u], []⟩ [(x, u)])
    (hsp : ∀ H : Hp, (∀ p ∈ cs, H p.2 = some (.tbl #[])) → SqL K H a (ns.map V.int) → sp [.ref a] H (fun v _ => v = .bl true) fun _ _ _ => False)
    (hCX : ∀ H e s', CX [] H s₁ (fun _ _ _ => False) e s' → False) :
    codeAny (model P w) callerA (.call (.ref fa) ⟨[.ref a], []⟩) (fun r s' => r = .ok (.ret (.bool true)) ∧ OldK s₁.heap s'.heap ∧ s'.os = s₁.os ∧ AllBare s'.gens) s₁ := by
  have rv := vals_ints hi
  let ob : Obj := { cls := .type "list", data := .seq vs.toArray }
  let T := cs.map (·.2)
  let H := hp0 K T a ob (ns.map V.int)
  have isT : ∀ {b}, b ∈ T → s₁.heap.get? b = some { cls := .none, data := .fields #[] } ∧ K.lookup b = none := fun hb => by
    obtain ⟨p, hp, rfl⟩ := List.mem_map.mp hb
    exact ⟨hT p hp, nT p hp⟩
  have aT : a ∉ T := fun z => nomatch (congrArg Obj.data (Option.some.inj (ha.symm.trans (isT z).1)) : Data.seq vs.toArray = Data.fields #[])
  -- what K knows, and what is neither a row of values nor an empty table, is not tracked
  have outK : ∀ {b o}, K.lookup b = some o → H b = none := fun {b o} e => by
    rcases hp0_cases (K := K) (T := T) (a := a) (b := b) (o := ob) (xs := ns.map V.int) with ⟨h, _⟩ | ⟨_, rfl, h, _⟩ | ⟨_, _, h⟩
    · rw [(isT h).2] at e; cases e
    · rw [h] at e; cases e
    · exact h
  have outD : ∀ {b o}, s₁.heap.get? b = some o → (∀ vs n, o.data ≠ .seq vs n) → o.data ≠ .fields #[] → H b = none := fun {b o} e h1 h2 => by
    rcases hp0_cases (K := K) (T := T) (a := a) (b := b) (o := ob) (xs := ns.map V.int) with ⟨h, _⟩ | ⟨_, rfl, h, _⟩ | ⟨_, _, h⟩
    · rw [(isT h).1] at e; cases e; exact (h2 rfl).elim
    · rw [ha] at e; cases e; exact (h1 _ _ rfl).elim
    · exact h
  have keepNs : ∀ {b : Addr} {m : Str → Option Value}, s₁.heap.Ns b m → (hidT s₁.heap H).Ns b m := fun ⟨o, es, ep, e, d, r⟩ =>
    ⟨o, es, ep, hidT_get e (outD e (fun _ _ z => nomatch d.symm.trans z) fun z => nomatch d.symm.trans z), d, r⟩
  have hKb : K.In (hidT s₁.heap H) := fun b o e => hidT_get (KX b o e) (outK e)
  have hM : L2.Mod K mg (hidT s₁.heap H) := ⟨hKb, keepNs hns, ⟨mb, keepNs hb, hbb⟩, let ⟨mc, h1, h2⟩ := hlim; ⟨mc, keepNs h1, h2⟩⟩
  have TB : ∀ p ∈ cs, LamX.TabB (hidT s₁.heap H) mg p.1 p.2 := fun p hp => by
    refine ⟨?_, ?_, fun z => ?_⟩
    · obtain ⟨o, us, file, tf, flags, tg, inF, text, tt, e1, r1, r2, r3, r⟩ := C p hp
      refine ⟨o, us, file, tf, flags, tg, inF, text, tt, hidT_get e1 (outD e1 (fun _ _ z => nomatch r2.symm.trans z) fun z => ?_), r1, r2, r3, r⟩
      cases r2.symm.trans z
      simp at r3
    · obtain ⟨bm, o, b1, b2, b3, b4, b5, b6⟩ := hbm
      refine ⟨bm, o, b1, b2, ?_, ?_, hidT_get b3 (outD b3 (fun _ _ z => nomatch b6.symm.trans z) fun z => nomatch b6.symm.trans z), b4, b5, b6⟩
      · rintro rfl
        obtain ⟨o2, es, ep, e, d, _⟩ := hns
        cases b3.symm.trans e
        exact nomatch b6.symm.trans d
      · rintro rfl
        cases b3.symm.trans (hT p hp)
        cases b6
    · obtain ⟨o, es, ep, e, d, _⟩ := hns
      rw [z, hT p hp] at e
      cases e
      cases d
  have hok : HOk P w H s₁.heap := fun b u z => by
    rcases hp0_cases (K := K) (T := T) (a := a) (b := b) (o := ob) (xs := ns.map V.int) with ⟨h, q⟩ | ⟨_, rfl, _, q⟩ | ⟨_, _, q⟩
    · cases q.symm.trans z; exact (isT h).1
    · cases q.symm.trans z; exact ⟨ha, by rw [List.length_map]; exact hl, vs, _, rv, ha⟩
    · cases q.symm.trans z
  have hS : SqL K H a (ns.map V.int) := by
    cases hk : K.lookup a with
    | none => exact .inl (.inr ⟨ob, hp0_a aT hk⟩)
    | some o =>
      cases ha.symm.trans (KX a o hk)
      exact .inr ⟨_, vs.toArray, _, hk, rfl, rfl, rfl, by rw [List.size_toArray, hi.length]; exact hl, by simpa using rv⟩
  have hH : ∀ p ∈ cs, H p.2 = some (.tbl #[]) := fun p hp => hp0_T (List.mem_map.mpr ⟨p, hp, rfl⟩)
  have e0 : Env0 P w K mg (hidT s₁.heap H) callerA [] s₁ H := ⟨rfl, hM, fun b o e => of_hidT e, Nat.le_of_eq (hidT_size _ _), trivial, fun b hb => absurd (show b ∈ ([] : List Addr) from hb) (by simp), hok, .of_eq hg⟩
  refine codeAny_mono ((F _ hKb (keepNs hns) (let ⟨mm, z⟩ := hsys; ⟨mm, keepNs z⟩) TB).go callerA [] s₁ H ⟨[.ref a], []⟩ [.ref a] [.ref a] _ _ rfl hr e0 (hbind s₁ (.ref a)) (.cons rfl .nil) (hsp H hH hS)) fun r s' h => ?_
  match r, h with
  | .error e, h => exact (hCX H e s' h).elim
  | .ok (.ret u), ⟨v, H', os, bare, un, hok', r', q⟩ =>
    cases (show v = .bl true from q)
    obtain rfl : u = Value.bool true := r'
    have grown : ∀ b ∈ T, ∃ more : Array Value, s'.heap.get? b = some { cls := .none, data := .fields more } := fun b hb => by
      obtain ⟨more, z⟩ := un.tbls b #[] (hp0_T hb)
      exact ⟨_, hok' b _ z⟩
    have kept : ∀ b o, b ∉ T → s₁.heap.get? b = some o → s'.heap.get? b = some o := fun b o nb e => by
      rcases hp0_cases (K := K) (T := T) (a := a) (b := b) (o := ob) (xs := ns.map V.int) with ⟨h, _⟩ | ⟨_, _, _, q⟩ | ⟨_, _, q⟩
      · exact (nb h).elim
      · cases e.symm.trans (hok b _ q).1
        exact (hok' b _ (un.frzs b _ _ q)).1
      · exact un.keep b o e q (fun z => nomatch (show b ∈ ([] : List Addr) from z)) fun z => nomatch z
    refine ⟨rfl, ⟨fun b o e => ?_, fun b o e => ?_⟩, os, bare⟩
    · by_cases hb : b ∈ T
      · obtain ⟨more, hm⟩ := grown b hb
        obtain ⟨p, hp, rfl⟩ := List.mem_map.mp hb
        cases e.symm.trans (hT p hp)
        exact .inr (.inl ⟨((C p hp).tab (hT p hp)).isCodeTable, rfl, #[], more, rfl, by rw [Array.empty_append]; exact hm⟩)
      · exact .inl (kept b o hb e)
    · by_cases hb : b ∈ T
      · obtain ⟨more, hm⟩ := grown b hb
        exact ⟨_, hm⟩
      · exact ⟨o, kept b o hb e⟩
/-- the law's def and what it promises, at the heap behind the top -/
structure EndH (l : PySem.W.OpenLaw) (w : World) (K : PySem.W.Frag) (k : Nat) (x : Str) (mg : Str → Option Value) (fa : Addr) (h : Heap) (n : Nat) where
  fd : FuncData
  cs : List (Addr × Addr)
  R : Rel
  tab : ∀ p ∈ cs, h.get? p.2 = some { cls := .none, data := .fields #[] } ∧ K.lookup p.2 = none ∧ PySem.W.CodeHd h p.1 p.2
  bind : ∀ (s : Shared) (u : Value), BindsTo s fd ⟨[u], []⟩ [(x, u)]
  holds : ∀ (H : Hp) (a : Addr) (ns : List Int), ns.length ≤ n → (∀ z ∈ ns, Builtin.Int.intBits z ≤ 1048576) → (∀ p ∈ cs, H p.2 = some (.tbl #[])) → SqL K H a (ns.map V.int) → spD K R [.ref a] H (fun v _ => v = .bl true) fun _ _ _ => False
  ok : ∀ base : Heap, K.In base → base.Ns mainGlobals mg → (∃ mm, base.Ns sysModules mm) → (∀ p ∈ cs, LamX.TabB base mg p.1 p.2) → FnG l.prog w K mg base (L2.CX l.prog w) k fa fd [x] (spD K R)
theorem walk_H {l : PySem.W.OpenLaw} {n k : Nat} {q : Program} {loose : List Str} {XP : (Str → Option Value) → Heap → Prop} {YP : World → Heap → Prop} {d : DefRec} {K : Params → PySem.W.Frag} {x : Str}
    (hn : l.most = some n) (hn2 : n ≤ sizeLine) (hq : importsNone q = true) (hdf : d.params.defaults = []) (hr : Room k callerA) (hY : ∀ (w : World) (h : Heap), YP w h → (K w.params).In h)
    (F : ∀ (w : World) (mg : Str → Option Value) (fa : Addr) (h : Heap), (K w.params).In h → h.Ns mainGlobals mg → mg d.name = some (.ref fa) →
      (∀ (y : Str) (e : DefRec) (c P : Addr), (recsOf q).find? (fun e => e.name == y) = some e → PySem.W.tabIn (K w.params) y = some (c, P) → PySem.W.CodeHd h c P ∧ h.get? P = some (PySem.W.tabObj #[])) → Nonempty (EndH l w (K w.params) k x mg fa h n)) :
    PySem.W.WalkO q loose XP YP l.row.toRowW d [] (fun f vs => PySem.call f vs) := by
  refine Att.attach_callB hn hdf fun w s₀ s₁ mg mb fa o pm cd doc a vs ns G Y ho hd hcd hmg hobj hints hlen hbits hg => ?_
  have inK := hY w _ Y
  obtain ⟨Z⟩ := F w mg fa _ inK G.T.g hmg fun y e c P e1 e2 => PySem.W.tab_of G.T inK e1 e2
  exact law_callH inK G.T.g G.T.b G.T.builtins G.T.nolimit hg (fun p hp => (Z.tab p hp).1) (fun p hp => (Z.tab p hp).2.1) (fun p hp => (Z.tab p hp).2.2) G.T.bmain hobj hints (Nat.le_trans hlen hn2) hr (let ⟨mm, z, _⟩ := (G.T.seer hq).mods; ⟨mm, z⟩) Z.ok Z.bind
    (fun H hH hS => Z.holds H a ns hlen hbits hH hS) fun H e s' h => by obtain ⟨_, _, _, _, _, _, _, _, _, _, _, _, z⟩ := h; exact z
end Dl

set_option Elab.async false
set_option linter.all false
set_option maxRecDepth 100000
set_option maxHeartbeats 4000000
set_option autoImplicit false
namespace K3
open PySem PySem.Spec PyProof.Rows L2 Dl
def top (i : Nat) : Stmt := PySem.Challenge.pw_looseknobs_k03_texts_of_ratios.main.body.getD i (.Pass ⟨0, 0, 0, 0⟩)
abbrev sErr : Stmt := inClass (top 3) 0
abbrev sWhole : Stmt := top 7
abbrev sInit : Stmt := inClass (top 10) 0
abbrev sTxt : Stmt := inClass (top 10) 1
abbrev sOfT : Stmt := inClass (top 10) 2
abbrev sRepr : Stmt := inClass (top 10) 3
abbrev sEq : Stmt := inClass (top 10) 4
abbrev sFigs : Stmt := top 13
abbrev sPot : Stmt := top 15
abbrev sTake : Stmt := top 16
abbrev sOf : Stmt := top 17
abbrev sCells : Stmt := top 18
abbrev sHeard : Stmt := top 19
abbrev sOdd : Stmt := top 20
abbrev sGcd : Stmt := top 21
abbrev sFr : Stmt := top 22
abbrev sRat : Stmt := top 23
abbrev sFrT : Stmt := top 24
abbrev sWh : Stmt := top 25
abbrev sFrac : Stmt := top 26
abbrev sSpo : Stmt := top 27
abbrev sR : Stmt := top 28
abbrev sLaw : Stmt := top 29
theorem scPot : FnScope ["script", "place", "cell", "own", "small"] ["script", "place"] (defScope sPot) := ⟨rfl, rfl, rfl, by decide +kernel, rfl, by decide +kernel, by decide +kernel⟩
theorem scTake : FnScope ["pot", "upto", "digit", "prime", "blend"] ["pot", "upto"] (defScope sTake) := ⟨rfl, rfl, rfl, by decide +kernel, rfl, by decide +kernel, by decide +kernel⟩
theorem scOf : FnScope ["pot", "some"] ["pot", "some"] (defScope sOf) := ⟨rfl, rfl, rfl, by decide +kernel, rfl, by decide +kernel, by decide +kernel⟩
theorem scCells : FnScope ["script", "most"] ["script", "most"] (defScope sCells) := ⟨rfl, rfl, rfl, by decide +kernel, rfl, by decide +kernel, by decide +kernel⟩
/-! ### the pot of digits -/
structure Pot where
  a : Int
  b : Int
  c : Int
def Pot.m (p : Pot) : M := .lst [.int p.a, .int p.b, .int p.c]
structure Pot.ok (n : Nat) (p : Pot) : Prop where
  b0 : 0 ≤ p.b
  b1 : p.b < 2 ^ 62
  c0 : 0 ≤ p.c
  c1 : p.c ≤ n
def absF (c : Int) : Int := if c < 0 then -c else c
def cellF (ns : List Int) (i : Nat) : Int := if i < ns.length then ns.getD i 0 else 77 * (i : Int) + 46
def potF (ns : List Int) (i : Nat) : Pot :=
  ⟨absF (cellF ns i) % ((10 ^ 60) ^ 5) * (if decide ((10 : Int) ^ 18 ≤ absF (cellF ns i)) then 1 else 0), (cellF ns i % 2305843009213693951 * 73380 + 7133 * (i : Int) * (i : Int) + 204) % 2305843009213693921, 0⟩
theorem potF_ok (ns : List Int) (i : Nat) : (potF ns i).ok 0 :=
  ⟨Int.emod_nonneg _ (by decide), Int.lt_trans (Int.emod_lt_of_pos _ (by decide)) (by decide), Int.le_refl _, Int.le_refl _⟩
def primeF (c : Int) : Int := ([2147483647, 2147483629, 2147483587, 2147483579, 2147483563] : List Int).getD (c % 5).toNat 0
def blendF (b c : Int) : Int := (b + 100711 * c * c + 40) ^ 3 % primeF c
def takeF (p : Pot) (u : Int) : Int × Pot :=
  if 0 < p.a then (p.a % u, ⟨p.a / u, p.b, p.c⟩) else (blendF p.b (p.c + 1) * (blendF p.b (p.c + 1) % 10073 + 94 * (p.c + 1)) / 149 % u, ⟨p.a, p.b, p.c + 1⟩)
theorem takeF_ok {n : Nat} {p : Pot} {u : Int} (h : p.ok n) : (takeF p u).2.ok (n + 1) := by
  obtain ⟨h1, h2, h3, h4⟩ := h
  unfold takeF
  split
  · exact ⟨h1, h2, h3, by show p.c ≤ _; omega⟩
  · exact ⟨h1, h2, by show 0 ≤ p.c + 1; omega, by show p.c + 1 ≤ _; omega⟩
theorem takeF_lt {p : Pot} {u : Int} (h : 0 < u) : 0 ≤ (takeF p u).1 ∧ (takeF p u).1 < u := by
  unfold takeF
  split
  · exact ⟨Int.emod_nonneg _ (by omega), Int.emod_lt_of_pos _ h⟩
  · exact ⟨Int.emod_nonneg _ (by omega), Int.emod_lt_of_pos _ h⟩
theorem prime_in (c : Int) : ∃ k : Nat, c % 5 = (k : Int) ∧ k < 5 := by
  have h1 := Int.emod_nonneg c (show (5 : Int) ≠ 0 by decide)
  have h2 := Int.emod_lt_of_pos c (show (0 : Int) < 5 by decide)
  exact ⟨(c % 5).toNat, by omega, by omega⟩
theorem prime_at (c : Int) : atI [D.int 2147483647, .int 2147483629, .int 2147483587, .int 2147483579, .int 2147483563] (c % 5) = some (.int (primeF c)) := by
  obtain ⟨k, h1, h2⟩ := prime_in c
  unfold primeF
  rw [h1]
  match k, h2 with
  | 0, _ => rfl
  | 1, _ => rfl
  | 2, _ => rfl
  | 3, _ => rfl
  | 4, _ => rfl
theorem prime_pos (c : Int) : 0 < primeF c ∧ primeF c < 2 ^ 31 := by
  obtain ⟨k, h1, h2⟩ := prime_in c
  unfold primeF
  rw [h1]
  match k, h2 with
  | 0, _ => decide
  | 1, _ => decide
  | 2, _ => decide
  | 3, _ => decide
  | 4, _ => decide
theorem blend_pos (b c : Int) : 0 ≤ blendF b c ∧ blendF b c < 2 ^ 31 := by
  have h := prime_pos c
  exact ⟨Int.emod_nonneg _ (by omega), Int.lt_trans (Int.emod_lt_of_pos _ h.1) h.2⟩
def rPot : Rel := fun ss μ r μ' => ∃ (ns : List Int) (i : Nat), i ≤ 100 ∧ ss = [.p (.sc ns), .p (.int (i : Int))] ∧ r = .v (.l μ.length) ∧ μ' = μ ++ [(potF ns i).m]
def rTake : Rel := fun ss μ r μ' => ∃ (j : Nat) (p : Pot) (u : Int), p.ok 900 ∧ 0 < u ∧ u < 2000 ∧ ss = [.l j, .p (.int u)] ∧ μ[j]? = some p.m ∧ r = .v (.p (.int (takeF p u).1)) ∧ μ' = μ.set j (takeF p u).2.m
structure TL (mg : Str → Option Value) : Prop where
  len : mg "len" = none
  int : mg "int" = none
  abs : mg "abs" = none
  max : mg "max" = none
  min : mg "min" = none
  range : mg "range" = none
  list : mg "list" = none
  all : mg "all" = none
section
variable {P : Program} {w : World} {K : PySem.W.Frag} {mg : Str → Option Value} {base : Heap} {f C : Addr} {fd : FuncData}
theorem pw60 : 0 < (10 : Int) ^ (60 : Int).toNat := by decide +kernel
theorem cell_at {ns : List Int} {i : Nat} (h : i < ns.length) : ns[i]? = some (cellF ns i) := by
  unfold cellF
  rw [if_pos h, List.getD, List.getElem?_eq_getElem h]
  rfl
theorem ite01 (q : Bool) : -(2 ^ 64) < (if q then (1 : Int) else 0) ∧ (if q then (1 : Int) else 0) < 2 ^ 64 := by cases q <;> decide
theorem ok_pot (F : Fun K "_law_pot" "_law_pot" sPot f fd) (T : TL mg) : FnOk P w K mg base (L2.CX P w) 1 f fd ["script", "place"] (spD K rPot) := by
  refine fn_D (k := 0) F scPot (fun ss μ r μ' h => by obtain ⟨ns, i, _, rfl, _⟩ := h; rfl) ?_
  intro cdv A0 outer s0 H E N W ss μ r μ' g hA hR
  obtain ⟨ns, i, hi, rfl, rfl, rfl⟩ := hR
  refine ⟨_, dss_cons (ds_set 2 (de_if (r := .v (.p (.int (cellF ns i)))) (k := decide ((i : Int) < (ns.length : Int))) (dt_cmp (de_var 1) (de_callB (id := "len") (da_cons (de_var 0) da_nil) (c_lenSc g) T.len (by decide +kernel)) o_lt)
      (fun h => de_ix (de_var 0) (de_var 1) (i_sc g (cell_at (by have := of_decide_eq_true h; omega)))) (fun h => de_of (de_bin (de_bin de_int (de_var 1) (o_mul (.inl (by decide)))) de_int o_add) (congrArg D.int ?_))) g.nd) (cn
    (dss_cons (ds_set 3 (de_of (de_bin (de_bin (de_callT (T := "int") (da_cons (de_callB (id := "abs") (da_cons (de_var 2) da_nil) c_abs T.abs (by decide +kernel)) da_nil) c_int T.int (by decide +kernel)) (de_bin (de_bin de_int de_int (o_pow ?_)) de_int (o_pow ?_)) (o_mod ?_))
      (de_callT (T := "int") (da_cons (de_cmp (de_callB (id := "abs") (da_cons (de_var 2) da_nil) c_abs T.abs (by decide +kernel)) (de_bin de_int de_int (o_pow ?_)) o_ge) da_nil) c_intB T.int (by decide +kernel)) (o_mul (.inr ?_))) (congrArg D.int (show _ = (potF ns i).a from rfl))) g.nd) (cn
    (dss_cons (ds_set 4 (de_bin (de_callT (T := "int") (da_cons (de_var 2) da_nil) c_int T.int (by decide +kernel)) de_int (o_mod (by decide))) g.nd) (cn
    (dss_ret (de_lstM (dp_cons (de_var 3) (dp_cons (de_of (de_bin (de_callT (T := "int") (da_cons (de_bin (de_bin (de_bin (de_var 4) de_int (o_mul (.inr (by decide)))) (de_bin (de_bin de_int (de_var 1) (o_mul (.inl (by decide)))) (de_var 1) (o_mul (.inr (by omega)))) o_add) de_int o_add) da_nil) c_int T.int (by decide +kernel)) de_int (o_mod (by decide))) (congrArg D.int (show _ = (potF ns i).b from rfl))) (dp_cons (de_of de_int (congrArg D.int (show _ = (potF ns i).c from rfl))) dp_nil)))))))))), .rt⟩
  · unfold cellF
    rw [if_neg (fun z => of_decide_eq_false h (by omega))]
  · exact ⟨by decide, by decide +kernel⟩
  · exact ⟨by decide, by decide +kernel⟩
  · decide +kernel
  · exact ⟨by decide, by decide +kernel⟩
  · exact ite01 _
theorem set_at {μ : List M} {j : Nat} {m x : M} (h : μ[j]? = some m) : (μ.set j x)[j]? = some x := List.getElem?_set_self (List.getElem?_eq_some_iff.mp h).1
theorem ok_take (F : Fun K "_law_take" "_law_take" sTake f fd) (T : TL mg) : FnOk P w K mg base (L2.CX P w) 1 f fd ["pot", "upto"] (spD K rTake) := by
  refine fn_D (k := 0) F scTake (fun ss μ r μ' h => by obtain ⟨j, p, u, _, _, _, rfl, _⟩ := h; rfl) ?_
  intro cdv A0 outer s0 H E N W ss μ r μ' g hA hR
  obtain ⟨j, p, u, hp, hu, hu2, rfl, hj, rfl, rfl⟩ := hR
  obtain ⟨b0, b1, c0, c1⟩ := hp
  by_cases ha : 0 < p.a
  · have e : takeF p u = (p.a % u, ⟨p.a / u, p.b, p.c⟩) := if_pos ha
    rw [e]
    exact ⟨_, dss_ifT (dt_of (dt_cmp (de_ix (de_var 0) de_int (i_lstM (i := 0) hj rfl)) de_int o_gt) (decide_eq_true ha))
      (dss_cons (ds_set 2 (de_bin (de_callT (T := "int") (da_cons (de_ix (de_var 0) de_int (i_lstM (i := 0) hj rfl)) da_nil) c_int T.int (by decide +kernel)) (de_var 1) (o_mod hu)) g.nd) (cn
      (dss_cons (ds_setM (de_bin (de_ix (de_var 0) de_int (i_lstM (i := 0) hj rfl)) (de_var 1) (o_div ⟨hu, by omega⟩)) (de_var 0) de_int hj rfl) (cn
      (dss_ret (de_var 2)))))) cr, .rt⟩
  · have e : takeF p u = (blendF p.b (p.c + 1) * (blendF p.b (p.c + 1) % 10073 + 94 * (p.c + 1)) / 149 % u, ⟨p.a, p.b, p.c + 1⟩) := if_neg ha
    rw [e]
    have hc : (0 : Int) ≤ p.c + 1 ∧ p.c + 1 ≤ 901 := by omega
    have hb := blend_pos p.b (p.c + 1)
    have hm : 100711 * (p.c + 1) * (p.c + 1) ≤ 100711 * 901 * 901 := Int.mul_le_mul (by omega) hc.2 hc.1 (by decide)
    have hm0 : 0 ≤ 100711 * (p.c + 1) * (p.c + 1) := Int.mul_nonneg (by omega) hc.1
    refine ⟨_, dss_skip (dt_of (dt_cmp (de_ix (de_var 0) de_int (i_lstM (i := 0) hj rfl)) de_int o_gt) (decide_eq_false ha))
      (dss_cons (ds_setM (de_bin (de_ix (de_var 0) de_int (i_lstM (i := 2) hj rfl)) de_int o_add) (de_var 0) de_int hj rfl) (cn
      (dss_cons (ds_set 3 (de_ix (de_lst (dp_cons de_int (dp_cons de_int (dp_cons de_int (dp_cons de_int (dp_cons de_int dp_nil)))))) (de_bin (de_callT (T := "int") (da_cons (de_ix (de_var 0) de_int (i_lstM (i := 2) (set_at hj) rfl)) da_nil) c_int T.int (by decide +kernel)) de_int (o_mod (by decide))) (i_lst g (prime_at _))) g.nd) (cn
      (dss_cons (ds_set 4 (de_of (de_bin (de_callT (T := "int") (da_cons (de_bin (de_callT (T := "int") (da_cons (de_bin (de_bin (de_ix (de_var 0) de_int (i_lstM (i := 1) (set_at hj) rfl)) (de_bin (de_bin de_int (de_ix (de_var 0) de_int (i_lstM (i := 2) (set_at hj) rfl)) (o_mul (.inl (by decide)))) (de_ix (de_var 0) de_int (i_lstM (i := 2) (set_at hj) rfl)) (o_mul (.inr (by omega)))) o_add) de_int o_add) da_nil) c_int T.int (by decide +kernel)) de_int (o_pow ?_)) da_nil) c_int T.int (by decide +kernel)) (de_var 3) (o_mod (prime_pos _).1)) (congrArg D.int (show _ = blendF p.b (p.c + 1) from rfl))) g.nd) (cn
      (dss_ret (de_bin (de_callT (T := "int") (da_cons (de_bin (de_bin (de_var 4) (de_bin (de_bin (de_callT (T := "int") (da_cons (de_var 4) da_nil) c_int T.int (by decide +kernel)) de_int (o_mod (by decide))) (de_bin de_int (de_ix (de_var 0) de_int (i_lstM (i := 2) (set_at hj) rfl)) (o_mul (.inl (by decide)))) o_add) (o_mul (.inl (by omega)))) de_int (o_div ⟨by decide, by decide⟩)) da_nil) c_int T.int (by decide +kernel)) (de_var 1) (o_mod hu))))))))), .rt⟩
    refine ⟨by decide, ?_⟩
    have hx := intBits_le_64 (k := p.b + 100711 * (p.c + 1) * (p.c + 1) + 40) (by omega) (by omega)
    show ((Builtin.Int.intBits (p.b + 100711 * (p.c + 1) * (p.c + 1) + 40) : Nat) : Int) * 3 ≤ _
    omega
end
def rOf : Rel := fun ss μ r μ' => ∃ (j : Nat) (p : Pot), p.ok 900 ∧ μ[j]? = some p.m ∧
  ((∃ (ds : List D) (d : D), ds ≠ [] ∧ ds.length < 100 ∧ atI ds (takeF p ds.length).1 = some d ∧ ss = [.l j, .p (.lst ds)] ∧ r = .v (.p d) ∧ μ' = μ.set j (takeF p ds.length).2.m) ∨
   (∃ (L : List Nat) (c : Nat), L ≠ [] ∧ L.length < 100 ∧ atI L (takeF p L.length).1 = some c ∧ ss = [.l j, .p (.str (st L))] ∧ r = .v (.p (.str ⟨#[c]⟩)) ∧ μ' = μ.set j (takeF p L.length).2.m))
def cellsN (ns : List Int) : Nat := max 1 (min 6 ns.length)
def rCells : Rel := fun ss μ r μ' => ∃ (ns : List Int), ss = [.p (.sc ns), .p (.int 6)] ∧ r = .v (.p (.lst (rangeD 0 (cellsN ns)))) ∧ μ' = μ
theorem Pot.ok.mono {n m : Nat} {p : Pot} (h : p.ok n) (q : n ≤ m) : p.ok m := ⟨h.b0, h.b1, h.c0, by have := h.c1; omega⟩
theorem set_self {μ : List M} {j : Nat} {m : M} (h : μ[j]? = some m) : μ.set j m = μ := by
  obtain ⟨h1, h2⟩ := List.getElem?_eq_some_iff.mp h
  subst h2
  exact List.set_getElem_self h1
/-! ### a comprehension that goes on -/
section
variable {X : Cx} {N : En} {δ : List (Option S)} {elt : Expr} {scope : Scope} {f : As} {nn : Nat} {K : PySem.W.Frag}
def outs {T : Type} (y : T → D) (nx : T → T) : Nat → T → List D
  | 0, _ => []
  | n + 1, t => y t :: outs y nx n (nx t)
def iter {T : Type} (nx : T → T) : Nat → T → T
  | 0, t => t
  | n + 1, t => iter nx n (nx t)
theorem of_state {T α : Type} {gd : α → D} {y : T → D} {nx : T → T} {mu : T → List M} (I : Nat → T → Prop)
    (h : ∀ n t a, I (n + 1) t → I n (nx t) ∧ ∃ δt, f (gd a) δ = some δt ∧ DEB X K nn scope elt δt (mu t) (y t) (mu (nx t))) :
    ∀ (k : Nat) (l : List α) (t : T), l.length = k → I k t → CmpL (El0 X K nn scope elt) f δ (l.map gd) (mu t) (outs y nx k t) (mu (iter nx k t))
  | _, [], t, rfl, _ => .nil
  | _, a :: l, t, rfl, hi => by
    obtain ⟨h1, δt, h2, h3⟩ := h l.length t a hi
    exact .keep h2 ⟨_, rfl, h3⟩ (of_state I h l.length l (nx t) rfl h1)
end
section
variable {P : Program} {w : World} {K : PySem.W.Frag} {mg : Str → Option Value} {base : Heap} {f C : Addr} {fd : FuncData}
theorem ok_of (F : Fun K "_law_of" "_law_of" sOf f fd) (T : TL mg) (ct : Cf P w K mg base 1 "_law_take" [] rTake) : FnOk P w K mg base (L2.CX P w) 2 f fd ["pot", "some"] (spD K rOf) := by
  refine fn_D (k := 1) F scOf (fun ss μ r μ' h => by obtain ⟨j, p, _, _, (⟨ds, d, _, _, _, rfl, _⟩ | ⟨L, c, _, _, _, rfl, _⟩)⟩ := h <;> rfl) ?_
  intro cdv A0 outer s0 H E N W ss μ r μ' g hA hR
  obtain ⟨j, p, hp, hj, (⟨ds, d, h0, h1, hd, rfl, rfl, rfl⟩ | ⟨L, c, h0, h1, hd, rfl, rfl, rfl⟩)⟩ := hR
  · have h2 := List.length_pos_iff.mpr h0
    exact ⟨_, dss_ret (de_ix (de_var 1) (de_call g ct (da_cons (de_var 0) (da_cons (de_callB (id := "len") (da_cons (de_var 1) da_nil) (c_lenL g) T.len (by decide +kernel)) da_nil)) ⟨j, p, ds.length, hp, by omega, by omega, rfl, hj, rfl, rfl⟩) (i_lst g hd)), .rt⟩
  · have h2 := List.length_pos_iff.mpr h0
    exact ⟨_, dss_ret (de_ix (de_var 1) (de_call g ct (da_cons (de_var 0) (da_cons (de_of (de_callB (id := "len") (da_cons (de_var 1) da_nil) (c_lenS (by rw [st_len]; exact size4 (by omega))) T.len (by decide +kernel)) (by rw [st_len])) da_nil)) ⟨j, p, L.length, hp, by omega, by omega, rfl, hj, rfl, rfl⟩) (i_str (by rw [st_len]; exact size4 (by omega)) hd)), .rt⟩
theorem ok_cells (F : Fun K "_law_cells" "_law_cells" sCells f fd) (T : TL mg) : FnOk P w K mg base (L2.CX P w) 1 f fd ["script", "most"] (spD K rCells) := by
  refine fn_D (k := 0) F scCells (fun ss μ r μ' h => by obtain ⟨ns, rfl, _⟩ := h; rfl) ?_
  intro cdv A0 outer s0 H E N W ss μ r μ' g hA hR
  obtain ⟨ns, rfl, rfl, rfl⟩ := hR
  refine ⟨_, dss_ret (de_of (de_listRg g (de_callB (id := "max") (da_cons de_int (da_cons (de_callB (id := "min") (da_cons (de_var 1) (da_cons (de_callB (id := "len") (da_cons (de_var 0) da_nil) (c_lenSc g) T.len (by decide +kernel)) da_nil)) (c_min2 g) T.min (by decide +kernel)) da_nil)) (c_max2 g) T.max (by decide +kernel)) T.list T.range ?_) ?_), .rt⟩
  · split <;> split at * <;> omega
  · congr 2
    unfold cellsN
    split <;> split at * <;> omega
end
theorem atI_range {α : Type} {xs : List α} {i : Int} (h0 : 0 ≤ i) (h1 : i < xs.length) (d : α) : atI xs i = some (xs.getD i.toNat d) := by
  obtain ⟨k, rfl⟩ : ∃ k : Nat, i = (k : Int) := ⟨i.toNat, by omega⟩
  refine atI_nat ?_
  have hk : k < xs.length := by omega
  rw [List.getElem?_eq_getElem hk, List.getD, Int.toNat_natCast, List.getElem?_eq_getElem hk]
  rfl
end K3

set_option Elab.async false
set_option linter.all false
set_option maxRecDepth 100000
set_option maxHeartbeats 4000000
set_option autoImplicit false
namespace K3
open PySem PySem.Spec PyProof.Rows L2 Dl
/-! ### fractions in whole numbers -/
def gc (n u : Int) : Int := ((Nat.gcd n.natAbs u.natAbs : Nat) : Int)
def sg (n u : Int) : Int := if u < 0 then -(gc n u) else gc n u
def nn (n u : Int) : Int := n.fdiv (sg n u)
def nu (n u : Int) : Int := u.fdiv (sg n u)
def rF : List Str := ["number", "under"]
abbrev rt (C : Addr) (n u : Int) : D := .ins C rF [.int n, .int u]
def Bd (k : Nat) (x : Int) : Prop := x.natAbs < 2 ^ k
theorem gc_pos {n u : Int} (h : u ≠ 0) : 0 < gc n u := by
  have := Nat.gcd_pos_of_pos_right n.natAbs (Int.natAbs_pos.mpr h)
  unfold gc
  omega
theorem gc_le {n u : Int} (h : u ≠ 0) : (gc n u).natAbs ≤ u.natAbs := by
  have := Nat.gcd_le_right n.natAbs (Int.natAbs_pos.mpr h)
  unfold gc
  omega
theorem sg_ne {n u : Int} (h : u ≠ 0) : sg n u ≠ 0 := by
  have := gc_pos (n := n) h
  unfold sg
  split <;> omega
theorem sg_abs (n u : Int) : (sg n u).natAbs = (gc n u).natAbs := by
  unfold sg
  split
  · exact Int.natAbs_neg _
  · rfl
theorem sg_div {n u : Int} {k : Nat} (h : u ≠ 0) (hb : Bd k u) (h0 : 0 < k) (h9 : k ≤ 9000) : CDivZ n (sg n u) := by
  refine ⟨sg_ne h, ?_⟩
  rw [sg_abs]
  exact Nat.lt_of_lt_of_le (PySem.Flt.log2_lt_of h0 (Nat.lt_of_le_of_lt (gc_le h) hb)) h9
theorem mulW {i j : Int} {a b : Nat} (ha : Bd a i) (hb : Bd b j) (h0 : 0 < a := by decide) (h1 : 0 < b := by decide) (h : a + b ≤ 1000000 := by decide) : CMulW i j := wide_mul ha hb h0 h1 h
theorem bd_mul {i j : Int} {a b : Nat} (ha : Bd a i) (hb : Bd b j) : Bd (a + b) (i * j) := wide_lt ha hb
theorem Bd.mono {i : Int} {a b : Nat} (h : Bd a i) (q : a ≤ b) : Bd b i := Nat.lt_of_lt_of_le h (Nat.pow_le_pow_right (by decide) q)
theorem bd_add {i j : Int} {a : Nat} (ha : Bd a i) (hb : Bd a j) : Bd (a + 1) (i + j) := by
  unfold Bd at *
  rw [Nat.pow_succ]
  have := Int.natAbs_add_le i j
  omega
theorem bd_sub {i j : Int} {a : Nat} (ha : Bd a i) (hb : Bd a j) : Bd (a + 1) (i - j) := by
  unfold Bd at *
  rw [Nat.pow_succ]
  have := Int.natAbs_sub_le i j
  omega
theorem bd_neg {i : Int} {a : Nat} (ha : Bd a i) : Bd a (-i) := by unfold Bd at *; rw [Int.natAbs_neg]; exact ha
/-! ### in least terms -/
structure Low (a b : Int) : Prop where
  pos : 0 < b
  one : Nat.gcd a.natAbs b.natAbs = 1
theorem Low.ne {a b : Int} (h : Low a b) : b ≠ 0 := by have := h.pos; omega
theorem Low.nn {a b : Int} (h : Low a b) : nn a b = a := by
  have e : sg a b = 1 := by
    unfold sg gc
    have := h.pos
    rw [if_neg (by omega), h.one]
    rfl
  unfold K3.nn
  rw [e]
  exact Int.fdiv_one a
theorem Low.nu {a b : Int} (h : Low a b) : nu a b = b := by
  have e : sg a b = 1 := by
    unfold sg gc
    have := h.pos
    rw [if_neg (by omega), h.one]
    rfl
  unfold K3.nu
  rw [e]
  exact Int.fdiv_one b
theorem sg_dvd (n u : Int) : sg n u ∣ n ∧ sg n u ∣ u := by
  have h1 : gc n u ∣ n := Int.ofNat_dvd_left.mpr (Nat.gcd_dvd_left ..)
  have h2 : gc n u ∣ u := Int.ofNat_dvd_left.mpr (Nat.gcd_dvd_right ..)
  unfold sg
  split
  · exact ⟨Int.neg_dvd.mpr h1, Int.neg_dvd.mpr h2⟩
  · exact ⟨h1, h2⟩
theorem nn_eq {n u : Int} (h : u ≠ 0) : n = sg n u * nn n u := by
  obtain ⟨k, hk⟩ := (sg_dvd n u).1
  have e : nn n u = k := by
    unfold nn
    generalize hs : sg n u = s at *
    rw [hk]
    exact Int.mul_fdiv_cancel_left k (by rw [← hs]; exact sg_ne h)
  rw [e]
  exact hk
theorem nu_eq {n u : Int} (h : u ≠ 0) : u = sg n u * nu n u := by
  obtain ⟨k, hk⟩ := (sg_dvd n u).2
  have e : nu n u = k := by
    unfold nu
    have hne := sg_ne (n := n) h
    generalize hs : sg n u = s at *
    rw [hk]
    exact Int.mul_fdiv_cancel_left k hne
  rw [e]
  exact hk
theorem nn_of {n u k : Int} (h : u ≠ 0) (e : n = sg n u * k) : nn n u = k := by
  have := nn_eq (n := n) h
  exact Int.eq_of_mul_eq_mul_left (sg_ne h) (this.symm.trans e)
theorem nu_of {n u k : Int} (h : u ≠ 0) (e : u = sg n u * k) : nu n u = k := by
  have := nu_eq (n := n) h
  exact Int.eq_of_mul_eq_mul_left (sg_ne h) (this.symm.trans e)
theorem low_of {n u : Int} (h : u ≠ 0) : Low (nn n u) (nu n u) := by
  have h1 := nn_eq (n := n) h
  have h2 := nu_eq (n := n) h
  have hg := gc_pos (n := n) h
  refine ⟨?_, ?_⟩
  · rcases Int.lt_trichotomy (nu n u) 0 with q | q | q
    · exfalso
      by_cases hs : u < 0
      · have e : sg n u = -(gc n u) := if_pos hs
        rw [e] at h2
        have := Int.mul_pos_of_neg_of_neg (show -(gc n u) < 0 by omega) q
        omega
      · have e : sg n u = gc n u := if_neg hs
        rw [e] at h2
        have := Int.mul_neg_of_pos_of_neg hg q
        omega
    · rw [q, Int.mul_zero] at h2
      exact absurd h2 h
    · exact q
  · have a1 : n.natAbs = (gc n u).natAbs * (nn n u).natAbs := by
      have := congrArg Int.natAbs h1
      rwa [Int.natAbs_mul, sg_abs] at this
    have a2 : u.natAbs = (gc n u).natAbs * (nu n u).natAbs := by
      have := congrArg Int.natAbs h2
      rwa [Int.natAbs_mul, sg_abs] at this
    have a3 : (gc n u).natAbs = Nat.gcd n.natAbs u.natAbs := Int.natAbs_natCast _
    have a4 : Nat.gcd n.natAbs u.natAbs = (gc n u).natAbs * Nat.gcd (nn n u).natAbs (nu n u).natAbs := by
      rw [← Nat.gcd_mul_left, ← a1, ← a2]
    rw [← a3] at a4
    have a5 : 0 < (gc n u).natAbs := by omega
    have a6 : (gc n u).natAbs * 1 = (gc n u).natAbs * Nat.gcd (nn n u).natAbs (nu n u).natAbs := by rw [Nat.mul_one]; exact a4
    exact (Nat.eq_of_mul_eq_mul_left a5 a6).symm
theorem nn_bd {n u : Int} {k : Nat} (h : u ≠ 0) (b : Bd k n) : Bd k (nn n u) := by
  have h1 := congrArg Int.natAbs (nn_eq (n := n) h)
  rw [Int.natAbs_mul] at h1
  have h2 : 0 < (sg n u).natAbs := Int.natAbs_pos.mpr (sg_ne h)
  have h3 := Nat.le_mul_of_pos_left (nn n u).natAbs h2
  unfold Bd at *
  omega
theorem nu_bd {n u : Int} {k : Nat} (h : u ≠ 0) (b : Bd k u) : Bd k (nu n u) := by
  have h1 := congrArg Int.natAbs (nu_eq (n := n) h)
  rw [Int.natAbs_mul] at h1
  have h2 : 0 < (sg n u).natAbs := Int.natAbs_pos.mpr (sg_ne h)
  have h3 := Nat.le_mul_of_pos_left (nu n u).natAbs h2
  unfold Bd at *
  omega
theorem sg_scale {n u k : Int} (hk : 0 < k) : sg (k * n) (k * u) = k * sg n u := by
  have e : gc (k * n) (k * u) = k * gc n u := by
    unfold gc
    rw [Int.natAbs_mul, Int.natAbs_mul, Nat.gcd_mul_left]
    have : ((k.natAbs : Nat) : Int) = k := by omega
    rw [Int.natCast_mul, this]
  unfold sg
  rw [e]
  by_cases hu : u < 0
  · rw [if_pos hu, if_pos (Int.mul_neg_of_pos_of_neg hk hu), Int.mul_neg]
  · have : ¬ k * u < 0 := by
      have := Int.mul_nonneg (show 0 ≤ k by omega) (show 0 ≤ u by omega)
      omega
    rw [if_neg hu, if_neg this]
theorem nn_scale {n u k : Int} (hk : 0 < k) (h : u ≠ 0) : nn (k * n) (k * u) = nn n u := by
  refine nn_of (Int.mul_ne_zero (by omega) h) ?_
  rw [sg_scale hk, Int.mul_assoc, ← nn_eq h]
theorem nu_scale {n u k : Int} (hk : 0 < k) (h : u ≠ 0) : nu (k * n) (k * u) = nu n u := by
  refine nu_of (Int.mul_ne_zero (by omega) h) ?_
  rw [sg_scale hk, Int.mul_assoc, ← nu_eq h]
theorem sg_neg (n u : Int) : sg (-n) u = sg n u := by
  unfold sg gc
  rw [Int.natAbs_neg]
theorem nn_neg {n u : Int} (h : u ≠ 0) : nn (-n) u = -(nn n u) := by
  refine nn_of h ?_
  rw [sg_neg, Int.mul_neg, ← nn_eq h]
theorem nu_neg {n u : Int} : nu (-n) u = nu n u := by
  unfold nu
  rw [sg_neg]
theorem Low.neg {a b : Int} (h : Low a b) : Low (-a) b := ⟨h.pos, by rw [Int.natAbs_neg]; exact h.one⟩
theorem ne_self (x : Str) : (!decide (x = x)) = false := by simp
theorem bd_log {a : Int} (h : Bd 1919 a) : a.natAbs.log2 < 1920 := Nat.lt_of_lt_of_le (PySem.Flt.log2_lt_of (by decide) h) (by decide)
theorem two_text (x y : Str) (hx : x.length ≤ 1921) (hy : y.length ≤ 1921) : (tupleText [x, y]).length ≤ sizeLine := by
  have h := join_length_add [x, y] (by simp)
  rw [piled_cons, piled_cons, piled_nil] at h
  unfold tupleText
  rw [strLen_append, strLen_append]
  have e1 : (("(" : String) : Str).length = 1 := rfl
  have e2 : (((if [x, y].length == 1 then ",)" else ")") : String) : Str).length = 1 := rfl
  rw [e1, e2, sizeLine_eq]
  omega
end K3

set_option Elab.async false
set_option linter.all false
set_option maxRecDepth 100000
set_option maxHeartbeats 4000000
set_option autoImplicit false
namespace K3
open PySem PySem.Spec PyProof.Rows L2 Dl PySem.NumText
/-! ### figures -/
def FIG : List Nat := [48, 49, 50, 51, 52, 53, 54, 55, 56, 57]
theorem mem_fig {c : Nat} : c ∈ FIG ↔ 48 ≤ c ∧ c ≤ 57 := by
  unfold FIG
  simp only [List.mem_cons, List.not_mem_nil, or_false]
  omega
def okW (w : List Nat) : Bool := !decide (w = []) && w.all fun c => decide (c ∈ FIG)
def canon (w : List Nat) : Bool := okW w && (decide (w = [48]) || !decide (w.head? = some 48))
def val (w : List Nat) : Int := ((digitsVal w : Nat) : Int)
theorem okW_iff {w : List Nat} : okW w = true ↔ w ≠ [] ∧ AllDigits w := by
  unfold okW AllDigits
  simp only [Bool.and_eq_true, Bool.not_eq_true', decide_eq_false_iff_not, List.all_eq_true, decide_eq_true_eq]
  exact and_congr Iff.rfl (forall_congr' fun c => forall_congr' fun _ => mem_fig)
theorem val_nn (w : List Nat) : 0 ≤ val w := Int.natCast_nonneg _
/-- the signs of an int's text -/
def decI (i : Int) : List Nat := (Str.ofString (toString i)).cps.toList
theorem decI_nat (m : Nat) : decI (m : Int) = (Nat.toDigits 10 m).map Char.toNat := PySem.W.KIN.signs_num m
theorem decI_neg (m : Nat) (h : 0 < m) : decI (-(m : Int)) = 45 :: decI (m : Int) := by
  rw [decI_nat]
  obtain ⟨k, rfl⟩ : ∃ k, m = k + 1 := ⟨m - 1, by omega⟩
  have e : -((k + 1 : Nat) : Int) = Int.negSucc k := by omega
  rw [e]
  unfold decI
  rw [signs_ofString]
  show (("-" ++ Nat.repr (k + 1)) : String).toList.map Char.toNat = _
  rw [String.toList_append, List.map_append, Nat.toList_repr]
  rfl
theorem toNat_ofNat_fig {w : List Nat} (h : AllDigits w) : (w.map Char.ofNat).map Char.toNat = w := by
  rw [List.map_map]
  have : ∀ c ∈ w, (Char.toNat ∘ Char.ofNat) c = id c := fun c hc => by
    have h1 := h c hc
    have h2 : ∀ k : Nat, k < 10 → (Char.ofNat (48 + k)).toNat = 48 + k := by decide
    have := h2 (c - 48) (by omega)
    rw [show 48 + (c - 48) = c by omega] at this
    exact this
  rw [List.map_congr_left this, List.map_id]
theorem decI_val {w : List Nat} (h : okW w = true) : decI (val w) = match w.dropWhile (· == 48) with
    | [] => [48]
    | c :: r => c :: r := by
  obtain ⟨h0, h1⟩ := okW_iff.mp h
  unfold val
  rw [decI_nat, toDigits_all w h1]
  have hd : AllDigits (w.dropWhile (· == 48)) := fun c hc => h1 c (List.dropWhile_subset _ hc)
  generalize w.dropWhile (· == 48) = l at hd
  cases l with
  | nil => rfl
  | cons c r => exact toNat_ofNat_fig hd
theorem back {w : List Nat} (h : okW w = true) : (decI (val w) = w) ↔ canon w = true := by
  rw [decI_val h]
  obtain ⟨h0, h1⟩ := okW_iff.mp h
  unfold canon
  rw [h, Bool.true_and]
  cases w with
  | nil => exact absurd rfl h0
  | cons c r =>
    by_cases hc : c = 48
    · subst hc
      rw [List.dropWhile_cons, if_pos (by decide)]
      have hle : (r.dropWhile (· == 48)).length ≤ r.length := (List.dropWhile_sublist _).length_le
      simp only [List.head?_cons, decide_true, Bool.not_true, Bool.or_false, decide_eq_true_eq]
      constructor
      · intro e
        generalize hl : r.dropWhile (· == 48) = l at e hle
        cases l with
        | nil => exact e.symm
        | cons d q =>
          exfalso
          have e' : d :: q = 48 :: r := e
          rw [e'] at hle
          simp at hle
          omega
      · intro e
        injection e with _ e
        subst e
        rfl
    · rw [List.dropWhile_cons, if_neg (by simpa using hc)]
      simp [hc]
theorem decI_ok (m : Nat) : okW (decI (m : Int)) = true ∧ val (decI (m : Int)) = (m : Int) ∧ canon (decI (m : Int)) = true := by
  have h1 : okW (decI (m : Int)) = true := by
    rw [decI_nat, okW_iff]
    refine ⟨fun e => ?_, fun c hc => ?_⟩
    · have := toDigits_len_ge 10 m
      rw [List.map_eq_nil_iff.mp e] at this
      exact absurd this (by decide)
    · obtain ⟨ch, hch, e⟩ := List.mem_map.mp hc
      rw [← e]
      exact digit_range (Nat.isDigit_of_mem_toDigits (by decide) (by decide) hch)
  have h2 : val (decI (m : Int)) = (m : Int) := by
    unfold val
    rw [decI_nat, PySem.W.KIN.val_back]
  refine ⟨h1, h2, ?_⟩
  refine (back h1).mp ?_
  rw [h2]
theorem okW_no {w : List Nat} {c : Nat} (h : okW w = true) (hc : c ∉ FIG) : c ∉ w := fun hm => hc (mem_fig.mpr ((okW_iff.mp h).2 c hm))
theorem canon_ok {w : List Nat} (h : canon w = true) : okW w = true := by
  unfold canon at h
  exact (Bool.and_eq_true_iff.mp h).1
/-! ### a sign ahead -/
def neg (w : List Nat) : Bool := decide (w.head? = some 45)
def strip (w : List Nat) : List Nat := if w.head? = some 45 then w.tail else w
def sgnV (w : List Nat) (i : Int) : Int := if neg w = true then -i else i
theorem neg_cons {w : List Nat} (h : neg w = true) : w = 45 :: strip w := by
  have h := of_decide_eq_true h
  unfold strip
  rw [if_pos h]
  cases w with
  | nil => cases h
  | cons c r =>
    injection h with h
    rw [h]
    rfl
theorem not_neg {w : List Nat} (h : neg w = false) : strip w = w := if_neg (of_decide_eq_false h)
/-- a number's own text, with its sign -/
theorem sign_back {w h : List Nat} {b : List Nat} (hh : okW h = true) (hw : b = (if neg w = true then 45 :: h else h)) : (decI (sgnV w (val h)) = b) ↔ (canon h = true ∧ ¬ (neg w = true ∧ val h = 0)) := by
  subst hw
  unfold sgnV
  cases hn : neg w with
  | false =>
    rw [if_neg (by decide), if_neg (by decide), back hh]
    simp
  | true =>
    rw [if_pos rfl, if_pos rfl]
    obtain ⟨m, hm⟩ : ∃ m : Nat, val h = (m : Int) := ⟨_, rfl⟩
    rw [hm]
    by_cases h0 : m = 0
    · subst h0
      constructor
      · intro e
        exfalso
        have : decI (-((0 : Nat) : Int)) = [48] := by decide +kernel
        rw [this] at e
        cases e
      · rintro ⟨_, k⟩
        exact (k ⟨rfl, rfl⟩).elim
    · rw [decI_neg m (by omega)]
      constructor
      · intro e
        injection e with _ e
        rw [← hm] at e
        exact ⟨(back hh).mp e, fun ⟨_, z⟩ => h0 (by omega)⟩
      · rintro ⟨k, _⟩
        have := (back hh).mpr k
        rw [hm] at this
        rw [this]
/-! ### cut at the first bar -/
theorem cut_cases (r : List Nat) : 47 ∉ r ∨ ∃ h t, r = h ++ 47 :: t ∧ 47 ∉ h := by
  induction r with
  | nil => exact .inl (by simp)
  | cons c r ih =>
    by_cases hc : c = 47
    · subst hc
      exact .inr ⟨[], r, rfl, by simp⟩
    · rcases ih with ih | ⟨h, t, e, hh⟩
      · exact .inl (by simp [ih, Ne.symm hc])
      · exact .inr ⟨c :: h, t, by rw [e]; rfl, by simp [hh, Ne.symm hc]⟩
theorem spl_no {r : List Nat} (h : 47 ∉ r) : TL.spl [47] 0 [] r = [r] := by
  have := TL.spl_last1 (S := []) (acc := []) h
  simpa using this
theorem spl_yes {h t : List Nat} (hh : 47 ∉ h) : TL.spl [47] 0 [] (h ++ 47 :: t) = h :: TL.spl [47] 0 [] t := by
  have := TL.spl_part1 (S := []) (acc := []) (rest := t) hh
  simpa using this
theorem par_no {r : List Nat} (h : 47 ∉ r) : TL.par [47] [] r = none := TL.par_none1 (S := []) h
theorem par_yes {h t : List Nat} (hh : 47 ∉ h) : TL.par [47] [] (h ++ 47 :: t) = some (h, t) := by
  have := TL.par_part1 (S := []) (acc := []) (rest := t) hh
  simpa using this
theorem spl_two (t : List Nat) (h : 47 ∈ t) : ∃ a b l, TL.spl [47] 0 [] t = a :: b :: l := by
  rcases cut_cases t with hn | ⟨p, q, e, hp⟩
  · exact absurd h hn
  · subst e
    rw [spl_yes hp]
    rcases cut_cases q with hq | ⟨p2, q2, e2, hp2⟩
    · rw [spl_no hq]; exact ⟨_, _, _, rfl⟩
    · rw [e2, spl_yes hp2]; exact ⟨_, _, _, rfl⟩
/-! ### the law's reading, the program's -/
def lawR (w : List Nat) : Option (Int × Int) := match TL.spl [47] 0 [] (strip w) with
  | [a] => if canon a = true ∧ ¬ (neg w = true ∧ val a = 0) then some (sgnV w (val a), 1) else none
  | [a, b] => if (canon a = true ∧ canon b = true) ∧ ¬ (neg w = true ∧ val a = 0) ∧ ¬ (val b < 2) ∧ (nn (val a) (val b) = val a ∧ nu (val a) (val b) = val b) then some (sgnV w (val a), val b) else none
  | _ => none
def txt (n u : Int) : List Nat := if u = 1 then decI n else decI n ++ 47 :: decI u
def headOf (w : List Nat) : List Nat := match TL.par [47] [] (strip w) with
  | none => strip w
  | some (h, _) => h
def tailOf (w : List Nat) : List Nat := match TL.par [47] [] (strip w) with
  | none => [49]
  | some (_, t) => t
def okR (w : List Nat) : Bool := okW (headOf w) && okW (tailOf w) && !decide (val (tailOf w) = 0)
def numR (w : List Nat) : Int := nn (sgnV w (val (headOf w))) (val (tailOf w))
def undR (w : List Nat) : Int := nu (sgnV w (val (headOf w))) (val (tailOf w))
theorem low_one (a : Int) : Low a 1 := ⟨by decide, by rw [show (1 : Int).natAbs = 1 from rfl, Nat.gcd_one_right]⟩
theorem decI_nobar (i : Int) : 47 ∉ decI i := by
  rcases Int.le_total 0 i with h | h
  · obtain ⟨m, rfl⟩ := Int.eq_ofNat_of_zero_le h
    exact okW_no (decI_ok m).1 (by decide)
  · by_cases h0 : i = 0
    · subst h0
      exact okW_no (decI_ok 0).1 (by decide)
    · obtain ⟨m, hm⟩ : ∃ m : Nat, -i = (m : Int) := Int.eq_ofNat_of_zero_le (by omega)
      have : i = -(m : Int) := by omega
      rw [this, decI_neg m (by omega)]
      simp only [List.mem_cons, not_or]
      exact ⟨by decide, okW_no (decI_ok m).1 (by decide)⟩
theorem cut_inj {a b c d : List Nat} (ha : 47 ∉ a) (hc : 47 ∉ c) (e : a ++ 47 :: b = c ++ 47 :: d) : a = c ∧ b = d := by
  have h1 := par_yes (t := b) ha
  rw [e, par_yes hc] at h1
  injection h1 with h1
  injection h1 with h1 h2
  exact ⟨h1.symm, h2.symm⟩
theorem sgn_abs (w : List Nat) (i : Int) : (sgnV w i).natAbs = i.natAbs := by
  unfold sgnV
  split
  · exact Int.natAbs_neg _
  · rfl
theorem low_of_fix {a b : Int} (hb : 0 < b) (h1 : nu a b = b) : Low a b := by
  have h0 : b ≠ 0 := by omega
  have e := nu_eq (n := a) h0
  rw [h1] at e
  have e1 : sg a b = 1 := Int.eq_of_mul_eq_mul_right h0 (by rw [Int.one_mul]; exact e.symm)
  refine ⟨hb, ?_⟩
  have e2 := sg_abs a b
  rw [e1] at e2
  have : (gc a b).natAbs = Nat.gcd a.natAbs b.natAbs := Int.natAbs_natCast _
  rw [← this, ← e2]
  rfl
theorem read_not {w : List Nat} (h : okR w = false) : lawR w = none := by
  unfold okR headOf tailOf at h
  unfold lawR
  rcases cut_cases (strip w) with hn | ⟨a, b, e, ha⟩
  · rw [par_no hn] at h
    rw [spl_no hn]
    have h1 : okW [49] = true := by decide
    have h2 : val [49] = 1 := by decide
    simp only [h1, h2] at h
    have h3 : okW (strip w) = false := by
      cases hk : okW (strip w)
      · rfl
      · rw [hk] at h; exact absurd h (by decide)
    have h4 : canon (strip w) = false := by unfold canon; rw [h3]; rfl
    simp only [h4]
    rw [if_neg (by simp)]
  · rw [e] at h ⊢
    rw [par_yes ha] at h
    rw [spl_yes ha]
    rcases cut_cases b with hb | ⟨p, q, e2, hp⟩
    · rw [spl_no hb]
      simp only at h ⊢
      rw [if_neg]
      rintro ⟨⟨h1, h2⟩, _, h3, _⟩
      rw [canon_ok h1, canon_ok h2] at h
      have : ¬ val b = 0 := by omega
      simp [this] at h
    · obtain ⟨x, y, l, e3⟩ := spl_two b (by rw [e2]; simp)
      rw [e3]
theorem read_yes {w : List Nat} (h : okR w = true) : lawR w = if txt (numR w) (undR w) = w then some (numR w, undR w) else none := by
  unfold numR undR
  unfold okR at h
  have hh := h
  unfold headOf tailOf at *
  unfold lawR
  rcases cut_cases (strip w) with hn | ⟨a, b, e, ha⟩
  · rw [par_no hn] at h ⊢
    rw [spl_no hn]
    simp only at h ⊢
    have h3 : okW (strip w) = true := by
      cases hk : okW (strip w)
      · rw [hk] at h; exact absurd h (by decide)
      · rfl
    have h2 : val [49] = 1 := by decide
    rw [h2, (low_one _).nn, (low_one _).nu]
    have ht : txt (sgnV w (val (strip w))) 1 = decI (sgnV w (val (strip w))) := if_pos rfl
    rw [ht]
    have hw : w = (if neg w = true then 45 :: strip w else strip w) := by
      cases hk : neg w
      · rw [if_neg (by decide), not_neg hk]
      · rw [if_pos rfl]; exact neg_cons hk
    have hb := sign_back (w := w) h3 hw
    by_cases hc : canon (strip w) = true ∧ ¬ (neg w = true ∧ val (strip w) = 0)
    · rw [if_pos hc, if_pos (hb.mpr hc)]
    · rw [if_neg hc, if_neg (fun z => hc (hb.mp z))]
  · rw [e] at h ⊢
    rw [par_yes ha] at h ⊢
    rw [spl_yes ha]
    simp only at h ⊢
    obtain ⟨h12, h3⟩ := Bool.and_eq_true_iff.mp h
    obtain ⟨h1, h2⟩ := Bool.and_eq_true_iff.mp h12
    have h3 : ¬ val b = 0 := by simpa using h3
    have hb : 47 ∉ b := okW_no h2 (by decide)
    rw [spl_no hb]
    simp only
    have hv : 0 < val b := by have := val_nn b; omega
    have hw : w = (if neg w = true then 45 :: a else a) ++ 47 :: b := by
      cases hk : neg w
      · rw [if_neg (by decide), ← e, not_neg hk]
      · rw [if_pos rfl, List.cons_append, ← e]; exact neg_cons hk
    have hna : 47 ∉ (if neg w = true then 45 :: a else a) := by
      split
      · simp [ha]
      · exact ha
    have sb := sign_back (w := w) (b := if neg w = true then 45 :: a else a) h1 rfl
    have gs : ∀ x : Int, Low (val a) (val b) ↔ Low (sgnV w (val a)) (val b) := fun _ => by
      constructor
      · rintro ⟨k1, k2⟩; exact ⟨k1, by rw [sgn_abs]; exact k2⟩
      · rintro ⟨k1, k2⟩; exact ⟨k1, by rw [sgn_abs] at k2; exact k2⟩
    by_cases hc : (canon a = true ∧ canon b = true) ∧ ¬ (neg w = true ∧ val a = 0) ∧ ¬ (val b < 2) ∧ (nn (val a) (val b) = val a ∧ nu (val a) (val b) = val b)
    · rw [if_pos hc]
      obtain ⟨⟨c1, c2⟩, c3, c4, _, c5⟩ := hc
      have lw := (gs 0).mp (low_of_fix hv c5)
      rw [lw.nn, lw.nu, if_pos]
      unfold txt
      rw [if_neg (by omega)]
      rw [sb.mpr ⟨c1, c3⟩, (back h2).mpr c2]
      exact hw.symm
    · rw [if_neg hc, if_neg]
      intro ht
      apply hc
      generalize hN : nn (sgnV w (val a)) (val b) = N at ht
      generalize hU : nu (sgnV w (val a)) (val b) = U at ht
      unfold txt at ht
      split at ht
      · exfalso
        have : 47 ∈ w := by rw [hw]; simp
        rw [← ht] at this
        exact decI_nobar _ this
      · rename_i hU1
        rw [hw] at ht
        obtain ⟨t1, t2⟩ := cut_inj (decI_nobar _) hna ht
        have lo := low_of (n := sgnV w (val a)) (u := val b) (by omega)
        rw [hU] at lo
        obtain ⟨m, hm⟩ : ∃ m : Nat, U = (m : Int) := Int.eq_ofNat_of_zero_le (by have := lo.pos; omega)
        have dm := decI_ok m
        rw [← hm, t2] at dm
        have hUv : U = val b := dm.2.1.symm
        have lw : Low (sgnV w (val a)) (val b) := low_of_fix hv (hU.trans hUv)
        have hNv : N = sgnV w (val a) := by rw [← hN]; exact lw.nn
        rw [hNv] at t1
        obtain ⟨c1, c3⟩ := sb.mp t1
        have lo2 := (gs 0).mpr lw
        exact ⟨⟨c1, dm.2.2⟩, c3, by omega, lo2.nn, lo2.nu⟩
end K3

set_option Elab.async false
set_option linter.all false
set_option maxRecDepth 100000
set_option maxHeartbeats 4000000
set_option autoImplicit false
namespace Dl
open PySem PySem.Spec PyProof.Rows L2
/-! ## a text cut: x[:i], x[i:] -/
section
variable {X : Cx} {N : En} {W : WX} {δ : List (Option S)} {μ μ1 μ2 : List M} {e b : Expr} {p2 pos : Pos} {z : Str} {i : Int}
/-- x[:i] -/
theorem de_cutTo (he : DE X N W δ μ e (.v (.p (.str z))) μ1) (hb : DE X N W δ μ1 b (.v (.p (.int i))) μ2) (hz : z.length ≤ sizeLine) : DE X N W δ μ (.Subscript e (.Slice none (some b) none p2) pos) (.v (.p (.str (Txt.slice z none (some i))))) μ2 :=
  PE.imp (pe_slice C8.sl_txt he po_none (po_some hb)) fun σ H Q ⟨F, A, R0, k⟩ => ⟨F, A, R0, fun v F1 A1 H1 e1 a1 R1 rv => by
    cases (show Rep N.K F1 v (.str z) from rv)
    refine ⟨F1, A1, R1, fun v2 F2 A2 H2 e2 a2 R2 rv2 => ?_⟩
    cases (show Rep N.K F2 v2 (.int i) from rv2)
    exact ⟨i, rfl, z, rfl, hz, k _ F2 A2 H2 (e1.trans e2) (a1.trans a2) R2 (.str _)⟩⟩
/-- x[i:] -/
theorem de_cutFrom (he : DE X N W δ μ e (.v (.p (.str z))) μ1) (hb : DE X N W δ μ1 b (.v (.p (.int i))) μ2) (hz : z.length ≤ sizeLine) : DE X N W δ μ (.Subscript e (.Slice (some b) none none p2) pos) (.v (.p (.str (Txt.slice z (some i) none)))) μ2 :=
  PE.imp (pe_slice C8.sl_txt he (po_some hb) po_none) fun σ H Q ⟨F, A, R0, k⟩ => ⟨F, A, R0, fun v F1 A1 H1 e1 a1 R1 rv => by
    cases (show Rep N.K F1 v (.str z) from rv)
    refine ⟨F1, A1, R1, fun v2 F2 A2 H2 e2 a2 R2 rv2 => ?_⟩
    cases (show Rep N.K F2 v2 (.int i) from rv2)
    exact ⟨i, rfl, z, rfl, hz, k _ F2 A2 H2 (e1.trans e2) (a1.trans a2) R2 (.str _)⟩⟩
end
end Dl

set_option Elab.async false
set_option linter.all false
set_option maxRecDepth 100000
set_option maxHeartbeats 4000000
set_option autoImplicit false
namespace Dl
open PySem PySem.Spec PyProof.Rows L2
/-! ## static methods of own classes, called by the class -/
structure Cs (P : Program) (w : World) (K : PySem.W.Frag) (mg : Str → Option Value) (base : Heap) (k : Nat) (C : Addr) (m : Str) (R : Rel) : Prop where
  ex : ∃ (f p : Addr) (mc : Value) (rest : List Value) (fd : FuncData) (ps : List Str), FnOk P w K mg base (L2.CX P w) k f fd ps (spD K R) ∧ PySem.W.specialIn K (.ref C) "__getattribute__" = some (some (.builtin "type.__getattribute__")) ∧ PySem.W.typeIn K (.ref C) = some mc ∧ PySem.W.readsIn K C mc = true ∧
    PySem.W.findCls K (.ref C) mc m = some (.get (.builtin "staticmethod.__get__") (.ref p) .none (.ref C)) ∧ PySem.W.recIn K p "staticmethod" = some (.ref f :: rest) ∧ PySem.W.handedIn (.ref f) = true ∧ PySem.W.keepIn K (.ref f) = true ∧ Binds K fd ps []
section
variable {X : Cx} {N : En} {W : WX} {n k : Nat} {δ : List (Option S)} {μ μ1 μ2 μ3 μ' : List M} {e o a b : Expr} {es : List Expr} {ss : List S} {r : Rx} {R : Rel} {C : Addr} {m : Str} {p pos apos : Pos} {d : D}
theorem de_sm {pl : Sem Bool} (g : Go X N W n) (cs : Cs X.prog X.w X.K X.mg X.base k C m R) (ho : DE X N W δ μ o (.v (.p (.adr C))) μ1) (ha : DA X N W δ μ1 (e :: es) ss μ2) (hR : R ss μ2 r μ3)
    (hk : k ≤ n := by decide) (hst : starEach (e :: es) X.env = (false, eval e X.env) :: starEach es X.env := by rfl) (hpl : (backTo pos (starEach es X.env)).any (·.1) = false := by rfl)
    (ht : eval (.Call (.Attribute o m apos) (e :: es) [] pos) X.env = (do
      let ov ← eval o X.env
      standAt apos.atName
      let (f, first) ← holding [ov] (getMethod ov m pl)
      callWith pos f first (backTo pos (starEach (e :: es) X.env)) (backToKw pos (keywordEach [] X.env))) := by rfl) : DE X N W δ μ (.Call (.Attribute o m apos) (e :: es) [] pos) r μ3 := by
  obtain ⟨f, pS, mc, rest, fd, ps, Fo, hsp, hty, hrd, hfc, hrc, hhd, hkp, hb⟩ := cs.ex
  refine ⟨fun pins s σ H Q I ⟨F, A, R0, q⟩ => ?_⟩
  refine PySem.W.methodCall_KW (pl := pl) (thn (ho.run pins s σ H (fun v H' => ∃ F' A', Same F F' ∧ A <+: A' ∧ Rl N F' A' H' σ δ μ1 ∧ RepS N.K F' A' v (.p (.adr C))) I ⟨F, A, R0, fun v F' A' H' h1 h2 h3 h4 => ⟨F', A', h1, h2, h3, h4⟩⟩) fun u s1 ⟨v, H1, I1, r1, F1, A1, e1, p1, R1, rv⟩ => ?_) ht
  cases (show Rep N.K F1 v (.adr C) from rv)
  obtain rfl : u = Value.ref C := r1
  obtain ⟨m', Fr'⟩ := I1.fr
  refine PySem.W.method_of_cls Fr' I1.mod.kin hsp (PySem.W.cls_sm Fr' I1.mod.kin hty hrd hfc hrc hhd ?_)
  have I1' := I1.tok (s1.toks + 1)
  refine PySem.W.callWith_K (first := []) (h₀ := X.base) I.ok.mod.kin hkp (thn (ha.run pos pins _ σ H1 (fun vs H' => ∃ F' A', Same F1 F' ∧ A1 <+: A' ∧ Rl N F' A' H' σ δ μ2 ∧ RepSs N.K F' A' vs ss) I1' ⟨F1, A1, R1, fun vs F' A' H' h1 h2 h3 h4 => ⟨F', A', h1, h2, h3, h4⟩⟩) fun us s2 ⟨vs, H2, I2, r2, F2, A2, e2, p2, R2, rvs⟩ => ⟨I2.kIn, ?_⟩) hst hpl
  exact call_fnD (us := us) (vs := vs) (ss := ss) (dd := []) (ds := []) (dvs := []) g hk Fo hb .nil (fun _ => .nil) I2 R2 rvs r2 (by rw [List.map_nil, List.append_nil]; exact hR) (q.to (e1.trans e2) (p1.trans p2))
/-! ## x.split(sep), x.partition(sep) -/
theorem m_split {z y : Str} (hy : (y.length == 0) = false) (hl : z.length + 2 ≤ sizeLine) : MtOk X N W "str" "str.split" μ μ (.p (.str z)) [.p (.str y)] (.v (.p (.lst ((Txt.split z y).map D.str)))) μ :=
  ⟨_, mt_split, fun σ δ F A H x R rx => by cases rs_str rx; trivial, fun σ δ F A H x vs Q R rx rv k => by
    obtain ⟨v, rfl, h⟩ := one_of rv
    cases rs_str rx
    cases rs_str h
    refine ⟨z, y, rfl, rfl, hy, hl, fun q nq => ?_⟩
    have sm := same_updN (o := .lst ((Txt.split z y).map V.str)) (R.rc.fresh nq).2.1
    exact k (.ref q) _ A _ sm (List.prefix_refl _) (R.to sm (List.prefix_refl _) (R.rc.frozen nq _)) (.lst upd_same of_strs)⟩
theorem m_partition {z y : Str} (hy : (y.length == 0) = false) (hl : z.length ≤ sizeLine) : MtOk X N W "str" "str.partition" μ μ (.p (.str z)) [.p (.str y)] (.v (.p (.tup [.str (Txt.partition z y).1, .str (Txt.partition z y).2.1, .str (Txt.partition z y).2.2]))) μ :=
  ⟨_, mt_partition, fun σ δ F A H x R rx => by cases rs_str rx; trivial, fun σ δ F A H x vs Q R rx rv k => by
    obtain ⟨v, rfl, h⟩ := one_of rv
    cases rs_str rx
    cases rs_str h
    refine ⟨z, y, rfl, rfl, hy, hl, fun q nq => ?_⟩
    have sm := same_updN (o := .tup [.str (Txt.partition z y).1, .str (Txt.partition z y).2.1, .str (Txt.partition z y).2.2]) (R.rc.fresh nq).2.1
    exact k (.ref q) _ A _ sm (List.prefix_refl _) (R.to sm (List.prefix_refl _) (R.rc.frozen nq _)) (.tup (.inl (.inl upd_same)) (.cons (.str _) (.cons (.str _) (.cons (.str _) .nil))))⟩
/-! ## one sign so many times -/
theorem fold_rep (c : Nat) : ∀ (k : Nat) (acc : Array Nat), (List.replicate k #[c]).foldl (· ++ ·) acc = acc ++ (List.replicate k c).toArray
  | 0, acc => by simp
  | k + 1, acc => by
    rw [List.replicate_succ, List.foldl_cons, fold_rep c k, Array.append_assoc]
    congr 1
    simp [List.replicate_succ]
theorem op_mulSk {c k : Nat} (h : 2 ≤ k ∧ k ≤ 10000) : OpR X (binaryOp .Mult) (fun x y H Q => x = .str ⟨#[c]⟩ ∧ y = .int (k : Int) ∧ Q (.str (Dl.st (List.replicate k c))) H) := by
  intro pins s σ H x y v u Q I rx ry ⟨e1, e2, q⟩
  subst e1 e2
  obtain ⟨t, rfl⟩ := rx
  obtain ⟨t', rfl⟩ := ry
  have h1 : ¬ (k : Int) < 1 := by omega
  have h2 : ((k : Int) == 1 || (⟨#[c]⟩ : Str).length == 0) = false := by
    have : ((k : Int) == 1) = false := by rw [beq_eq_false_iff_ne]; omega
    rw [this]
    rfl
  refine PySem.P.mul_str (by
      have a : ¬ (k : Int) < -(2 ^ 63 : Int) := by omega
      have b : ¬ (k : Int) ≥ 2 ^ 63 := by omega
      rw [decide_eq_false a, decide_eq_false b]; rfl) (fun _ _ => by
      show ¬ (((1 : Nat) : Int) > (2 ^ 63 - 1) / (k : Int))
      have : (1 : Int) ≤ (2 ^ 63 - 1) / (k : Int) := by
        rw [Int.le_ediv_iff_mul_le (by omega)]
        omega
      omega) (fun _ _ => by
      show Builtin.Str.tooLong ((⟨#[c]⟩ : Str).length * (k : Int).toNat) = false
      have e : (⟨#[c]⟩ : Str).length * (k : Int).toNat = k := by
        show 1 * (k : Int).toNat = k
        omega
      rw [e]
      unfold Builtin.Str.tooLong
      rw [decide_eq_false_iff_not, sizeLine_eq]
      omega) ?_
  rw [if_neg h1, if_neg (by rw [h2]; decide)]
  have e3 : (⟨(List.replicate (k : Int).toNat (⟨#[c]⟩ : Str).cps).foldl (· ++ ·) #[]⟩ : Str) = Dl.st (List.replicate k c) := by
    show (⟨(List.replicate (k : Int).toNat #[c]).foldl (· ++ ·) #[]⟩ : Str) = _
    rw [fold_rep, Int.toNat_natCast]
    simp [Dl.st]
  rw [e3]
  exact ⟨by rw [st_len, List.length_replicate, sizeLine_eq]; omega, .str _, H, I.tok _, ⟨_, rfl⟩, q⟩
theorem o_mulSk {c k : Nat} (h : 2 ≤ k ∧ k ≤ 10000) : OpOk X N W (binaryOp .Mult) μ (.p (.str ⟨#[c]⟩)) (.p (.int (k : Int))) (.v (.p (.str (Dl.st (List.replicate k c))))) μ :=
  ⟨_, op_mulSk h, fun σ δ F A H x y Q R rx ry q => ⟨rs_str rx, rs_int ry, q.here R (.str _)⟩⟩
/-! ## None in a list of ints and None -/
def nonInt : D → Bool
  | .non | .int _ => true
  | _ => false
theorem none_in {K : PySem.W.Frag} {F : Hp} : ∀ {vs : List V} {ds : List D}, Reps K F vs ds → ds.all nonInt = true → vs.all flatV = true ∧ inV .non vs = ds.any Dl.isNon
  | _, _, .nil, _ => ⟨rfl, rfl⟩
  | v :: vs, d :: ds, .cons r rs, h => by
    rw [List.all_cons, Bool.and_eq_true] at h
    obtain ⟨a, b⟩ := none_in rs h.2
    cases r with
    | non => exact ⟨by rw [List.all_cons, a]; rfl, by unfold inV; rw [List.any_cons, List.any_cons]; rfl⟩
    | int i => exact ⟨by rw [List.all_cons, a]; rfl, by unfold inV at b ⊢; rw [List.any_cons, List.any_cons, b]; rfl⟩
    | _ => exact absurd h.1 (by simp [nonInt])
theorem o_inNon {ds : List D} (h : ds.all nonInt = true) (g : Go X N W n) : OpOk X N W (compareOp .In) μ (.p .non) (.p (.lst ds)) (.v (.p (.bl (ds.any Dl.isNon)))) μ :=
  ⟨_, op_in_seq, fun σ δ F A H x y Q R rx ry q => by
    obtain ⟨a, vs, rfl, h1, h2⟩ := rep_lst ry
    cases rs_non rx
    obtain ⟨k1, k2⟩ := none_in h2 h
    refine ⟨a, vs, rfl, .inl (SqL.of (R.rc.sub _ _ h1)), rfl, k1, ?_⟩
    rw [if_neg (by decide), k2]
    exact q.here R (.bl _)⟩
end
end Dl

set_option Elab.async false
set_option linter.all false
set_option maxRecDepth 100000
set_option maxHeartbeats 4000000
set_option autoImplicit false
namespace K3
open PySem PySem.Spec PyProof.Rows L2 Dl PySem.NumText
theorem scWhole : FnScope ["value"] ["value"] (defScope sWhole) := ⟨rfl, rfl, rfl, by decide +kernel, rfl, by decide +kernel, by decide +kernel⟩
theorem scInit : FnScope ["self", "number", "under", "shared"] ["self", "number", "under"] (defScope sInit) := ⟨rfl, rfl, rfl, by decide +kernel, rfl, by decide +kernel, by decide +kernel⟩
theorem scTxt : FnScope ["self"] ["self"] (defScope sTxt) := ⟨rfl, rfl, rfl, by decide +kernel, rfl, by decide +kernel, by decide +kernel⟩
theorem scOfT : FnScope ["text", "head", "bar", "tail", "number", "made"] ["text"] (defScope sOfT) := ⟨rfl, rfl, rfl, by decide +kernel, rfl, by decide +kernel, by decide +kernel⟩
theorem scRepr : FnScope ["self"] ["self"] (defScope sRepr) := ⟨rfl, rfl, rfl, by decide +kernel, rfl, by decide +kernel, by decide +kernel⟩
theorem scEq : FnScope ["self", "other"] ["self", "other"] (defScope sEq) := ⟨rfl, rfl, rfl, by decide +kernel, rfl, by decide +kernel, by decide +kernel⟩
theorem scFigs : FnScope ["text", "sign"] ["text"] (defScope sFigs) := ⟨rfl, rfl, rfl, by decide +kernel, rfl, by decide +kernel, by decide +kernel⟩
theorem scGcd : FnScope ["one", "other"] ["one", "other"] (defScope sGcd) := ⟨rfl, rfl, rfl, by decide +kernel, rfl, by decide +kernel, by decide +kernel⟩
theorem scFr : FnScope ["number", "under", "by"] ["number", "under"] (defScope sFr) := ⟨rfl, rfl, rfl, by decide +kernel, rfl, by decide +kernel, by decide +kernel⟩

abbrev fr (a b : Int) : D := .tup [.int a, .int b]
structure TR (K : PySem.W.Frag) (mg : Str → Option Value) (C : Addr) : Prop where
  ci : ClsI K C
  nN : NoAttr K C "number"
  nU : NoAttr K C "under"
  at_ : mg "Ratio" = some (.ref C)
  isi : mg "isinstance" = none
  int : mg "int" = none
  bool : mg "bool" = none
  str : mg "str" = none
  all : mg "all" = none
  gcd : mg "gcd" = some (.builtin "math.gcd")
  figs : ∃ u, mg "FIGURES" = some u ∧ RelV (.str (st FIG)) u
  ib : PySem.W.kitOne K (.type "int") (.type "bool") = some false
  ii : PySem.W.kitOne K (.type "int") (.type "int") = some true
  rr : PySem.W.kitOne K (.ref C) (.ref C) = some true
  ss : PySem.W.kitOne K (.type "str") (.type "str") = some true
/-- no text -/
def NoS (K : PySem.W.Frag) (d : D) : Prop := ∃ t, TyI K d t ∧ PySem.W.kitOne K t (.type "str") = some false
def rWhole : Rel := fun ss μ r μ' => ∃ i : Int, ss = [.p (.int i)] ∧ r = .v (.p (.bl true)) ∧ μ' = μ
def rInit (C : Addr) : Rel := fun ss μ r μ' => ∃ (j : Nat) (n u : Int), u ≠ 0 ∧ Bd 4000 u ∧ ss = [.l j, .p (.int n), .p (.int u)] ∧ μ[j]? = some (.obj C [] []) ∧ r = .v (.p .non) ∧ μ' = μ.set j (.obj C rF [.int (nn n u), .int (nu n u)])
def rEq (C : Addr) : Rel := fun ss μ r μ' => ∃ a b c e : Int, ss = [.p (rt C a b), .p (rt C c e)] ∧ r = .v (.p (.bl (decide (a = c) && decide (b = e)))) ∧ μ' = μ
def rRepr (C : Addr) : Rel := fun ss μ r μ' => ss = [.p (rt C 1 1)] ∧ r = .v (.p (.str (Str.ofString "Ratio(1)"))) ∧ μ' = μ
def rTxt (C : Addr) : Rel := fun ss μ r μ' => ∃ a b : Int, Bd 1919 a ∧ Bd 1919 b ∧ ss = [.p (rt C a b)] ∧ r = .v (.p (.str (st (txt a b)))) ∧ μ' = μ
def rFigs : Rel := fun ss μ r μ' => ∃ L : List Nat, L.length ≤ 1000 ∧ ss = [.p (.str (st L))] ∧ r = .v (.p (.bl (okW L))) ∧ μ' = μ
def Parts (L : List Nat) : Prop := (headOf L).length ≤ 450 ∧ (tailOf L).length ≤ 450 ∧ L.length ≤ 900
def rOfT (K : PySem.W.Frag) (C CT : Addr) : Rel := fun ss μ r μ' => ∃ d, ss = [.p d] ∧ μ' = μ ∧
  ((∃ L : List Nat, Parts L ∧ d = .str (st L) ∧ ((∃ a b, lawR L = some (a, b) ∧ r = .v (.p (rt C a b))) ∨ (lawR L = none ∧ r = .x CT (.str (st L))))) ∨ (NoS K d ∧ r = .x CT d))
def rGcd : Rel := fun ss μ r μ' => ∃ n u : Int, ss = [.p (.int n), .p (.int u)] ∧ r = .v (.p (.int (gc n u))) ∧ μ' = μ
def rFr : Rel := fun ss μ r μ' => ∃ n u : Int, u ≠ 0 ∧ Bd 4000 u ∧ ss = [.p (.int n), .p (.int u)] ∧ r = .v (.p (fr (nn n u) (nu n u))) ∧ μ' = μ
theorem getD_all {q : Int → Prop} : ∀ {l : List Int} {i : Nat} {d : Int}, (∀ x ∈ l, q x) → q d → q (l.getD i d)
  | [], i, d, _, h => by simpa using h
  | x :: l, 0, d, h, _ => h x List.mem_cons_self
  | x :: l, i + 1, d, h, hd => getD_all (l := l) (fun y hy => h y (List.mem_cons_of_mem _ hy)) hd
theorem de_of' {X : Cx} {N : En} {W : WX} {δ : List (Option S)} {μ μ1 μ2 : List M} {e : Expr} {d d' : D} (h : DE X N W δ μ e (.v (.p d)) μ1) (q : d = d') (q2 : μ1 = μ2) : DE X N W δ μ e (.v (.p d')) μ2 := by subst q q2; exact h
theorem size9 {n : Nat} (h : n ≤ 100000) : n ≤ sizeLine := by rw [sizeLine_eq]; omega
theorem decI_st (i : Int) : st (decI i) = Str.ofString (toString i) := Str.ext' (by simp [Dl.st, decI])
theorem txt_cat (a b : Int) : catS Str.empty [Str.ofString (toString a), Str.ofString "/", Str.ofString (toString b)] = st (decI a ++ 47 :: decI b) := by
  simp only [catS, Str.empty_append]
  rw [← decI_st, ← decI_st, show Str.ofString "/" = st [47] from rfl, st_app, st_app]
  congr 1
  simp
theorem decI_len {i : Int} (h : Bd 1919 i) : (decI i).length ≤ 1921 := by
  have := PyProof.Rows.int_text_len_1921 (bd_log h)
  rw [← decI_st, st_len] at this
  exact this
theorem minus_at (L : List Nat) : Builtin.Str.subAt (st L) (Str.ofString "-") 0 = (match L with | [] => false | a :: _ => decide (a = 45)) := by
  rw [StrLaws.subAt_eq]
  rw [show (Str.ofString "-").length = 1 from rfl, show (Str.ofString "-").cps.toList = [45] from rfl]
  cases L with
  | nil => rfl
  | cons a l =>
    simp [Dl.st]
    by_cases h : a = 45 <;> simp [h]
theorem strip_eq (L : List Nat) : Txt.removeprefix (st L) (Str.ofString "-") = st (strip L) := by
  unfold Txt.removeprefix
  rw [minus_at]
  cases L with
  | nil => rfl
  | cons a l =>
    by_cases h : a = 45
    · subst h
      have e : (Str.ofString "-").cps.size = 1 := rfl
      simp [Txt.affix, strip, Dl.st, e, Str.length, Builtin.Str.strSub]
    · simp [h, Txt.affix, strip]
theorem neg_eq (L : List Nat) : Txt.startswith (st L) (Str.ofString "-") = neg L := by
  unfold Txt.startswith
  rw [minus_at, st_len]
  cases L with
  | nil => rfl
  | cons a l =>
    by_cases h : a = 45
    · simp [h, neg, show (Str.ofString "-").length = 1 from rfl]
    · simp [h, neg]
theorem head_is (L : List Nat) : decide (Txt.slice (st L) none (some 1) = Str.ofString "-") = neg L := by
  rw [show Txt.slice (st L) none (some 1) = st (L.take 1) from SX.slice_to (by decide), show Str.ofString "-" = st [45] from rfl]
  cases L with
  | nil => rfl
  | cons a l =>
    by_cases h : a = 45
    · subst h; simp [neg]
    · have : ¬ (st [a] = st [45]) := fun z => h (by have := st_inj.mp z; simpa using this)
      simp [neg, h, this]
theorem tail_is {L : List Nat} (h : neg L = true) : Txt.slice (st L) (some 1) none = st (strip L) := by
  rw [show Txt.slice (st L) (some 1) none = st (L.drop 1) from SX.slice_from (by decide)]
  unfold strip
  rw [if_pos (of_decide_eq_true h), List.drop_one]
theorem part_none {r : List Nat} (h : TL.par [47] [] r = none) : Txt.partition (st r) (Str.ofString "/") = (st r, st [], st []) := SX.partition_none (b := [47]) (by simp) h
theorem part_some {r p q : List Nat} (h : TL.par [47] [] r = some (p, q)) : Txt.partition (st r) (Str.ofString "/") = (st p, st [47], st q) := SX.partition_some (b := [47]) (by simp) h
theorem fold_lt : ∀ (w : List Nat) (a : Nat), AllDigits w → w.foldl (fun acc c => acc * 10 + (c - 48)) a < (a + 1) * 10 ^ w.length
  | [], a, _ => by simp
  | c :: w, a, h => by
    have h1 := fold_lt w (a * 10 + (c - 48)) h.tail
    have h2 := h.head
    rw [List.foldl_cons, List.length_cons, Nat.pow_succ]
    refine Nat.lt_of_lt_of_le h1 ?_
    have : a * 10 + (c - 48) + 1 ≤ (a + 1) * 10 := by omega
    calc _ ≤ ((a + 1) * 10) * 10 ^ w.length := Nat.mul_le_mul_right _ this
      _ = _ := by rw [Nat.mul_assoc, Nat.mul_comm 10]
theorem val_bd {w : List Nat} (h : okW w = true) (hl : w.length ≤ 450) : Bd 1800 (val w) := by
  have h1 := fold_lt w 0 (okW_iff.mp h).2
  unfold Bd val
  rw [Int.natAbs_natCast]
  have h2 : digitsVal w < 10 ^ 450 := by
    refine Nat.lt_of_lt_of_le ?_ (Nat.pow_le_pow_right (by decide) hl)
    simpa [digitsVal] using h1
  exact Nat.lt_trans h2 (by decide +kernel)
theorem int_of {w : List Nat} (h : okW w = true) (hl : w.length ≤ 450) : PySem.intText? (st w) = some (val w) := by
  obtain ⟨h1, h2⟩ := okW_iff.mp h
  have := intText_digits (x := st w) (by simpa [Dl.st] using h2) (by simpa [Dl.st] using h1) (by rw [st_len]; omega)
  simpa [Dl.st, val] using this
theorem dec_st {a b : List Nat} : decide (st a = st b) = decide (a = b) := by
  by_cases h : a = b
  · subst h; simp
  · rw [decide_eq_false h, decide_eq_false (fun z => h (st_inj.mp z))]
section
variable {X : Cx} {N : En} {W : WX} {c : Expr} {body : List Stmt} {μ : List M}
theorem euc (hc : ∀ x y : Nat, DT X N W [some (.p (.int x)), some (.p (.int y))] μ c (decide (y ≠ 0)) μ) (hb : ∀ x y : Nat, y ≠ 0 → DSs X N W [some (.p (.int x)), some (.p (.int y))] μ body (.nx [some (.p (.int y)), some (.p (.int ((x % y : Nat) : Int)))] μ)) :
    ∀ (m : Nat) (y x : Nat), y ≤ m → ∃ q, Wl X N W c body q [some (.p (.int x)), some (.p (.int y))] μ (.nx [some (.p (.int ((Nat.gcd x y : Nat) : Int))), some (.p (.int 0))] μ)
  | m, 0, x, _ => by
    refine ⟨0, ?_⟩
    rw [Nat.gcd_zero_right]
    exact .stop (hc x 0)
  | 0, y + 1, x, h => by omega
  | m + 1, y + 1, x, h => by
    have hlt : x % (y + 1) < y + 1 := Nat.mod_lt _ (Nat.succ_pos _)
    obtain ⟨q, hq⟩ := euc hc hb m (x % (y + 1)) (y + 1) (by omega)
    refine ⟨q + 1, ?_⟩
    have e : Nat.gcd (y + 1) (x % (y + 1)) = Nat.gcd x (y + 1) := by rw [Nat.gcd_comm, ← Nat.gcd_rec, Nat.gcd_comm]
    rw [e] at hq
    exact .turn (hc x (y + 1)) (hb x (y + 1) (by omega)) hq
end
theorem absF_eq (c : Int) : (if c < 0 then -c else c) = ((c.natAbs : Nat) : Int) := by split <;> omega
section
variable {X : Cx} {N : En} {W : WX} {n : Nat} {δ : List (Option S)} {μ μ1 μ2 : List M} {e o a b : Expr} {p pos apos : Pos} {K : PySem.W.Frag} {C CB : Addr} {i u : Int} {d1 d2 : D}
theorem de_ratio (g : Go X N W n) (ci : Ci X.prog X.w X.K X.mg X.base 2 C "Ratio" [] (rInit C)) (hu : u ≠ 0) (hb : Bd 4000 u) (h1 : DE X N W δ μ a (.v (.p (.int i))) μ1) (h2 : DE X N W δ μ1 b (.v (.p (.int u))) μ2) (hk : 2 + 1 ≤ n := by decide) (hg : Gl X "Ratio" := by rfl)
    (ha : starEach [a, b] X.env = (false, eval a X.env) :: starEach [b] X.env := by rfl) (hb' : starEach [b] X.env = (false, eval b X.env) :: starEach [] X.env := by rfl) (hpl : (backTo pos (starEach [b] X.env)).any (·.1) = false := by rfl) : DE X N W δ μ (.Call (.Name "Ratio" p) [a, b] [] pos) (.v (.p (rt C (nn i u) (nu i u)))) μ2 := by
  refine de_make g ci (da_cons (s := .p (.int i)) h1 (da_cons (s := .p (.int u)) h2 da_nil hb') ha) (μ0 := (μ2 ++ [M.obj C [] []]).set μ2.length (M.obj C rF [.int (nn i u), .int (nu i u)])) ⟨μ2.length, i, u, hu, hb, rfl, by simp, rfl, rfl⟩ (List.getElem?_set_self (by simp)) ?_ hk hg (by decide) ha hpl
  rw [List.set_append_right _ _ (Nat.le_refl _)]
  simp
theorem de_ratio1 (g : Go X N W n) (ci : Ci X.prog X.w X.K X.mg X.base 2 C "Ratio" [.int 1] (rInit C)) (h1 : DE X N W δ μ a (.v (.p (.int i))) μ1) (hk : 2 + 1 ≤ n := by decide) (hg : Gl X "Ratio" := by rfl)
    (ha : starEach [a] X.env = (false, eval a X.env) :: starEach [] X.env := by rfl) (hpl : (backTo pos (starEach [] X.env)).any (·.1) = false := by rfl) : DE X N W δ μ (.Call (.Name "Ratio" p) [a] [] pos) (.v (.p (rt C (nn i 1) (nu i 1)))) μ1 := by
  refine de_make g ci (da_cons (s := .p (.int i)) h1 da_nil ha) (μ0 := (μ1 ++ [M.obj C [] []]).set μ1.length (M.obj C rF [.int (nn i 1), .int (nu i 1)])) ⟨μ1.length, i, 1, by decide, by unfold Bd; decide +kernel, rfl, by simp, rfl, rfl⟩ (List.getElem?_set_self (by simp)) ?_ hk hg (by decide) ha hpl
  rw [List.set_append_right _ _ (Nat.le_refl _)]
  simp
theorem c_strI {i : Int} (hi : i.natAbs.log2 < 1920) : CallOk X N W (.type "str") μ [.p (.int i)] (.v (.p (.str (toString i)))) μ :=
  ⟨_, call_str_int, fun σ δ F A H vs Q R rv k => by
    cases rv with
    | cons r1 rv =>
      cases rv
      cases rs_int r1
      exact ⟨i, rfl, hi, k.here R (.str _)⟩⟩
end
section
variable {P : Program} {w : World} {K : PySem.W.Frag} {mg : Str → Option Value} {base : Heap} {f C CB CT : Addr} {fd : FuncData}
theorem ok_whole (F : Fun K "is_whole" "is_whole" sWhole f fd) (T : TR K mg C) : FnOk P w K mg base (L2.CX P w) 1 f fd ["value"] (spD K rWhole) := by
  refine fn_D (k := 0) F scWhole (fun ss μ r μ' h => by obtain ⟨d, rfl, _⟩ := h; rfl) ?_
  intro cdv A outer s H E N W ss μ r μ' g hA hR
  obtain ⟨i, rfl, rfl, rfl⟩ := hR
  exact ⟨_, dss_ret (de_of (d' := .bl true) (de_and (de_callB (id := "isinstance") (da_cons (de_var 0) (da_cons (de_ty T.int (by decide +kernel)) da_nil)) (c_isi g (.int _) (.ty _) T.ii) T.isi (by decide +kernel)) (fun _ => de_one (de_not (de_callB (id := "isinstance") (da_cons (de_var 0) (da_cons (de_ty T.bool (by decide +kernel)) da_nil)) (c_isi g (.int _) (.ty _) T.ib) T.isi (by decide +kernel))))) rfl), .rt⟩
theorem ok_init {oc dV kV doc pm cdv ct : Value} {od an : Option Addr} {osl : Array (Option Value)} (lk : K.lookup f = some ⟨oc, od, .func (PySem.W.fnOf "__init__" "Ratio.__init__" (defArgs sInit) (defBody sInit) (defScope sInit) dV kV doc pm an cdv ct), osl⟩) (hcd : PySem.W.codeIn K cdv "Ratio.__init__" = true)
    (T : TR K mg C) (cw : Cf P w K mg base 1 "is_whole" [] rWhole) : FnOk P w K mg base (L2.CX P w) 2 f (PySem.W.fnOf "__init__" "Ratio.__init__" (defArgs sInit) (defBody sInit) (defScope sInit) dV kV doc pm an cdv ct) ["self", "number", "under"] (spD K (rInit C)) := by
  refine fn_Dd (k := 1) lk hcd scInit (fun ss μ r μ' h => by obtain ⟨j, n, u, _, _, rfl, _⟩ := h; rfl) ?_
  intro A0 outer s0 H E N W ss μ r μ' g hA hR
  obtain ⟨j, n, u, hu, hb, rfl, hj, rfl, rfl⟩ := hR
  have hz : decide (u = 0) = false := decide_eq_false hu
  by_cases hs : u < 0
  · have e : sg n u = -(gc n u) := if_pos hs
    refine ⟨_, dss_skip (dt_of (k' := false) (dt_w (dw_or (k := false) (dt_not (dt_val (de_call g cw (da_cons (de_var 1) da_nil) ⟨_, rfl, rfl, rfl⟩))) (fun _ => dw_or (k := false) (dt_not (dt_val (de_call g cw (da_cons (de_var 2) da_nil) ⟨_, rfl, rfl, rfl⟩))) (fun _ => dw_or1 (dt_cmp (de_var 2) de_int o_eqI))))) (by rw [hz]; rfl))
      (dss_cons (ds_set 3 (de_gcd g (de_var 1) (de_var 2) T.gcd) g.nd) (cn
      (dss_ifT (dt_of (dt_cmp (de_var 2) de_int o_lt) (decide_eq_true hs)) (dss_cons (ds_set 3 (de_un (de_var 3) u_neg) g.nd) (cn dss_nil)) (cn
      (dss_cons (ds_fldNew (de_of (de_bin (de_var 1) (de_var 3) (o_divZ ?_)) (congrArg D.int (show _ = nn n u from ?_))) (de_var 0) T.ci.cl T.nN hj) (cn
      (dss_cons (ds_fldNew (de_of (de_bin (de_var 2) (de_var 3) (o_divZ ?_)) (congrArg D.int (show _ = nu n u from ?_))) (de_var 0) T.ci.cl T.nU (List.getElem?_set_self (List.getElem?_eq_some_iff.mp hj).1)) (cn dss_nil)))))))), ?_⟩
    · have := sg_div (n := n) hu hb (by decide) (by decide)
      rw [e] at this
      exact this
    · unfold nn
      rw [e]
      rfl
    · have := sg_div (n := n) hu hb (by decide) (by decide)
      rw [e] at this
      exact this
    · unfold nu
      rw [e]
      rfl
    · rw [List.set_set, List.set_set]
      exact .nx
  · have e : sg n u = gc n u := if_neg hs
    refine ⟨_, dss_skip (dt_of (k' := false) (dt_w (dw_or (k := false) (dt_not (dt_val (de_call g cw (da_cons (de_var 1) da_nil) ⟨_, rfl, rfl, rfl⟩))) (fun _ => dw_or (k := false) (dt_not (dt_val (de_call g cw (da_cons (de_var 2) da_nil) ⟨_, rfl, rfl, rfl⟩))) (fun _ => dw_or1 (dt_cmp (de_var 2) de_int o_eqI))))) (by rw [hz]; rfl))
      (dss_cons (ds_set 3 (de_gcd g (de_var 1) (de_var 2) T.gcd) g.nd) (cn
      (dss_skip (dt_of (dt_cmp (de_var 2) de_int o_lt) (decide_eq_false hs))
      (dss_cons (ds_fldNew (de_of (de_bin (de_var 1) (de_var 3) (o_divZ ?_)) (congrArg D.int (show _ = nn n u from ?_))) (de_var 0) T.ci.cl T.nN hj) (cn
      (dss_cons (ds_fldNew (de_of (de_bin (de_var 2) (de_var 3) (o_divZ ?_)) (congrArg D.int (show _ = nu n u from ?_))) (de_var 0) T.ci.cl T.nU (List.getElem?_set_self (List.getElem?_eq_some_iff.mp hj).1)) (cn dss_nil))))))), ?_⟩
    · have := sg_div (n := n) hu hb (by decide) (by decide)
      rw [e] at this
      exact this
    · unfold nn
      rw [e]
      rfl
    · have := sg_div (n := n) hu hb (by decide) (by decide)
      rw [e] at this
      exact this
    · unfold nu
      rw [e]
      rfl
    · rw [List.set_set]
      exact .nx
theorem ok_eq (F : Fun K "__eq__" "Ratio.__eq__" sEq f fd) (T : TR K mg C) : FnOk P w K mg base (L2.CX P w) 1 f fd ["self", "other"] (spD K (rEq C)) := by
  refine fn_D (k := 0) F scEq (fun ss μ r μ' h => by obtain ⟨a, b, c, e, rfl, _⟩ := h; rfl) ?_
  intro cdv A0 outer s0 H E N W ss μ r μ' g hA hR
  obtain ⟨a, b, c, e, rfl, rfl, rfl⟩ := hR
  exact ⟨_, dss_ret (de_of (de_and (de_callB (id := "isinstance") (da_cons (de_var 1) (da_cons (de_glob (v := .ref C) T.at_ rfl (fun _ _ => .adr _)) da_nil)) (c_isi g (.ins _ _ _ T.ci) (.adr C) T.rr) T.isi (by decide +kernel))
      (fun _ => de_and (de_cmp (de_fld (de_var 0) g T.ci.cl T.nN) (de_fld (de_var 1) g T.ci.cl T.nN) o_eqI) (fun _ => de_one (de_cmp (de_fld (de_var 0) g T.ci.cl T.nU) (de_fld (de_var 1) g T.ci.cl T.nU) o_eqI)))) rfl), .rt⟩
theorem ok_repr (F : Fun K "__repr__" "Ratio.__repr__" sRepr f fd) (T : TR K mg C) : FnOk P w K mg base (L2.CX P w) 1 f fd ["self"] (spD K (rRepr C)) := by
  refine fn_D (k := 0) F scRepr (fun ss μ r μ' h => by obtain ⟨rfl, _⟩ := h; rfl) ?_
  intro cdv A0 outer s0 H E N W ss μ r μ' g hA hR
  obtain ⟨rfl, rfl, rfl⟩ := hR
  exact ⟨_, dss_ifT (dt_of (dt_cmp (de_fld (de_var 0) g T.ci.cl T.nU) de_int o_eqI) rfl) (dss_ret (de_of (de_fstr (.cons de_str (.cons (de_fmtI (de_fld (de_var 0) g T.ci.cl T.nN) (by decide)) (.cons de_str .nil))) (by decide +kernel)) (congrArg D.str (by decide +kernel)))) cr, .rt⟩
theorem ok_txt (F : Fun K "text" "Ratio.text" sTxt f fd) (T : TR K mg C) : FnOk P w K mg base (L2.CX P w) 1 f fd ["self"] (spD K (rTxt C)) := by
  refine fn_D (k := 0) F scTxt (fun ss μ r μ' h => by obtain ⟨_, _, _, _, rfl, _⟩ := h; rfl) ?_
  intro cdv A0 outer s0 H E N W ss μ r μ' g hA hR
  obtain ⟨a, b, ha, hb, rfl, rfl, rfl⟩ := hR
  by_cases h1 : b = 1
  · have e : txt a b = decI a := if_pos h1
    rw [e, decI_st]
    exact ⟨_, dss_ifT (dt_of (dt_cmp (de_fld (de_var 0) g T.ci.cl T.nU) de_int o_eqI) (decide_eq_true h1)) (dss_ret (de_callT (T := "str") (da_cons (de_fld (de_var 0) g T.ci.cl T.nN) da_nil) (c_strI (bd_log ha)) T.str (by decide +kernel))) cr, .rt⟩
  · have e : txt a b = decI a ++ 47 :: decI b := if_neg h1
    rw [e, ← txt_cat]
    refine ⟨_, dss_skip (dt_of (dt_cmp (de_fld (de_var 0) g T.ci.cl T.nU) de_int o_eqI) (decide_eq_false h1)) (dss_ret (de_fstr (.cons (de_fmtI (de_fld (de_var 0) g T.ci.cl T.nN) (bd_log ha)) (.cons de_str (.cons (de_fmtI (de_fld (de_var 0) g T.ci.cl T.nU) (bd_log hb)) .nil))) ?_)), .rt⟩
    rw [txt_cat, st_len]
    have l1 := decI_len ha
    have l2 := decI_len hb
    rw [sizeLine_eq]
    simp
    omega
theorem ok_figs (F : Fun K "_all_figures" "_all_figures" sFigs f fd) (T : TR K mg C) : FnOk P w K mg base (L2.CX P w) 1 f fd ["text"] (spD K rFigs) := by
  refine fn_D (k := 0) F scFigs (fun ss μ r μ' h => by obtain ⟨L, _, rfl, _⟩ := h; rfl) ?_
  intro cdv A outer s H E N W ss μ r μ' g hA hR
  obtain ⟨L, hL, rfl, rfl, rfl⟩ := hR
  obtain ⟨u1, hu1, ru1⟩ := T.figs
  exact ⟨_, dss_ret (de_of (d' := .bl (okW L)) (de_and (de_of (d' := .bl (!decide (L = []))) (de_cmp (de_var 0) de_str o_neS) (congrArg D.bl (congrArg (!·) (dec_st (b := [])))))
    (fun _ => de_one (de_callB (id := "all") (da_cons (de_lc g [("sign", 1)] (di_of (di_str (de_var 0)) (chars_st L)) (fun s H C cl fp => dg_name 1 g.nd)
      (of_maps (fy := fun c => .bl (decide (c ∈ FIG))) fun c hc => ⟨_, rfl, fun s H C cl fp N' hK g' => de_cmp (de_var 1) (de_glob hu1 ru1 (fun _ _ => .str _)) o_inS⟩) (ok := blkOk_by (by rfl)) (hds := by rw [List.length_map, sizeLine_eq]; omega)) da_nil) (c_allm g) T.all (by decide +kernel)))) rfl), .rt⟩
theorem ok_gcd (F : Fun K "_law_gcd" "_law_gcd" sGcd f fd) (T : TL mg) : FnOk P w K mg base (L2.CX P w) 1 f fd ["one", "other"] (spD K rGcd) := by
  refine fn_D (k := 0) F scGcd (fun ss μ r μ' h => by obtain ⟨_, _, rfl, _⟩ := h; rfl) ?_
  intro cdv A0 outer s0 H E N W ss μ r μ' g hA hR
  obtain ⟨n, u, rfl, rfl, rfl⟩ := hR
  refine ⟨_, dss_cons (ds_par 0 1 g (da_cons (de_of (de_callB (id := "abs") (da_cons (de_var 0) da_nil) c_abs T.abs (by decide +kernel)) (congrArg D.int (absF_eq n))) (da_cons (de_of (de_callB (id := "abs") (da_cons (de_var 1) da_nil) c_abs T.abs (by decide +kernel)) (congrArg D.int (absF_eq u))) da_nil))) (cn
    (dss_cons (ds_while g (euc (fun x y => dt_of (dt_cmp (de_var 1) de_int o_neI) ?_) (fun x y hy => dss_cons (ds_par 0 1 g (da_cons (de_var 1) (da_cons (de_of (de_bin (de_callT (T := "int") (da_cons (de_var 0) da_nil) c_int T.int (by decide +kernel)) (de_callT (T := "int") (da_cons (de_var 1) da_nil) c_int T.int (by decide +kernel)) (o_mod ?_)) (congrArg D.int (Int.natCast_emod ..).symm)) da_nil))) (cn dss_nil)) u.natAbs u.natAbs n.natAbs (Nat.le_refl _)).choose_spec) (cn
    (dss_ret (de_var 0))))), .rt⟩
  · simp
  · omega
theorem ok_fr (F : Fun K "_law_fr" "_law_fr" sFr f fd) (cg : Cf P w K mg base 1 "_law_gcd" [] rGcd) : FnOk P w K mg base (L2.CX P w) 2 f fd ["number", "under"] (spD K rFr) := by
  refine fn_D (k := 1) F scFr (fun ss μ r μ' h => by obtain ⟨_, _, _, _, rfl, _⟩ := h; rfl) ?_
  intro cdv A0 outer s0 H E N W ss μ r μ' g hA hR
  obtain ⟨n, u, hu, hb, rfl, rfl, rfl⟩ := hR
  have hd := sg_div (n := n) hu hb (by decide) (by decide)
  have e : gc n u * (if u < 0 then -1 else 1) = sg n u := by
    unfold sg
    split <;> omega
  refine ⟨_, dss_cons (ds_set 2 (de_of (de_bin (de_call g cg (da_cons (de_var 0) (da_cons (de_var 1) da_nil)) ⟨n, u, rfl, rfl, rfl⟩) (de_if (r := .v (.p (.int (if u < 0 then -1 else 1)))) (k := decide (u < 0)) (dt_cmp (de_var 1) de_int o_lt) (fun h => de_of (de_un de_int u_neg) (congrArg D.int ?_)) (fun h => de_of de_int (congrArg D.int ?_))) (o_mul (.inr ?_))) (congrArg D.int e)) g.nd) (cn
    (dss_ret (de_tup (dp_cons (de_bin (de_var 0) (de_var 2) (o_divZ hd)) (dp_cons (de_bin (de_var 1) (de_var 2) (o_divZ (i := u) hd)) dp_nil))))), .rt⟩
  · rw [if_pos (of_decide_eq_true h)]
  · rw [if_neg (of_decide_eq_false h)]
  · split <;> decide
theorem atF {l : List Int} {i : Int} (d : Int) (h0 : 0 ≤ i) (h1 : i < l.length) : atI (l.map D.int) i = some (.int (l.getD i.toNat d)) := by
  obtain ⟨k, rfl⟩ : ∃ k : Nat, i = (k : Int) := ⟨i.toNat, by omega⟩
  refine atI_nat ?_
  have hk : k < l.length := by omega
  rw [List.getElem?_map, List.getElem?_eq_getElem hk, List.getD, Int.toNat_natCast, List.getElem?_eq_getElem hk]
  rfl
end
end K3

set_option Elab.async false
set_option linter.all false
set_option maxRecDepth 100000
set_option maxHeartbeats 4000000
set_option autoImplicit false
namespace K3
open PySem PySem.Spec PyProof.Rows L2 Dl PySem.NumText
theorem scFrT : FnScope ["one"] ["one"] (defScope sFrT) := ⟨rfl, rfl, rfl, by decide +kernel, rfl, by decide +kernel, by decide +kernel⟩
theorem scRat : FnScope ["one"] ["one"] (defScope sRat) := ⟨rfl, rfl, rfl, by decide +kernel, rfl, by decide +kernel, by decide +kernel⟩
theorem scWh : FnScope ["word", "sign"] ["word"] (defScope sWh) := ⟨rfl, rfl, rfl, by decide +kernel, rfl, by decide +kernel, by decide +kernel⟩
theorem scFrac : FnScope ["written", "sign", "rest", "terms", "numbers", "word"] ["written"] (defScope sFrac) := ⟨rfl, rfl, rfl, by decide +kernel, rfl, by decide +kernel, by decide +kernel⟩
theorem scSpo : FnScope ["pot", "text", "at", "way", "sign"] ["pot", "text"] (defScope sSpo) := ⟨rfl, rfl, rfl, by decide +kernel, rfl, by decide +kernel, by decide +kernel⟩
theorem scOdd : FnScope ["pot", "some"] ["pot"] (defScope sOdd) := ⟨rfl, rfl, rfl, by decide +kernel, rfl, by decide +kernel, by decide +kernel⟩
theorem scHeard : FnScope ["call", "caught", "back", "error"] ["call"] (defScope sHeard) := ⟨rfl, rfl, rfl, by decide +kernel, rfl, by decide +kernel, by decide +kernel⟩

theorem not_f {b : Bool} (h : (!b) = false) : b = true := by cases b <;> simp_all
theorem Parts.strip {L : List Nat} (h : Parts L) : (strip L).length ≤ 900 := by
  have h2 := h.2.2
  unfold K3.strip
  split
  · simp; omega
  · exact h2
section
variable {P : Program} {w : World} {K : PySem.W.Frag} {mg : Str → Option Value} {base : Heap} {f C CB CT CK : Addr} {fd : FuncData}
theorem okR_eq (L : List Nat) : ((!okW (headOf L)) || ((!okW (tailOf L)) || decide (val (tailOf L) = 0))) = !okR L := by
  unfold okR
  cases okW (headOf L) <;> cases okW (tailOf L) <;> cases decide (val (tailOf L) = 0) <;> rfl
theorem ok_ofT (F : Fun K "of" "Ratio.of" sOfT f fd) (T : TR K mg C) (cT : Ce P w K mg base 1 CT "BadText") (cf : Cf P w K mg base 1 "_all_figures" [] rFigs) (ci : Ci P w K mg base 2 C "Ratio" [] (rInit C)) (ct : Cp P w K mg base 1 C "text" (rTxt C)) : FnOk P w K mg base (L2.CX P w) 4 f fd ["text"] (spD K (rOfT K C CT)) := by
  refine fn_D (k := 3) F scOfT (fun ss μ r μ' h => by obtain ⟨d, rfl, _⟩ := h; rfl) ?_
  intro cdv A0 outer s0 H E N W ss μ r μ' g hA hR
  obtain ⟨d, rfl, rfl, (⟨L, hP, rfl, hh⟩ | ⟨⟨t, ty, hk⟩, rfl⟩)⟩ := hR
  · obtain ⟨hP1, hP2, hP3⟩ := hP
    have hP4 : (strip L).length ≤ 900 := Parts.strip ⟨hP1, hP2, hP3⟩
    have isi : ∀ (δ : List (Option S)) (e : δ[0]? = some (some (.p (.str (st L))))), True := fun _ _ => trivial
    -- the rest of the body, whatever stands for the bar
    have go : ∀ bar : Str, ∃ o, DSs _ N W [some (.p (.str (st L))), some (.p (.str (st (headOf L)))), some (.p (.str bar)), some (.p (.str (st (tailOf L)))), none, none] μ' ((defBody sOfT).drop 3) o ∧ Fit μ'.length o r μ' := fun bar => by
      cases hk : okR L with
      | false =>
        have hl := read_not hk
        rcases hh with ⟨a, b, h1, _⟩ | ⟨_, rfl⟩
        · rw [hl] at h1; cases h1
        exact ⟨_, dss_ifT (dt_of (dt_w (dw_or (k := !okW (headOf L)) (k' := (!okW (tailOf L)) || decide (val (tailOf L) = 0)) (dt_not (dt_val (de_call g cf (da_cons (de_var 1) da_nil) ⟨headOf L, by omega, rfl, rfl, rfl⟩))) (fun _ => dw_or (k := !okW (tailOf L)) (k' := decide (val (tailOf L) = 0)) (dt_not (dt_val (de_call g cf (da_cons (de_var 3) da_nil) ⟨tailOf L, by omega, rfl, rfl, rfl⟩))) (fun h2 => dw_or1 (dt_cmp (de_callT (T := "int") (da_cons (de_var 3) da_nil) (c_intT (int_of (not_f h2) (by omega)) (by rw [st_len]; omega)) T.int (by decide +kernel)) de_int o_eqI))))) (by rw [okR_eq, hk] <;> rfl)) (dss_cons (ds_raise g cT (de_var 0)) cx) cx, .xx⟩
      | true =>
        have hl := read_yes hk
        have hkk := hk
        unfold okR at hkk
        obtain ⟨h12, h3⟩ := Bool.and_eq_true_iff.mp hkk
        obtain ⟨h1, h2⟩ := Bool.and_eq_true_iff.mp h12
        have h3 : ¬ val (tailOf L) = 0 := by simpa using h3
        have b1 : Bd 1800 (sgnV L (val (headOf L))) := by
          have := val_bd h1 hP1
          unfold Bd at *
          rw [sgn_abs]
          exact this
        have b2 : Bd 1800 (val (tailOf L)) := val_bd h2 hP2
        have c1 : Bd 1919 (numR L) := (nn_bd h3 b1).mono (by decide)
        have c2 : Bd 1919 (undR L) := (nu_bd h3 b2).mono (by decide)
        have pre : ∀ o, DSs _ N W [some (.p (.str (st L))), some (.p (.str (st (headOf L)))), some (.p (.str bar)), some (.p (.str (st (tailOf L)))), some (.p (.int (sgnV L (val (headOf L))))), some (.p (rt C (numR L) (undR L)))] μ' ((defBody sOfT).drop 7) o → DSs _ N W [some (.p (.str (st L))), some (.p (.str (st (headOf L)))), some (.p (.str bar)), some (.p (.str (st (tailOf L)))), none, none] μ' ((defBody sOfT).drop 3) o := fun o ho =>
          dss_skip (dt_of (dt_w (dw_or (k := !okW (headOf L)) (k' := (!okW (tailOf L)) || decide (val (tailOf L) = 0)) (dt_not (dt_val (de_call g cf (da_cons (de_var 1) da_nil) ⟨headOf L, by omega, rfl, rfl, rfl⟩))) (fun _ => dw_or (k := !okW (tailOf L)) (k' := decide (val (tailOf L) = 0)) (dt_not (dt_val (de_call g cf (da_cons (de_var 3) da_nil) ⟨tailOf L, by omega, rfl, rfl, rfl⟩))) (fun h2 => dw_or1 (dt_cmp (de_callT (T := "int") (da_cons (de_var 3) da_nil) (c_intT (int_of (not_f h2) (by omega)) (by rw [st_len]; omega)) T.int (by decide +kernel)) de_int o_eqI))))) (by rw [okR_eq, hk] <;> rfl)) (dss_cons (ds_set 4 (de_callT (T := "int") (da_cons (de_var 1) da_nil) (c_intT (int_of h1 (by omega)) (by rw [st_len]; omega)) T.int (by decide +kernel)) g.nd) (cn
            (dss_cons (o1 := .nx [some (.p (.str (st L))), some (.p (.str (st (headOf L)))), some (.p (.str bar)), some (.p (.str (st (tailOf L)))), some (.p (.int (sgnV L (val (headOf L))))), none] μ') (ds_if (k := neg L) (dt_of (dt_val (de_bm PySem.F.plainAttrs_str PySem.F.slot_str_startswith PySem.F.type_str_startswith (de_var 0) (da_cons de_str da_nil) m_startswith)) (neg_eq L)) (fun h => dss_cons (ds_set 4 (de_of (de_un (de_var 4) u_neg) (congrArg D.int (show _ = sgnV L (val (headOf L)) by unfold sgnV; rw [if_pos h]))) g.nd) (cn dss_nil)) (fun h => by
              have e : sgnV L (val (headOf L)) = val (headOf L) := by unfold sgnV; rw [if_neg (by rw [h]; decide)]
              rw [e]
              exact dss_nil)) (cn
            (dss_cons (ds_set 5 (de_of (d' := rt C (numR L) (undR L)) (de_ratio g ci h3 (b2.mono (by decide)) (de_var 4) (de_callT (T := "int") (da_cons (de_var 3) da_nil) (c_intT (int_of h2 (by omega)) (by rw [st_len]; omega)) T.int (by decide +kernel))) rfl) g.nd) (cn ho))))))
        by_cases ht : txt (numR L) (undR L) = L
        · rw [if_pos ht] at hl
          rcases hh with ⟨a, b, h1', rfl⟩ | ⟨h1', _⟩
          · rw [hl] at h1'
            injection h1' with h1'
            injection h1' with e1 e2
            subst e1 e2
            exact ⟨_, pre _ (dss_skip (dt_of (k' := false) (dt_cmp (de_prop g ct (de_var 5) ⟨_, _, c1, c2, rfl, rfl, rfl⟩) (de_var 0) o_neS) (by rw [dec_st, decide_eq_true ht] <;> rfl)) (dss_ret (de_var 5))), .rt⟩
          · rw [hl] at h1'; cases h1'
        · rw [if_neg ht] at hl
          rcases hh with ⟨a, b, h1', _⟩ | ⟨_, rfl⟩
          · rw [hl] at h1'; cases h1'
          · exact ⟨_, pre _ (dss_ifT (dt_of (k' := true) (dt_cmp (de_prop g ct (de_var 5) ⟨_, _, c1, c2, rfl, rfl, rfl⟩) (de_var 0) o_neS) (by rw [dec_st, decide_eq_false ht] <;> rfl)) (dss_cons (ds_raise g cT (de_var 0)) cx) cx), .xx⟩
    have st0 : ∀ o bar t, Txt.partition (st (strip L)) (Str.ofString "/") = (st (headOf L), bar, st t) → DSs _ N W [some (.p (.str (st L))), some (.p (.str (st (headOf L)))), some (.p (.str bar)), some (.p (.str (st t))), none, none] μ' ((defBody sOfT).drop 2) o → DSs _ N W [some (.p (.str (st L))), none, none, none, none, none] μ' (defBody sOfT) o := fun o bar t hp ho =>
      dss_skip (dt_not (dt_val (de_callB (id := "isinstance") (da_cons (de_var 0) (da_cons (de_ty T.str (by decide +kernel)) da_nil)) (c_isi g (.str _) (.ty _) T.ss) T.isi (by decide +kernel))))
        (dss_cons (ds_asg (de_of (d' := .tup [.str (st (headOf L)), .str bar, .str (st t)]) (de_bm PySem.F.plainAttrs_str PySem.F.slot_str_partition PySem.F.type_str_partition (de_of (d' := .str (st (strip L))) (de_bm PySem.F.plainAttrs_str PySem.F.slot_str_removeprefix PySem.F.type_str_removeprefix (de_var 0) (da_cons de_str da_nil) (m_removeprefix (by rw [st_len]; exact size9 (by omega)))) (congrArg D.str (strip_eq L))) (da_cons de_str da_nil) (m_partition (by rfl) (by rw [st_len]; exact size9 (by omega)))) (by rw [hp])) (dg_tup (dgs_cons (dg_name 1 g.nd) (dgs_cons (dg_name 2 g.nd) (dgs_cons (dg_name 3 g.nd) dgs_nil))) g.hK g.calm) rfl) (cn ho))
    cases hc : TL.par [47] [] (strip L) with
    | none =>
      have e1 : headOf L = strip L := by unfold headOf; rw [hc]
      have e2 : tailOf L = [49] := by unfold tailOf; rw [hc]
      obtain ⟨o, h1, h2⟩ := go (st [])
      refine ⟨o, st0 o (st []) [] (by rw [part_none hc, e1]) (dss_cons (ds_if (k := true) (dt_of (dt_cmp (de_var 2) de_str o_eqS) (by decide +kernel)) (fun _ => dss_cons (ds_set 3 (de_of (d' := .str (st (tailOf L))) de_str (by rw [e2] <;> rfl)) g.nd) (cn dss_nil)) (fun h => by cases h)) (cn h1)), h2⟩
    | some ht =>
      obtain ⟨a, b⟩ := ht
      have e1 : headOf L = a := by unfold headOf; rw [hc]
      have e2 : tailOf L = b := by unfold tailOf; rw [hc]
      obtain ⟨o, h1, h2⟩ := go (st [47])
      refine ⟨o, st0 o (st [47]) b (by rw [part_some hc, e1]) (dss_skip (dt_of (k' := false) (dt_cmp (de_var 2) de_str o_eqS) (by decide +kernel)) (by rw [← e2]; exact h1)), h2⟩
  · exact ⟨_, dss_ifT (dt_not (dt_val (de_callB (id := "isinstance") (da_cons (de_var 0) (da_cons (de_ty T.str (by decide +kernel)) da_nil)) (c_isi g ty (.ty _) hk) T.isi (by decide +kernel)))) (dss_cons (ds_raise g cT (de_var 0)) cx) cx, .xx⟩
end
end K3

set_option Elab.async false
set_option linter.all false
set_option maxRecDepth 100000
set_option maxHeartbeats 4000000
set_option autoImplicit false
namespace K3
open PySem PySem.Spec PyProof.Rows L2 Dl PySem.NumText
section
variable {P : Program} {w : World} {K : PySem.W.Frag} {mg : Str → Option Value} {base : Heap} {f C CB CK : Addr} {fd : FuncData}
/-! ### the def that hears -/
theorem ok_heard {j : Nat} (F : Fun K "_law_heard" "_law_heard" sHeard f fd) (hme : mg "KnobError" = some (.ref CK)) : FnL P w K mg base false (j + 1) j f fd ["call"] (rHear K CK) := by
  obtain ⟨oc, od, kV, doc, pm, an, cdv, ct, osl, rfl, lk, hcd⟩ := F.ex
  refine ⟨fun L ss μ r μ' h => by obtain ⟨rfl, _⟩ := h; rfl, fun L A outer s H args us vs Q E fl F0 A0 ss μ r μ' _ hr e0 hb hv hR rc rv c0 hq => ?_⟩
  obtain ⟨rfl, r0, res, hL, hh, rfl⟩ := hR
  cases rv
  cases hv
  have nd := scHeard.nd
  have run : codeAny (model P w) A (.call (.ref f) args) (CR C8.CX0 outer P w H s Q C8.E0) s := by
    refine LamX.run_ofS (us := [.ref fl]) (vs := [.ref fl]) (N := ["call", "caught", "back", "error"]) (ps := ["call"]) lk hcd scHeard hr e0 hb (.cons rfl .nil) rfl fun hr1 => ?_
    have c1 := c0 μ r0 μ' hL
    let Z : Cx := cxOf C8.CX0 P w K mg base ["call", "caught", "back", "error"] "_law_heard" (defScope sHeard) f cdv A outer s H C8.E0
    have act : ∀ (W : WX) (pn : List (Addr × Obj)) (xe : Value → Shared → Prop) (p1 p2 : Pos), Takes (Z.tr pn xe) W → PE (Z.tr pn xe) (.Call (.Name "call" p1) [] [] p2) (fun σZ HZ Q => σZ[0]? = some (some (.ref fl)) ∧ tlD K F0 A0 μ r0 μ' (WE W σZ) HZ Q) :=
      fun W pn xe p1 p2 tk => pe_callV (Z := Z.tr pn xe) (i := 0) (j := j) tk c1 rfl hr1 rfl (.inl rfl)
    refine ⟨_, PSs.nox (pss_cons (ps_asg (pe_tup (pa_cons pe_non (pa_cons pe_non pa_nil))) (pg_tup rfl (pgs_cons (pg_name (i := 1) nd rfl (.inl rfl)) (pgs_cons (pg_name (i := 2) nd rfl (.inl rfl)) pgs_nil))))
      (pss_cons (ps_keep (X := Z.nox) (i := 3) (c := .ref CK)
        (tb := fun W D σ H => σ[0]? = some (some (.ref fl)) ∧ tlD K F0 A0 μ r0 μ' (WE W σ) H fun v H' => D.nx (σ.set 2 (some v)) H') rfl rfl nd rfl rfl ⟨rfl, by decide, .inl hme⟩
        (fun W pn xe tk po => ?_) (fun a cls d pn => pss_one (ps_set (i := 1) nd rfl (.inl rfl) (pv 3))))
      (pss_one (ps_ret (pe_tup (pa_cons (pv 1) (pa_cons (pv 2) pa_nil))))))), ?_⟩
    · refine ⟨fun pins s' σ H' D I ⟨h1, h2⟩ => ?_⟩
      exact (pss_one (ps_set (i := 2) nd rfl (.inl rfl) (act W pn xe _ _ tk))).run pins s' σ H' D I ⟨h1, h2⟩
    · refine ⟨by show 2 ≤ sizeLine; exact size4 (by omega), fun t nt => ⟨t, [.non, .non], rfl, .inl (.inl upd_same), rfl, .non, [.non], rfl, .non, [], rfl, rfl, rfl, ?_⟩⟩
      refine tlD_mono _ _ _ _ _ ?_ ?_ (hear_end rc nt hh hq)
      · intro cls d H' h0
        obtain ⟨h1, h2⟩ := h0
        refine ⟨h1, fun a na => ⟨.ref a, rfl, .ref a, rfl, .non, rfl, ?_, fun p np => h2 a na p np⟩⟩
        show 2 ≤ sizeLine
        exact size4 (by omega)
      · intro v H' h1
        refine ⟨.non, rfl, v, rfl, ?_, fun p np => h1 p np⟩
        show 2 ≤ sizeLine
        exact size4 (by omega)
  refine codeAny_mono run fun r s2 hq2 => ?_
  cases r with
  | error e => exact (show False from hq2).elim
  | ok fl2 =>
    cases fl2 with
    | ret u => exact hq2
    | next => exact hq2.elim
    | brk => exact hq2.elim
    | cont => exact hq2.elim
end
def odds1 : List D := [.non, .bl true, .bl false, .int 0, .int 1, .int (-1), .int 7, .int 100000000, .str "", .str "X", .str "k", .str "h 0", .tup [], .lst [], .dic [] [], .tup [.int 0], .tup [.tup []], .lst [.int 0], .tup [.int 0, .int 1]]
def odds2 : List D := [.tup [.str "same"], .tup [.str "k"], .str "XX", .str "-", .str "wires 1", .tup [.tup [.str "k", .int 1, .int 0]], .tup [.non], .tup [.str "row"], .dic [.inr "k"] [.int 1], .str "turn"]
def oddsL : List D := odds1 ++ odds2
def oddF (p : Pot) : D := oddsL.getD (takeF p 29).1.toNat .non
def rOdd : Rel := fun ss μ r μ' => ∃ (j : Nat) (p : Pot), p.ok 900 ∧ μ[j]? = some p.m ∧ ss = [.l j] ∧ r = .v (.p (oddF p)) ∧ μ' = μ.set j (takeF p 29).2.m
section
variable {P : Program} {w : World} {K : PySem.W.Frag} {mg : Str → Option Value} {base : Heap} {f : Addr} {fd : FuncData}
theorem odd_at (p : Pot) : atI oddsL (takeF p oddsL.length).1 = some (oddF p) := by
  have h := takeF_lt (p := p) (u := 29) (by decide)
  rw [show ((oddsL.length : Nat) : Int) = 29 from rfl]
  exact atI_range h.1 (show (takeF p 29).1 < (oddsL.length : Int) from h.2) D.non
theorem ok_odd (F : Fun K "_law_odd" "_law_odd" sOdd f fd) (co : Cf P w K mg base 2 "_law_of" [] rOf) : FnOk P w K mg base (L2.CX P w) 3 f fd ["pot"] (spD K rOdd) := by
  refine fn_D (k := 2) F scOdd (fun ss μ r μ' h => by obtain ⟨j, p, _, _, rfl, _⟩ := h; rfl) ?_
  intro cdv A0 outer s0 H E N W ss μ r μ' g hA hR
  obtain ⟨j, p, hp, hj, rfl, rfl, rfl⟩ := hR
  exact ⟨_, dss_cons (ds_set 1 (de_lst (ds := odds1) (dp_cons de_non (dp_cons de_bl (dp_cons de_bl (dp_cons de_int (dp_cons de_int (dp_cons (de_of (de_un de_int u_neg) (by rfl)) (dp_cons de_int (dp_cons (de_of (de_bin de_int de_int (o_pow (by decide +kernel))) (by rfl)) (dp_cons de_str (dp_cons de_str (dp_cons de_str (dp_cons de_str (dp_cons (de_tup dp_nil) (dp_cons (de_lst dp_nil) (dp_cons de_dic0 (dp_cons (de_tup (dp_cons de_int dp_nil)) (dp_cons (de_tup (dp_cons (de_tup dp_nil) dp_nil)) (dp_cons (de_lst (dp_cons de_int dp_nil)) (dp_cons (de_tup (dp_cons de_int (dp_cons de_int dp_nil))) dp_nil)))))))))))))))))))) g.nd) (cn
    (dss_cons (ds_set 1 (de_bin (de_var 1) (de_lst (ds := odds2) (dp_cons (de_tup (dp_cons de_str dp_nil)) (dp_cons (de_tup (dp_cons de_str dp_nil)) (dp_cons de_str (dp_cons de_str (dp_cons de_str (dp_cons (de_tup (dp_cons (de_tup (dp_cons de_str (dp_cons de_int (dp_cons de_int dp_nil)))) dp_nil)) (dp_cons (de_tup (dp_cons de_non dp_nil)) (dp_cons (de_tup (dp_cons de_str dp_nil)) (dp_cons de_dic1 (dp_cons de_str dp_nil))))))))))) (o_catL (by show 29 ≤ sizeLine; exact size4 (by omega)))) g.nd) (cn
    (dss_ret (de_call g co (da_cons (de_var 0) (da_cons (de_var 1) da_nil)) ⟨j, p, hp, hj, .inl ⟨oddsL, oddF p, by decide, by decide, odd_at p, rfl, rfl, rfl⟩⟩))))), .rt⟩
end
def sg11 : List Nat := [48, 49, 47, 45, 32, 43, 46, 50, 97]
def sgD : List D := [.str "0", .str "1", .str "/", .str "-", .str " ", .str "+", .str ".", .str "2", .str "a"]
theorem sgD_eq : sgD = sg11.map fun c => D.str (st [c]) := rfl
def spA (n : Nat) (p : Pot) : Nat := (takeF p ((n : Int) + 1)).1.toNat
def spP1 (n : Nat) (p : Pot) : Pot := (takeF p ((n : Int) + 1)).2
def spW (n : Nat) (p : Pot) : Int := (takeF (spP1 n p) 3).1
def spP2 (n : Nat) (p : Pot) : Pot := (takeF (spP1 n p) 3).2
def spC (n : Nat) (p : Pot) : Nat := sg11.getD (takeF (spP2 n p) 9).1.toNat 48
def spP (n : Nat) (p : Pot) : Pot := (takeF (spP2 n p) 9).2
def spL (L : List Nat) (p : Pot) : List Nat :=
  if spW L.length p = 0 then L.take (spA L.length p) ++ [spC L.length p] ++ L.drop (spA L.length p)
  else if spW L.length p = 1 then L.take (spA L.length p) ++ L.drop (spA L.length p + 1)
  else L.take (spA L.length p) ++ [spC L.length p] ++ L.drop (spA L.length p + 1)
def rSp : Rel := fun ss μ r μ' => ∃ (j : Nat) (p : Pot) (L : List Nat), p.ok 800 ∧ L.length ≤ 400 ∧ μ[j]? = some p.m ∧ ss = [.l j, .p (.str (st L))] ∧ r = .v (.p (.str (st (spL L p)))) ∧ μ' = μ.set j (spP L.length p).m
theorem st_cat (a b : List Nat) : st a ++ st b = st (a ++ b) := st_app a b
theorem to_st (L : List Nat) {i : Int} (h : 0 ≤ i) : Txt.slice (st L) none (some i) = st (L.take i.toNat) := SX.slice_to h
theorem from_st (L : List Nat) {i : Int} (h : 0 ≤ i) : Txt.slice (st L) (some i) none = st (L.drop i.toNat) := SX.slice_from h
theorem spL_len (L : List Nat) (p : Pot) : (spL L p).length ≤ L.length + 1 := by
  unfold spL
  split
  · simp; omega
  · split <;> simp <;> omega
section
variable {P : Program} {w : World} {K : PySem.W.Frag} {mg : Str → Option Value} {base : Heap} {f : Addr} {fd : FuncData}
theorem ok_spoilt (F : Fun K "_law_spoilt" "_law_spoilt" sSpo f fd) (ml : mg "len" = none) (ct : Cf P w K mg base 1 "_law_take" [] rTake) (co : Cf P w K mg base 2 "_law_of" [] rOf) : FnOk P w K mg base (L2.CX P w) 3 f fd ["pot", "text"] (spD K rSp) := by
  refine fn_D (k := 2) F scSpo (fun ss μ r μ' h => by obtain ⟨j, p, L, _, _, _, rfl, _⟩ := h; rfl) ?_
  intro cdv A0 outer s0 H E N W ss μ r μ' g hA hR
  obtain ⟨j, p, L, hp, hL, hj, rfl, rfl, hm⟩ := hR
  have hm' : μ' = ((μ.set j (spP1 L.length p).m).set j (spP2 L.length p).m).set j (spP L.length p).m := by rw [List.set_set, List.set_set]; exact hm
  clear hm
  subst hm'
  have hz : (st L).length ≤ sizeLine := by rw [st_len]; exact size9 (by omega)
  have k1 : (spP1 L.length p).ok 801 := takeF_ok hp
  have k2 : (spP2 L.length p).ok 802 := takeF_ok k1
  have t1 := takeF_lt (p := p) (u := (L.length : Int) + 1) (by omega)
  have cat : ∀ a b : List Nat, a.length ≤ 500 → b.length ≤ 500 → (st a).length + (st b).length ≤ sizeLine := fun a b h1 h2 => by rw [st_len, st_len]; exact size9 (by omega)
  have eA : (spA L.length p : Int) = (takeF p ((L.length : Int) + 1)).1 := Int.toNat_of_nonneg t1.1
  have eA1 : ((takeF p ((L.length : Int) + 1)).1 + 1).toNat = spA L.length p + 1 := by rw [← eA]; omega
  have e9 : atI sgD (takeF (spP2 L.length p) (sgD.length : Nat)).1 = some (.str (st [spC L.length p])) := by
    have h := takeF_lt (p := spP2 L.length p) (u := 9) (by decide)
    have := atI_range (xs := sgD) h.1 (show _ < ((sgD.length : Nat) : Int) from h.2) (.str (st [48]))
    refine this.trans (congrArg some ?_)
    rw [sgD_eq, spC]
    simp only [List.getD_eq_getElem?_getD, List.getElem?_map]
    cases sg11[(takeF (spP2 L.length p) 9).1.toNat]? <;> rfl
  refine ⟨_, dss_cons (ds_par 2 3 g (da_cons (de_call g ct (da_cons (de_var 0) (da_cons (de_bin (de_of (de_callB (id := "len") (da_cons (de_var 1) da_nil) (c_lenS hz) ml (by decide +kernel)) (congrArg (fun n : Nat => D.int n) (st_len L))) de_int o_add) da_nil)) ⟨j, p, (L.length : Int) + 1, hp.mono (by omega), by omega, by omega, rfl, hj, rfl, rfl⟩)
        (da_cons (de_call g ct (da_cons (de_var 0) (da_cons de_int da_nil)) ⟨j, spP1 L.length p, 3, k1.mono (by omega), by omega, by omega, rfl, set_at hj, rfl, rfl⟩) da_nil))) (cn
    (dss_cons (ds_set 4 (de_call g co (da_cons (de_var 0) (da_cons (de_lst (ds := sgD) (dp_cons de_str (dp_cons de_str (dp_cons de_str (dp_cons de_str (dp_cons de_str (dp_cons de_str (dp_cons de_str (dp_cons de_str (dp_cons de_str dp_nil)))))))))) da_nil))
        ⟨j, spP2 L.length p, k2.mono (by omega), set_at (set_at hj), .inl ⟨sgD, .str (st [spC L.length p]), by decide, by decide, e9, rfl, rfl, rfl⟩⟩) g.nd) (cn
    (dss_if (k := decide (spW L.length p = 0)) (o := .rt (.p (.str (st (spL L p)))) _) (oa := .rt (.p (.str (st (spL L p)))) _) (ob := .nx _ _) (dt_cmp (de_var 3) de_int o_eqI)
      (fun h => dss_ret (de_of (de_of (de_bin (de_of (de_bin (de_of (de_cutTo (de_var 1) (de_var 2) hz) (congrArg D.str (to_st L t1.1))) (de_var 4) (o_addS (cat _ _ (by first | (simp; done) | (simp; omega)) (by first | (simp; done) | (simp; omega))))) (congrArg D.str (st_cat _ _))) (de_of (de_cutFrom (de_var 1) (de_var 2) hz) (congrArg D.str (from_st L t1.1))) (o_addS (cat _ _ (by first | (simp; done) | (simp; omega)) (by first | (simp; done) | (simp; omega))))) (congrArg D.str (st_cat _ _))) (congrArg (fun l => D.str (st l)) ?_))) (fun h => dss_nil) (fun _ => cr)
      (fun h => dss_ret (de_if (k := decide (spW L.length p = 1)) (dt_cmp (de_var 3) de_int o_eqI) (fun q => de_of (de_of (de_bin (de_of (de_cutTo (de_var 1) (de_var 2) hz) (congrArg D.str (to_st L t1.1))) (de_of (de_cutFrom (de_var 1) (de_bin (de_var 2) de_int o_add) hz) (congrArg D.str ((from_st L (by omega)).trans (congrArg (fun n => st (L.drop n)) eA1)))) (o_addS (cat _ _ (by first | (simp; done) | (simp; omega)) (by first | (simp; done) | (simp; omega))))) (congrArg D.str (st_cat _ _))) (congrArg (fun l => D.str (st l)) ?_)) (fun q => de_of (de_of (de_bin (de_of (de_bin (de_of (de_cutTo (de_var 1) (de_var 2) hz) (congrArg D.str (to_st L t1.1))) (de_var 4) (o_addS (cat _ _ (by first | (simp; done) | (simp; omega)) (by first | (simp; done) | (simp; omega))))) (congrArg D.str (st_cat _ _))) (de_of (de_cutFrom (de_var 1) (de_bin (de_var 2) de_int o_add) hz) (congrArg D.str ((from_st L (by omega)).trans (congrArg (fun n => st (L.drop n)) eA1)))) (o_addS (cat _ _ (by first | (simp; done) | (simp; omega)) (by first | (simp; done) | (simp; omega))))) (congrArg D.str (st_cat _ _))) (congrArg (fun l => D.str (st l)) ?_)))))))), .rt⟩
  · unfold spL
    rw [if_pos (of_decide_eq_true h)]
    rfl
  · unfold spL
    rw [if_neg (of_decide_eq_false h), if_pos (of_decide_eq_true q)]
    rfl
  · unfold spL
    rw [if_neg (of_decide_eq_false h), if_neg (of_decide_eq_false q)]
    rfl
end
/-! ### the law's own fractions, its reading of texts -/
def rRatio (C : Addr) : Rel := fun ss μ r μ' => ∃ a b : Int, Low a b ∧ Bd 4000 b ∧ ss = [.p (fr a b)] ∧ r = .v (.p (rt C a b)) ∧ μ' = μ
def rFrT : Rel := fun ss μ r μ' => ∃ a b : Int, Bd 1919 a ∧ Bd 1919 b ∧ ss = [.p (fr a b)] ∧ r = .v (.p (.str (st (txt a b)))) ∧ μ' = μ
def whD (L : List Nat) : D := if canon L = true then .int (val L) else .non
def rWh : Rel := fun ss μ r μ' => ∃ L : List Nat, L.length ≤ 450 ∧ ss = [.p (.str (st L))] ∧ r = .v (.p (whD L)) ∧ μ' = μ
def fracD (L : List Nat) : D := match lawR L with
  | some (a, b) => fr a b
  | none => .non
def PartsL (L : List Nat) : Prop := (∀ p ∈ TL.spl [47] 0 [] (strip L), p.length ≤ 450) ∧ L.length ≤ 900
def rFrac : Rel := fun ss μ r μ' => ∃ L : List Nat, PartsL L ∧ ss = [.p (.str (st L))] ∧ r = .v (.p (fracD L)) ∧ μ' = μ
structure TL3 (mg : Str → Option Value) : Prop where
  len : mg "len" = none
  int : mg "int" = none
  str : mg "str" = none
  all : mg "all" = none
theorem wh_non (L : List Nat) : Dl.isNon (whD L) = !canon L := by
  unfold whD
  split
  · rename_i h; rw [h]; rfl
  · rename_i h; rw [Bool.eq_false_iff.mpr h]; rfl
theorem wh_kind (L : List Nat) : nonInt (whD L) = true := by unfold whD; split <;> rfl
theorem fr_pyd (a b : Int) : PyD (fr a b) (.tuple [.int a, .int b]) := .tup (.cons (.int a) (.cons (.int b) .nil))
theorem fr_eqv (a b c d : Int) : PyData.eqv (.tuple [.int a, .int b]) (.tuple [.int c, .int d]) = (decide (a = c) && decide (b = d)) := by
  simp [PyData.eqv, PyData.eqvAll, Bool.beq_eq_decide_eq]
theorem spl_len (r : List Nat) : (TL.spl [47] 0 [] r).length ≤ r.length + 1 := by
  rcases cut_cases r with h | ⟨a, b, e, ha⟩
  · rw [spl_no h]; simp
  · subst e
    rw [spl_yes ha, List.length_cons]
    have := spl_len b
    simp
    omega
termination_by r.length
decreasing_by subst e; simp; omega
theorem spl_split (r : List Nat) : Txt.split (st r) (Str.ofString "/") = (TL.spl [47] 0 [] r).map st := SX.split_S (b := [47]) (by simp) (by decide)
section
variable {X : Cx} {N : En} {W : WX} {n : Nat} {μ : List M}
theorem o_neD (g : Go X N W n) {d1 d2 : D} {p1 p2 : PyData} {q : Bool} (h1 : PyD d1 p1) (h2 : PyD d2 p2) (s1 : SeqAt.shaped p1 = true) (s2 : SeqAt.shaped p2 = true) (hq : PyData.eqv p1 p2 = q) : OpOk X N W (compareOp .NotEq) μ (.p d1) (.p d2) (.v (.p (.bl (!q)))) μ :=
  ⟨_, op_neD (by have := g.room.un; omega), fun σ δ F A H x y Q R rx ry k => ⟨p1, p2, by rw [← g.hK]; exact h1.dp R.rc.sub rx, by rw [← g.hK]; exact h2.dp R.rc.sub ry, s1, s2, by rw [hq]; exact k.here R (.bl _)⟩⟩
end
section
variable {P : Program} {w : World} {K : PySem.W.Frag} {mg : Str → Option Value} {base : Heap} {f C CB CT CK : Addr} {fd : FuncData}
theorem ok_ratio (F : Fun K "_law_ratio" "_law_ratio" sRat f fd) (ci : Ci P w K mg base 2 C "Ratio" [] (rInit C)) : FnOk P w K mg base (L2.CX P w) 4 f fd ["one"] (spD K (rRatio C)) := by
  refine fn_D (k := 3) F scRat (fun ss μ r μ' h => by obtain ⟨_, _, _, _, rfl, _⟩ := h; rfl) ?_
  intro cdv A0 outer s0 H E N W ss μ r μ' g hA hR
  obtain ⟨a, b, hl, hb, rfl, rfl, rfl⟩ := hR
  exact ⟨_, dss_ret (de_of (de_ratio g ci hl.ne hb (de_ix (de_var 0) de_int (i_tup (i := 0) g rfl)) (de_ix (de_var 0) de_int (i_tup (i := 1) g rfl))) (by rw [hl.nn, hl.nu])), .rt⟩
theorem ok_frT (F : Fun K "_law_fr_text" "_law_fr_text" sFrT f fd) (M : TL3 mg) : FnOk P w K mg base (L2.CX P w) 1 f fd ["one"] (spD K rFrT) := by
  refine fn_D (k := 0) F scFrT (fun ss μ r μ' h => by obtain ⟨_, _, _, _, rfl, _⟩ := h; rfl) ?_
  intro cdv A0 outer s0 H E N W ss μ r μ' g hA hR
  obtain ⟨a, b, ha, hb, rfl, rfl, rfl⟩ := hR
  have la := bd_log ha
  have lb := bd_log hb
  have l1 := decI_len ha
  have l2 := decI_len hb
  refine ⟨_, dss_ret (de_if (r := .v (.p (.str (st (txt a b))))) (k := decide (b = 1)) (dt_cmp (de_ix (de_var 0) de_int (i_tup (i := 1) g rfl)) de_int o_eqI) (fun h => de_of (de_callT (T := "str") (da_cons (de_ix (de_var 0) de_int (i_tup (i := 0) g rfl)) da_nil) (c_strI la) M.str (by decide +kernel)) (congrArg D.str ?_)) (fun h => de_of (de_bin (de_bin (de_callT (T := "str") (da_cons (de_ix (de_var 0) de_int (i_tup (i := 0) g rfl)) da_nil) (c_strI la) M.str (by decide +kernel)) de_str (o_addS ?_)) (de_callT (T := "str") (da_cons (de_ix (de_var 0) de_int (i_tup (i := 1) g rfl)) da_nil) (c_strI lb) M.str (by decide +kernel)) (o_addS ?_)) (congrArg D.str ?_))), .rt⟩
  · unfold txt
    rw [if_pos (of_decide_eq_true h), decI_st]
  · rw [← decI_st, st_len, show Str.ofString "/" = st [47] from rfl, st_len]
    exact size9 (by simp; omega)
  · rw [strLen_append, ← decI_st, ← decI_st, st_len, st_len, show Str.ofString "/" = st [47] from rfl, st_len]
    exact size9 (by simp; omega)
  · unfold txt
    rw [if_neg (of_decide_eq_false h), ← decI_st, ← decI_st, show Str.ofString "/" = st [47] from rfl, st_app, st_app]
    congr 1
    simp
theorem at_zero (c : Nat) (l : List Nat) : atI (st (c :: l)).cps.toList 0 = some c := atI_nat (j := 0) (by simp [Dl.st])
theorem wh_eq (c : Nat) (l : List Nat) : (false || ((!((c :: l).all fun x => decide (x ∈ FIG))) || (decide (c = 48) && !decide (c :: l = [48])))) = !canon (c :: l) := by
  unfold canon okW
  cases (c :: l).all fun x => decide (x ∈ FIG) <;> by_cases h1 : c = 48 <;> by_cases h2 : l = [] <;> simp [h1, h2]
theorem ok_wh (F : Fun K "_law_whole" "_law_whole" sWh f fd) (M : TL3 mg) : FnOk P w K mg base (L2.CX P w) 1 f fd ["word"] (spD K rWh) := by
  refine fn_D (k := 0) F scWh (fun ss μ r μ' h => by obtain ⟨_, _, rfl, _⟩ := h; rfl) ?_
  intro cdv A0 outer s0 H E N W ss μ r μ' g hA hR
  obtain ⟨L, hl, rfl, rfl, rfl⟩ := hR
  have hz : (st L).length ≤ sizeLine := by rw [st_len]; exact size9 (by omega)
  cases L with
  | nil => exact ⟨_, dss_ifT (dt_of (k' := true) (dt_w (dw_or (k := true) (k' := true) (dt_of (dt_cmp (de_var 0) de_str o_eqS) (by decide +kernel)) (fun h => by cases h))) rfl) (dss_ret (de_of de_non (by unfold whD; rw [if_neg (by decide)]))) cr, .rt⟩
  | cons c l =>
    cases hc : canon (c :: l) with
    | false => exact ⟨_, dss_ifT (dt_of (dt_of (dt_w (dw_or (k := false) (k' := (!((c :: l).all fun x => decide (x ∈ FIG))) || (decide (c = 48) && !decide (c :: l = [48]))) (dt_of (dt_cmp (de_var 0) de_str o_eqS) (by rw [show Str.ofString "" = st [] from rfl, dec_st] <;> rfl)) (fun _ => dw_or (k := !((c :: l).all fun x => decide (x ∈ FIG))) (dt_not (dt_val (de_callB (id := "all") (da_cons (de_lc g [("sign", 1)] (di_of (di_str (de_var 0)) (chars_st (c :: l))) (fun s H C cl fp => dg_name 1 g.nd) (of_maps (fy := fun c => .bl (decide (c ∈ FIG))) fun c hc => ⟨_, rfl, fun s H C cl fp N' hK g' => de_cmp (de_var 1) de_str (o_inS (z := st FIG))⟩) (ok := blkOk_by (by rfl)) (hds := by rw [List.length_map, sizeLine_eq]; omega)) da_nil) (c_allm g) M.all (by decide +kernel)))) (fun _ => dw_or1 (dt_w (dw_and (k := decide (c = 48)) (k' := !decide (c :: l = [48])) (dt_of (dt_cmp (de_ix (de_var 0) de_int (i_str (i := 0) (c := c) hz (at_zero c l))) de_str o_eqS) (by rw [show (⟨#[c]⟩ : Str) = st [c] from rfl, show Str.ofString "0" = st [48] from rfl, dec_st]; simp)) (fun _ => dw_and1 (dt_of (dt_cmp (de_var 0) de_str o_neS) (by rw [show Str.ofString "0" = st [48] from rfl, dec_st]))))))))) (wh_eq c l)) (by rw [hc] <;> rfl)) (dss_ret (de_of de_non (by unfold whD; rw [if_neg (by rw [hc]; decide)]))) cr, .rt⟩
    | true => exact ⟨_, dss_skip (dt_of (dt_of (dt_w (dw_or (k := false) (k' := (!((c :: l).all fun x => decide (x ∈ FIG))) || (decide (c = 48) && !decide (c :: l = [48]))) (dt_of (dt_cmp (de_var 0) de_str o_eqS) (by rw [show Str.ofString "" = st [] from rfl, dec_st] <;> rfl)) (fun _ => dw_or (k := !((c :: l).all fun x => decide (x ∈ FIG))) (dt_not (dt_val (de_callB (id := "all") (da_cons (de_lc g [("sign", 1)] (di_of (di_str (de_var 0)) (chars_st (c :: l))) (fun s H C cl fp => dg_name 1 g.nd) (of_maps (fy := fun c => .bl (decide (c ∈ FIG))) fun c hc => ⟨_, rfl, fun s H C cl fp N' hK g' => de_cmp (de_var 1) de_str (o_inS (z := st FIG))⟩) (ok := blkOk_by (by rfl)) (hds := by rw [List.length_map, sizeLine_eq]; omega)) da_nil) (c_allm g) M.all (by decide +kernel)))) (fun _ => dw_or1 (dt_w (dw_and (k := decide (c = 48)) (k' := !decide (c :: l = [48])) (dt_of (dt_cmp (de_ix (de_var 0) de_int (i_str (i := 0) (c := c) hz (at_zero c l))) de_str o_eqS) (by rw [show (⟨#[c]⟩ : Str) = st [c] from rfl, show Str.ofString "0" = st [48] from rfl, dec_st]; simp)) (fun _ => dw_and1 (dt_of (dt_cmp (de_var 0) de_str o_neS) (by rw [show Str.ofString "0" = st [48] from rfl, dec_st]))))))))) (wh_eq c l)) (by rw [hc] <;> rfl)) (dss_ret (de_of (de_callT (T := "int") (da_cons (de_var 0) da_nil) (c_intT (int_of (canon_ok hc) hl) (by rw [st_len]; omega)) M.int (by decide +kernel)) (by unfold whD; rw [if_pos hc]))), .rt⟩
end
end K3

set_option Elab.async false
set_option linter.all false
set_option maxRecDepth 100000
set_option maxHeartbeats 4000000
set_option autoImplicit false
namespace K3
open PySem PySem.Spec PyProof.Rows L2 Dl PySem.NumText

section
variable {P : Program} {w : World} {K : PySem.W.Frag} {mg : Str → Option Value} {base : Heap} {f C CB CT CK : Addr} {fd : FuncData}
theorem all_ints : ∀ l : List (List Nat), (l.all canon) = true → l.map whD = l.map fun q => D.int (val q)
  | [], _ => rfl
  | q :: l, h => by
    rw [List.all_cons, Bool.and_eq_true] at h
    rw [List.map_cons, List.map_cons, all_ints l h.2]
    congr 1
    unfold whD
    rw [if_pos h.1]
theorem any_non' (l : List (List Nat)) : (l.map whD).any Dl.isNon = !(l.all canon) := by
  induction l with
  | nil => rfl
  | cons q l ih => rw [List.map_cons, List.any_cons, List.all_cons, ih, wh_non, Bool.not_and]
theorem all_kind (l : List (List Nat)) : (l.map whD).all nonInt = true := by
  rw [List.all_map, List.all_eq_true]
  exact fun q _ => wh_kind q
theorem lawR_not {L : List Nat} (h : (TL.spl [47] 0 [] (strip L)).all canon = false) : lawR L = none := by
  unfold lawR
  generalize TL.spl [47] 0 [] (strip L) = l at h
  match l, h with
  | [], h => rfl
  | [a], h =>
    have : canon a = false := by simpa using h
    simp [this]
  | [a, b], h =>
    show (if _ then _ else _) = _
    rw [if_neg]
    rintro ⟨⟨h1, h2⟩, _⟩
    simp [h1, h2] at h
  | _ :: _ :: _ :: _, _ => rfl
theorem sgn_mul (L : List Nat) (i : Int) : (if neg L = true then -1 else 1) * i = sgnV L i := by
  unfold sgnV
  split <;> omega
theorem spl_ne (r : List Nat) : TL.spl [47] 0 [] r ≠ [] := by
  rcases cut_cases r with h | ⟨a, b, e, ha⟩
  · rw [spl_no h]; simp
  · rw [e, spl_yes ha]; simp
theorem neg_lt (L : List Nat) : decide ((if neg L = true then (-1 : Int) else 1) < 0) = neg L := by
  cases neg L <;> rfl
theorem sg_small (L : List Nat) : -(2 ^ 64) < (if neg L = true then (-1 : Int) else 1) ∧ (if neg L = true then (-1 : Int) else 1) < 2 ^ 64 := by split <;> decide
theorem shaped_fr (a b : Int) : SeqAt.shaped (.tuple [.int a, .int b]) = true := by
  simp only [SeqAt.shaped, PyData.canLay0, PyData.depth, PyData.depthAll]
  rfl
theorem ok_frac (F : Fun K "_law_fraction_in" "_law_fraction_in" sFrac f fd) (M : TL3 mg) (cw : Cf P w K mg base 1 "_law_whole" [] rWh) (cf : Cf P w K mg base 2 "_law_fr" [] rFr) : FnOk P w K mg base (L2.CX P w) 3 f fd ["written"] (spD K rFrac) := by
  refine fn_D (k := 2) F scFrac (fun ss μ r μ' h => by obtain ⟨_, _, rfl, _⟩ := h; rfl) ?_
  intro cdv A0 outer s0 H E N W ss μ r μ' g hA hR
  obtain ⟨L, ⟨hp, hl⟩, rfl, rfl, rfl⟩ := hR
  have hz : (st L).length ≤ sizeLine := by rw [st_len]; exact size9 (by omega)
  have hs9 : (strip L).length ≤ 900 := by
    unfold strip
    split
    · simp; omega
    · exact hl
  have hsl := spl_len (strip L)
  -- up to the numbers
  have st0 : ∀ o, DSs _ N W [some (.p (.str (st L))), some (.p (.int (if neg L = true then -1 else 1))), some (.p (.str (st (strip L)))), some (.p (.lst ((TL.spl [47] 0 [] (strip L)).map fun q => D.str (st q)))), some (.p (.lst ((TL.spl [47] 0 [] (strip L)).map whD))), none] μ' ((defBody sFrac).drop 3) o → DSs _ N W [some (.p (.str (st L))), none, none, none, none, none] μ' (defBody sFrac) o := fun o ho =>
    dss_cons (ds_asg (de_if (r := .v (.p (.tup [.int (if neg L = true then -1 else 1), .str (st (strip L))]))) (k := neg L) (dt_of (dt_cmp (de_cutTo (de_var 0) de_int hz) de_str o_eqS) (head_is L))
      (fun h => de_of (de_tup (dp_cons (de_un de_int u_neg) (dp_cons (de_cutFrom (de_var 0) de_int hz) dp_nil))) (by rw [if_pos h, tail_is h]))
      (fun h => de_of (de_tup (dp_cons de_int (dp_cons (de_var 0) dp_nil))) (by rw [if_neg (by rw [h]; decide), not_neg h]))) (dg_tup (dgs_cons (dg_name 1 g.nd) (dgs_cons (dg_name 2 g.nd) dgs_nil)) g.hK g.calm) rfl) (cn
    (dss_cons (ds_set 3 (de_of (d' := .lst ((TL.spl [47] 0 [] (strip L)).map fun q => D.str (st q))) (de_bm PySem.F.plainAttrs_str PySem.F.slot_str_split PySem.F.type_str_split (de_var 2) (da_cons de_str da_nil) (m_split (by rfl) (by rw [st_len]; exact size9 (by omega)))) (by rw [spl_split, List.map_map] <;> rfl)) g.nd) (cn
    (dss_cons (ds_setLc 4 g [("word", 5)] (di_lst g (de_var 3)) (fun s H C cl fp => dg_name 5 g.nd) (of_maps (fy := whD) fun q hq => ⟨_, rfl, fun s H C cl fp N' hK g' => de_call g' cw (da_cons (de_var 5) da_nil) ⟨q, hp q hq, rfl, rfl, rfl⟩⟩) (ok := blkOk_by (by rfl)) (hds := by rw [List.length_map, sizeLine_eq]; omega)) (cn ho)))))
  cases hc : (TL.spl [47] 0 [] (strip L)).all canon with
  | false =>
    refine ⟨_, st0 _ (dss_ifT (dt_of (k' := true) (dt_w (dw_or (k := true) (k' := true) (dt_of (dt_cmp de_non (de_var 4) (o_inNon (all_kind _) g)) (by rw [any_non', hc] <;> rfl)) (fun h => by cases h))) rfl) (dss_ret (de_of de_non (by unfold fracD; rw [lawR_not hc]))) cr), .rt⟩
  | true =>
    have ei := all_ints _ hc
    have hne := spl_ne (strip L)
    have first : (!((TL.spl [47] 0 [] (strip L)).all canon)) = false := by rw [hc] <;> rfl
    generalize hq : TL.spl [47] 0 [] (strip L) = q at *
    match q, hne with
    | [a], _ =>
      have h1 : canon a = true := by simpa using hc
      have e3 : lawR L = if ¬ (neg L = true ∧ val a = 0) then some (sgnV L (val a), 1) else none := by
        unfold lawR
        rw [hq]
        simp [h1]
      have cnd : ∀ k, k = (neg L && decide (val a = 0)) → k = (false || (false || (neg L && decide (val a = 0)))) := fun k e => by rw [e] <;> rfl
      cases hz0 : (neg L && decide (val a = 0)) with
      | true =>
        have hz' : neg L = true ∧ val a = 0 := by simpa using hz0
        exact ⟨_, st0 _ (dss_ifT (dt_of (k' := true) (dt_w (dw_or (k := false) (k' := true) (dt_of (dt_cmp de_non (de_var 4) (o_inNon (all_kind _) g)) (by rw [any_non', hc] <;> rfl)) (fun _ => dw_or (k := false) (k' := true) (dt_of (dt_cmp (de_callB (id := "len") (da_cons (de_var 3) da_nil) (c_lenL g) M.len (by decide +kernel)) de_int o_gt) rfl) (fun _ => dw_or1 (dt_of (k' := true) (dt_w (dw_and (k := neg L) (k' := decide (val a = 0)) (dt_of (dt_cmp (de_var 1) de_int o_lt) (neg_lt L)) (fun _ => dw_and1 (dt_cmp (de_ix (de_of (de_var 4) (congrArg D.lst ei)) de_int (i_lst (i := 0) g rfl)) de_int o_eqI)))) hz0))))) rfl) (dss_ret (de_of de_non (by unfold fracD; rw [e3, if_neg (by simpa using hz')]))) cr), .rt⟩
      | false =>
        have hz' : ¬ (neg L = true ∧ val a = 0) := by rintro ⟨x, y⟩; rw [x, decide_eq_true y] at hz0; cases hz0
        exact ⟨_, st0 _ (dss_skip (dt_of (k' := false) (dt_w (dw_or (k := false) (k' := false) (dt_of (dt_cmp de_non (de_var 4) (o_inNon (all_kind _) g)) (by rw [any_non', hc] <;> rfl)) (fun _ => dw_or (k := false) (k' := false) (dt_of (dt_cmp (de_callB (id := "len") (da_cons (de_var 3) da_nil) (c_lenL g) M.len (by decide +kernel)) de_int o_gt) rfl) (fun _ => dw_or1 (dt_of (k' := false) (dt_w (dw_and (k := neg L) (k' := decide (val a = 0)) (dt_of (dt_cmp (de_var 1) de_int o_lt) (neg_lt L)) (fun _ => dw_and1 (dt_cmp (de_ix (de_of (de_var 4) (congrArg D.lst ei)) de_int (i_lst (i := 0) g rfl)) de_int o_eqI)))) hz0))))) rfl)
          (dss_ifT (dt_of (k' := true) (dt_cmp (de_callB (id := "len") (da_cons (de_var 3) da_nil) (c_lenL g) M.len (by decide +kernel)) de_int o_eqI) rfl) (dss_ret (de_of (de_tup (dp_cons (de_bin (de_var 1) (de_ix (de_of (de_var 4) (congrArg D.lst ei)) de_int (i_lst (i := 0) g rfl)) (o_mul (.inl (sg_small L)))) (dp_cons de_int dp_nil))) (by unfold fracD; rw [e3, if_pos hz', sgn_mul]))) cr)), .rt⟩
    | [a, b], _ =>
      have h12 : canon a = true ∧ canon b = true := by simpa using hc
      have la : a.length ≤ 450 := hp a (by simp)
      have lb : b.length ≤ 450 := hp b (by simp)
      have hbb : Bd 1800 (val b) := val_bd (canon_ok h12.2) lb
      have e3 : lawR L = if ¬ (neg L = true ∧ val a = 0) ∧ ¬ (val b < 2) ∧ (nn (val a) (val b) = val a ∧ nu (val a) (val b) = val b) then some (sgnV L (val a), val b) else none := by
        unfold lawR
        rw [hq]
        simp only [h12.1, h12.2, and_self, true_and]
      cases hz0 : (neg L && decide (val a = 0)) with
      | true =>
        have hz' : neg L = true ∧ val a = 0 := by simpa using hz0
        exact ⟨_, st0 _ (dss_ifT (dt_of (k' := true) (dt_w (dw_or (k := false) (k' := true) (dt_of (dt_cmp de_non (de_var 4) (o_inNon (all_kind _) g)) (by rw [any_non', hc] <;> rfl)) (fun _ => dw_or (k := false) (k' := true) (dt_of (dt_cmp (de_callB (id := "len") (da_cons (de_var 3) da_nil) (c_lenL g) M.len (by decide +kernel)) de_int o_gt) rfl) (fun _ => dw_or1 (dt_of (k' := true) (dt_w (dw_and (k := neg L) (k' := decide (val a = 0)) (dt_of (dt_cmp (de_var 1) de_int o_lt) (neg_lt L)) (fun _ => dw_and1 (dt_cmp (de_ix (de_of (de_var 4) (congrArg D.lst ei)) de_int (i_lst (i := 0) g rfl)) de_int o_eqI)))) hz0))))) rfl) (dss_ret (de_of de_non (by unfold fracD; rw [e3, if_neg (fun z => z.1 hz')]))) cr), .rt⟩
      | false =>
        have hz' : ¬ (neg L = true ∧ val a = 0) := by rintro ⟨x, y⟩; rw [x, decide_eq_true y] at hz0; cases hz0
        by_cases h2 : val b < 2
        · exact ⟨_, st0 _ (dss_skip (dt_of (k' := false) (dt_w (dw_or (k := false) (k' := false) (dt_of (dt_cmp de_non (de_var 4) (o_inNon (all_kind _) g)) (by rw [any_non', hc] <;> rfl)) (fun _ => dw_or (k := false) (k' := false) (dt_of (dt_cmp (de_callB (id := "len") (da_cons (de_var 3) da_nil) (c_lenL g) M.len (by decide +kernel)) de_int o_gt) rfl) (fun _ => dw_or1 (dt_of (k' := false) (dt_w (dw_and (k := neg L) (k' := decide (val a = 0)) (dt_of (dt_cmp (de_var 1) de_int o_lt) (neg_lt L)) (fun _ => dw_and1 (dt_cmp (de_ix (de_of (de_var 4) (congrArg D.lst ei)) de_int (i_lst (i := 0) g rfl)) de_int o_eqI)))) hz0))))) rfl) (dss_skip (dt_of (k' := false) (dt_cmp (de_callB (id := "len") (da_cons (de_var 3) da_nil) (c_lenL g) M.len (by decide +kernel)) de_int o_eqI) rfl) (dss_ifT (dt_of (k' := true) (dt_w (dw_or (k := true) (k' := true) (dt_of (dt_cmp (de_ix (de_of (de_var 4) (congrArg D.lst ei)) de_int (i_lst (i := 1) g rfl)) de_int o_lt) (decide_eq_true h2)) (fun h => by cases h))) rfl) (dss_ret (de_of de_non (by unfold fracD; rw [e3, if_neg (fun z => z.2.1 h2)]))) cr))), .rt⟩
        · have hb0 : val b ≠ 0 := by omega
          cases hf : (decide (nn (val a) (val b) = val a) && decide (nu (val a) (val b) = val b)) with
          | false =>
            have hf' : ¬ (nn (val a) (val b) = val a ∧ nu (val a) (val b) = val b) := by rintro ⟨x, y⟩; rw [decide_eq_true x, decide_eq_true y] at hf; cases hf
            exact ⟨_, st0 _ (dss_skip (dt_of (k' := false) (dt_w (dw_or (k := false) (k' := false) (dt_of (dt_cmp de_non (de_var 4) (o_inNon (all_kind _) g)) (by rw [any_non', hc] <;> rfl)) (fun _ => dw_or (k := false) (k' := false) (dt_of (dt_cmp (de_callB (id := "len") (da_cons (de_var 3) da_nil) (c_lenL g) M.len (by decide +kernel)) de_int o_gt) rfl) (fun _ => dw_or1 (dt_of (k' := false) (dt_w (dw_and (k := neg L) (k' := decide (val a = 0)) (dt_of (dt_cmp (de_var 1) de_int o_lt) (neg_lt L)) (fun _ => dw_and1 (dt_cmp (de_ix (de_of (de_var 4) (congrArg D.lst ei)) de_int (i_lst (i := 0) g rfl)) de_int o_eqI)))) hz0))))) rfl) (dss_skip (dt_of (k' := false) (dt_cmp (de_callB (id := "len") (da_cons (de_var 3) da_nil) (c_lenL g) M.len (by decide +kernel)) de_int o_eqI) rfl) (dss_ifT (dt_of (k' := true) (dt_w (dw_or (k := false) (k' := true) (dt_of (dt_cmp (de_ix (de_of (de_var 4) (congrArg D.lst ei)) de_int (i_lst (i := 1) g rfl)) de_int o_lt) (decide_eq_false h2)) (fun _ => dw_or1 (dt_of (dt_cmp (de_call g cf (da_cons (de_ix (de_of (de_var 4) (congrArg D.lst ei)) de_int (i_lst (i := 0) g rfl)) (da_cons (de_ix (de_of (de_var 4) (congrArg D.lst ei)) de_int (i_lst (i := 1) g rfl)) da_nil)) ⟨val a, val b, hb0, hbb.mono (by decide), rfl, rfl, rfl⟩) (de_tup (dp_cons (de_ix (de_of (de_var 4) (congrArg D.lst ei)) de_int (i_lst (i := 0) g rfl)) (dp_cons (de_ix (de_of (de_var 4) (congrArg D.lst ei)) de_int (i_lst (i := 1) g rfl)) dp_nil))) (o_neD g (fr_pyd _ _) (fr_pyd _ _) (shaped_fr _ _) (shaped_fr _ _) (fr_eqv _ _ _ _))) (by rw [hf] <;> rfl))))) rfl) (dss_ret (de_of de_non (by unfold fracD; rw [e3, if_neg (fun z => hf' z.2.2)]))) cr))), .rt⟩
          | true =>
            have hf' : nn (val a) (val b) = val a ∧ nu (val a) (val b) = val b := by simpa using hf
            exact ⟨_, st0 _ (dss_skip (dt_of (k' := false) (dt_w (dw_or (k := false) (k' := false) (dt_of (dt_cmp de_non (de_var 4) (o_inNon (all_kind _) g)) (by rw [any_non', hc] <;> rfl)) (fun _ => dw_or (k := false) (k' := false) (dt_of (dt_cmp (de_callB (id := "len") (da_cons (de_var 3) da_nil) (c_lenL g) M.len (by decide +kernel)) de_int o_gt) rfl) (fun _ => dw_or1 (dt_of (k' := false) (dt_w (dw_and (k := neg L) (k' := decide (val a = 0)) (dt_of (dt_cmp (de_var 1) de_int o_lt) (neg_lt L)) (fun _ => dw_and1 (dt_cmp (de_ix (de_of (de_var 4) (congrArg D.lst ei)) de_int (i_lst (i := 0) g rfl)) de_int o_eqI)))) hz0))))) rfl) (dss_skip (dt_of (k' := false) (dt_cmp (de_callB (id := "len") (da_cons (de_var 3) da_nil) (c_lenL g) M.len (by decide +kernel)) de_int o_eqI) rfl) (dss_skip (dt_of (k' := false) (dt_w (dw_or (k := false) (k' := false) (dt_of (dt_cmp (de_ix (de_of (de_var 4) (congrArg D.lst ei)) de_int (i_lst (i := 1) g rfl)) de_int o_lt) (decide_eq_false h2)) (fun _ => dw_or1 (dt_of (dt_cmp (de_call g cf (da_cons (de_ix (de_of (de_var 4) (congrArg D.lst ei)) de_int (i_lst (i := 0) g rfl)) (da_cons (de_ix (de_of (de_var 4) (congrArg D.lst ei)) de_int (i_lst (i := 1) g rfl)) da_nil)) ⟨val a, val b, hb0, hbb.mono (by decide), rfl, rfl, rfl⟩) (de_tup (dp_cons (de_ix (de_of (de_var 4) (congrArg D.lst ei)) de_int (i_lst (i := 0) g rfl)) (dp_cons (de_ix (de_of (de_var 4) (congrArg D.lst ei)) de_int (i_lst (i := 1) g rfl)) dp_nil))) (o_neD g (fr_pyd _ _) (fr_pyd _ _) (shaped_fr _ _) (shaped_fr _ _) (fr_eqv _ _ _ _))) (by rw [hf] <;> rfl))))) rfl) (dss_ret (de_of (de_tup (dp_cons (de_bin (de_var 1) (de_ix (de_of (de_var 4) (congrArg D.lst ei)) de_int (i_lst (i := 0) g rfl)) (o_mul (.inl (sg_small L)))) (dp_cons (de_ix (de_of (de_var 4) (congrArg D.lst ei)) de_int (i_lst (i := 1) g rfl)) dp_nil))) (by unfold fracD; rw [e3, if_pos (And.intro hz' (And.intro h2 hf')), sgn_mul])))))), .rt⟩
    | a :: b :: c :: l, _ =>
      have e3 : lawR L = none := by unfold lawR; rw [hq]
      exact ⟨_, st0 _ (dss_ifT (dt_of (k' := true) (dt_w (dw_or (k := false) (k' := true) (dt_of (dt_cmp de_non (de_var 4) (o_inNon (all_kind _) g)) (by rw [any_non', hc] <;> rfl)) (fun _ => dw_or (k := true) (k' := true) (dt_of (dt_cmp (de_callB (id := "len") (da_cons (de_var 3) da_nil) (c_lenL g) M.len (by decide +kernel)) de_int o_gt) (by simp; omega)) (fun h => by cases h)))) rfl) (dss_ret (de_of de_non (by unfold fracD; rw [e3]))) cr), .rt⟩
end
end K3

set_option Elab.async false
set_option linter.all false
set_option maxRecDepth 100000
set_option maxHeartbeats 4000000
set_option autoImplicit false
namespace Dl
open PySem PySem.Spec PyProof.Rows L2
/-! ## what a changing thing has come to be is forgotten; loops whose states are not told; lists put together to a changing one -/
theorem Rc.forget {N : En} {F : Hp} {A : List Addr} {H : Hp} {μ : List M} (r : Rc N F A H μ) (j : Nat) : Rc N F A H (μ.set j .gone) where
  sub := r.sub
  base := r.base
  new := r.new
  keep := r.keep
  pre := r.pre
  nd := r.nd
  len := by rw [List.length_set]; exact r.len
  mus := fun i a m h1 h2 => by
    by_cases e : j = i
    · subst e
      have hl : j < μ.length := by
        have := (List.getElem?_eq_some_iff.mp h2).1
        rwa [List.length_set] at this
      rw [List.getElem?_set_self hl] at h2
      cases h2
      exact (r.mus j a _ h1 (List.getElem?_eq_getElem hl)).there
    · rw [List.getElem?_set_ne e] at h2
      exact r.mus i a m h1 h2
  fr := fun i a m h1 h2 h3 => by
    by_cases e : j = i
    · subst e
      have hl : j < μ.length := by
        have := (List.getElem?_eq_some_iff.mp h2).1
        rwa [List.length_set] at this
      rw [List.getElem?_set_self hl] at h2
      cases h2
      exact h3.elim
    · rw [List.getElem?_set_ne e] at h2
      exact r.fr i a m h1 h2 h3
section
variable {X : Cx} {N : En} {W : WX} {n : Nat} {δ : List (Option S)} {μ μ1 μ2 : List M}
theorem dss_forget {sts : List Stmt} {s : S} (j : Nat) (h : DSs X N W δ μ sts (.rt s μ1)) : DSs X N W δ μ sts (.rt s (μ1.set j .gone)) :=
  PSs.imp h fun K σ H ⟨F, A, R, k⟩ => ⟨F, A, R, fun v F' A' H' e p rc rv => k v F' A' H' e p (rc.forget j) rv⟩
theorem o_catN {ds es : List D} (hl : ds.length + es.length ≤ sizeLine) : OpOk X N W (binaryOp .Add) μ (.p (.lst ds)) (.p (.lst es)) (.v (.l μ.length)) (μ ++ [.lst (ds ++ es)]) :=
  ⟨_, op_cat, fun σ δ F A H x y Q R rx ry k => by
    obtain ⟨a, ws, rfl, h1, h2⟩ := rep_lst rx
    obtain ⟨b, us, rfl, h3, h4⟩ := rep_lst ry
    refine ⟨a, b, ws, us, rfl, rfl, R.rc.sub _ _ h1, R.rc.sub _ _ h3, by rw [h2.length, h4.length]; exact hl, fun p np => ?_⟩
    have r1 := R.rc.newM (m := .lst (ds ++ es)) np (o := .lst (ws ++ us)) ⟨ws ++ us, upd_same, h2.append h4⟩
    exact k (.ref p) F (A ++ [p]) _ (Same.refl _) (List.prefix_append _ _) (R.to (Same.refl _) (List.prefix_append _ _) r1) ⟨p, rfl, by rw [← R.rc.len]; exact List.getElem?_concat_length ..⟩⟩
theorem loop_ex {T : Type} {mu : T → List M} {f : As} {body : List Stmt} (Δ : List (Option S) → Prop) (I : Nat → T → Prop) : ∀ (ds : List D) (δ : List (Option S)) (t : T), (∀ d ∈ ds, ∀ m t δ, I (m + 1) t → Δ δ → ∃ δt δ1 t', f d δ = some δt ∧ DSs X N W δt (mu t) body (.nx δ1 (mu t')) ∧ Δ δ1 ∧ I m t') →
    I ds.length t → Δ δ → ∃ δ' t', Loop X N W f body ds δ (mu t) (.nx δ' (mu t')) ∧ Δ δ' ∧ I 0 t'
  | [], δ, t, _, hi, h0 => ⟨δ, t, .nil, h0, hi⟩
  | d :: ds, δ, t, h, hi, h0 => by
    obtain ⟨δt, δ1, t1, h1, h2, h3, h4⟩ := h d List.mem_cons_self ds.length t δ hi h0
    obtain ⟨δ', t', h5, h6, h7⟩ := loop_ex Δ I ds δ1 t1 (fun d hd => h d (List.mem_cons_of_mem _ hd)) h4 h3
    exact ⟨δ', t', .next h1 h2 h5, h6, h7⟩
end
end Dl

set_option Elab.async false
set_option linter.all false
set_option maxRecDepth 100000
set_option maxHeartbeats 4000000
set_option autoImplicit false
namespace K3
open PySem PySem.Spec PyProof.Rows L2 Dl PySem.NumText
/-! ### texts that both readings take -/
structure Good (L : List Nat) : Prop where
  parts : Parts L
  partsL : PartsL L
  chars : ∀ c ∈ L, c < 1000
theorem strip_len (L : List Nat) : (strip L).length ≤ L.length := by
  unfold strip
  split
  · simp
  · exact Nat.le_refl _
theorem spl_parts (r : List Nat) : ∀ p ∈ TL.spl [47] 0 [] r, p.length ≤ r.length := by
  rcases cut_cases r with h | ⟨a, b, e, ha⟩
  · rw [spl_no h]
    intro p hp
    rw [List.mem_singleton] at hp
    rw [hp]
    exact Nat.le_refl _
  · subst e
    rw [spl_yes ha]
    intro p hp
    rcases List.mem_cons.mp hp with rfl | hp
    · simp
    · have := spl_parts b p hp
      simp
      omega
termination_by r.length
decreasing_by subst e; simp; omega
theorem head_len (L : List Nat) : (headOf L).length ≤ (strip L).length := by
  unfold headOf
  rcases cut_cases (strip L) with h | ⟨a, b, e, ha⟩
  · rw [par_no h]
    exact Nat.le_refl _
  · rw [e, par_yes ha]
    simp
theorem tail_len (L : List Nat) : (tailOf L).length ≤ (strip L).length + 1 := by
  unfold tailOf
  rcases cut_cases (strip L) with h | ⟨a, b, e, ha⟩
  · rw [par_no h]
    simp
  · rw [e, par_yes ha]
    simp
    omega
theorem good_short {L : List Nat} (h : L.length ≤ 440) (hc : ∀ c ∈ L, c < 1000) : Good L := by
  have h1 := strip_len L
  have h2 := head_len L
  have h3 := tail_len L
  exact ⟨⟨by omega, by omega, by omega⟩, ⟨fun p hp => by have := spl_parts _ p hp; omega, by omega⟩, hc⟩
theorem good_two {L a b : List Nat} (e : strip L = a ++ 47 :: b) (ha : 47 ∉ a) (hb : 47 ∉ b) (la : a.length ≤ 450) (lb : b.length ≤ 440) (hl : L.length ≤ 900) (hc : ∀ c ∈ L, c < 1000) : Good L := by
  refine ⟨⟨?_, ?_, hl⟩, ⟨?_, hl⟩, hc⟩
  · unfold headOf
    rw [e, par_yes ha]
    exact la
  · unfold tailOf
    rw [e, par_yes ha]
    show b.length ≤ 450
    omega
  · rw [e, spl_yes ha, spl_no hb]
    intro p hp
    simp only [List.mem_cons, List.not_mem_nil, or_false] at hp
    rcases hp with rfl | rfl
    · exact la
    · omega
theorem read_bd {L : List Nat} (h : Parts L) {a b : Int} (e : lawR L = some (a, b)) : Bd 1919 a ∧ Bd 1919 b := by
  cases hk : okR L with
  | false => rw [read_not hk] at e; cases e
  | true =>
    rw [read_yes hk] at e
    split at e
    · injection e with e
      injection e with e1 e2
      have hkk := hk
      unfold okR at hkk
      obtain ⟨h12, h3⟩ := Bool.and_eq_true_iff.mp hkk
      obtain ⟨h1, h2⟩ := Bool.and_eq_true_iff.mp h12
      have h3 : ¬ val (tailOf L) = 0 := by simpa using h3
      have b1 : Bd 1800 (sgnV L (val (headOf L))) := by
        have := val_bd h1 h.1
        unfold Bd at *
        rw [sgn_abs]
        exact this
      subst e1 e2
      exact ⟨(nn_bd h3 b1).mono (by decide), (nu_bd h3 (val_bd h2 h.2.1)).mono (by decide)⟩
    · cases e
/-! ### an own text reads as what it was made of -/
theorem txt_read {a b : Int} (h : Low a b) : lawR (txt a b) = some (a, b) := by
  have hb := h.pos
  obtain ⟨n, hn⟩ : ∃ n : Nat, b = (n : Int) := Int.eq_ofNat_of_zero_le (by omega)
  have db := decI_ok n
  rw [← hn] at db
  -- the text without its sign
  have key : ∀ m : Nat, a.natAbs = m → ∀ w : List Nat, strip w = txt (m : Int) b → (neg w = true ↔ a < 0) → lawR w = some (a, b) := fun m hm w hs hg => by
    have dm := decI_ok m
    have hsg : sgnV w ((m : Nat) : Int) = a := by
      unfold sgnV
      split
      · rename_i k; have := hg.mp k; omega
      · rename_i k; have : ¬ a < 0 := fun z => k (hg.mpr z); omega
    have hz : ¬ (neg w = true ∧ ((m : Nat) : Int) = 0) := fun ⟨k1, k2⟩ => by have := hg.mp k1; omega
    unfold lawR
    rw [hs]
    unfold txt
    by_cases h1 : b = 1
    · rw [if_pos h1, spl_no (decI_nobar _)]
      simp only
      rw [dm.2.1, if_pos ⟨dm.2.2, hz⟩, hsg, h1]
    · rw [if_neg h1, spl_yes (decI_nobar _), spl_no (decI_nobar _)]
      simp only
      rw [dm.2.1, db.2.1]
      have lm : Low (m : Int) b := ⟨hb, by rw [Int.natAbs_natCast, ← hm]; exact h.one⟩
      rw [if_pos ⟨⟨dm.2.2, db.2.2⟩, hz, by omega, lm.nn, lm.nu⟩, hsg]
  by_cases ha : a < 0
  · obtain ⟨m, hm⟩ : ∃ m : Nat, -a = (m : Int) := Int.eq_ofNat_of_zero_le (by omega)
    have ea : a = -(m : Int) := by omega
    have et : txt a b = 45 :: txt (m : Int) b := by
      unfold txt
      split
      · rw [ea, decI_neg m (by omega)]
      · rw [ea, decI_neg m (by omega)]
        rfl
    have hneg : neg (txt a b) = true := by rw [et]; rfl
    exact key m (by omega) _ (by rw [et]; rfl) ⟨fun _ => ha, fun _ => hneg⟩
  · obtain ⟨m, hm⟩ : ∃ m : Nat, a = (m : Int) := Int.eq_ofNat_of_zero_le (by omega)
    have dm := decI_ok m
    have hd : ∃ c r, txt (m : Int) b = c :: r ∧ c ≠ 45 := by
      obtain ⟨h0, h1⟩ := okW_iff.mp dm.1
      unfold txt
      generalize decI (m : Int) = x at h0 h1
      cases x with
      | nil => exact absurd rfl h0
      | cons c r =>
        have hc := h1.head
        split
        · exact ⟨c, r, rfl, by omega⟩
        · exact ⟨c, _, rfl, by omega⟩
    obtain ⟨c, r, e, hc⟩ := hd
    have hneg : neg (txt (m : Int) b) = false := by
      rw [e]
      unfold neg
      simp [hc]
    rw [hm]
    rw [hm] at ha
    refine key m (by omega) _ (not_neg hneg) ⟨fun z => ?_, fun z => absurd z ?_⟩ |>.trans (by rw [hm])
    · rw [hneg] at z; cases z
    · omega
/-! ### short texts of ints -/
theorem decI_short {m k : Nat} (hk : 1 ≤ k) (h : m < 10 ^ k) : (decI (m : Int)).length ≤ k := by
  rw [decI_nat, List.length_map]
  exact digits10_le hk h
theorem decI_short' {i : Int} {k : Nat} (hk : 1 ≤ k) (h : i.natAbs < 10 ^ k) : (decI i).length ≤ k + 1 := by
  rcases Int.le_total 0 i with h0 | h0
  · obtain ⟨m, rfl⟩ := Int.eq_ofNat_of_zero_le h0
    have := decI_short hk (m := m) (by simpa using h)
    omega
  · by_cases hz : i = 0
    · subst hz
      have : (decI 0).length = 1 := by decide +kernel
      omega
    · obtain ⟨m, hm⟩ : ∃ m : Nat, -i = (m : Int) := Int.eq_ofNat_of_zero_le (by omega)
      have ei : i = -(m : Int) := by omega
      rw [ei, decI_neg m (by omega), List.length_cons]
      have := decI_short hk (m := m) (by rw [ei] at h; simpa using h)
      omega
theorem decI_chars {i : Int} : ∀ c ∈ decI i, c < 1000 := by
  have nat : ∀ m : Nat, ∀ c ∈ decI (m : Int), c < 1000 := fun m c hc => by
    have := (okW_iff.mp (decI_ok m).1).2 c hc
    omega
  rcases Int.le_total 0 i with h0 | h0
  · obtain ⟨m, rfl⟩ := Int.eq_ofNat_of_zero_le h0
    exact nat m
  · by_cases hz : i = 0
    · subst hz
      exact nat 0
    · obtain ⟨m, hm⟩ : ∃ m : Nat, -i = (m : Int) := Int.eq_ofNat_of_zero_le (by omega)
      have ei : i = -(m : Int) := by omega
      rw [ei, decI_neg m (by omega)]
      intro c hc
      rcases List.mem_cons.mp hc with rfl | hc
      · decide
      · exact nat m c hc
theorem txt_chars {a b : Int} : ∀ c ∈ txt a b, c < 1000 := by
  unfold txt
  split
  · exact decI_chars
  · intro c hc
    simp only [List.mem_append, List.mem_cons] at hc
    rcases hc with hc | rfl | hc
    · exact decI_chars c hc
    · decide
    · exact decI_chars c hc
theorem txt_len {a b : Int} (ha : a.natAbs < 10 ^ 8) (hb : b.natAbs < 10 ^ 8) : (txt a b).length ≤ 20 := by
  have h1 := decI_short' (by decide) ha
  have h2 := decI_short' (by decide) hb
  unfold txt
  split
  · omega
  · simp
    omega
/-! ### great ones -/
structure Gr (G : List Nat) : Prop where
  ok : okW G = true
  len : G.length ≤ 390
theorem Gr.chars {G : List Nat} (h : Gr G) : ∀ c ∈ G, c < 1000 := fun c hc => by
  have := (okW_iff.mp h.ok).2 c hc
  omega
theorem Gr.nobar {G : List Nat} (h : Gr G) : 47 ∉ G := okW_no h.ok (by decide)
theorem Gr.strip {G r : List Nat} (h : Gr G) : K3.strip (G ++ r) = G ++ r := by
  obtain ⟨h0, h1⟩ := okW_iff.mp h.ok
  cases G with
  | nil => exact absurd rfl h0
  | cons c g =>
    have hc := h1.head
    unfold K3.strip
    rw [if_neg]
    simp
    omega
theorem app_chars {a b : List Nat} (ha : ∀ c ∈ a, c < 1000) (hb : ∀ c ∈ b, c < 1000) : ∀ c ∈ a ++ b, c < 1000 := fun c hc => (List.mem_append.mp hc).elim (ha c) (hb c)
def greats (G : List Nat) : List (List Nat) := [G, 45 :: G, 49 :: 47 :: G, (45 :: G) ++ (47 :: (G ++ [49])), G ++ [48, 47, 51], 48 :: G, G ++ 47 :: G]
theorem greats_good {G : List Nat} (h : Gr G) : ∀ L ∈ greats G, Good L := by
  have hl := h.len
  have hc := h.chars
  have one : ∀ x : Nat, x < 1000 → ∀ c ∈ [x], c < 1000 := fun x hx c hm => by rw [List.mem_singleton] at hm; omega
  have cons : ∀ (x : Nat) (l : List Nat), x < 1000 → (∀ c ∈ l, c < 1000) → ∀ c ∈ x :: l, c < 1000 := fun x l hx hl c hm => by
    rcases List.mem_cons.mp hm with rfl | hm
    · exact hx
    · exact hl c hm
  intro L hL
  simp only [greats, List.mem_cons, List.not_mem_nil, or_false] at hL
  rcases hL with rfl | rfl | rfl | rfl | rfl | rfl | rfl
  · exact good_short (by omega) hc
  · exact good_short (by simp; omega) (cons _ _ (by decide) hc)
  · exact good_short (by simp; omega) (cons _ _ (by decide) (cons _ _ (by decide) hc))
  · refine good_two (a := G) (b := G ++ [49]) rfl h.nobar ?_ (by omega) (by simp; omega) (by simp; omega) (app_chars (cons _ _ (by decide) hc) (cons _ _ (by decide) (app_chars hc (one _ (by decide)))))
    simp [h.nobar]
  · exact good_short (by simp; omega) (app_chars hc (cons _ _ (by decide) (cons _ _ (by decide) (one _ (by decide)))))
  · exact good_short (by simp; omega) (cons _ _ (by decide) hc)
  · exact good_two (a := G) (b := G) h.strip h.nobar h.nobar (by omega) (by omega) (by simp; omega) (app_chars hc (cons _ _ (by decide) hc))
theorem nines (k : Nat) (hk : k = 40 ∨ k = 390) (t : Int) (h0 : 0 ≤ t) (h1 : t < 1000) : Gr (decI (val (List.replicate k 57) - t)) ∧ Bd 1800 (val (List.replicate k 57) - t) := by
  have hb : 1000 ≤ val (List.replicate k 57) ∧ val (List.replicate k 57) < 10 ^ k := by
    rcases hk with rfl | rfl
    · exact ⟨by decide +kernel, by decide +kernel⟩
    · exact ⟨by decide +kernel, by decide +kernel⟩
  obtain ⟨m, hm⟩ : ∃ m : Nat, val (List.replicate k 57) - t = (m : Int) := Int.eq_ofNat_of_zero_le (by omega)
  rw [hm]
  have hk1 : 1 ≤ k := by omega
  have hlt : m < 10 ^ k := by
    have : (m : Int) < ((10 ^ k : Nat) : Int) := by
      rw [← hm]
      push_cast
      omega
    exact Int.ofNat_lt.mp this
  have hl := decI_short hk1 hlt
  refine ⟨⟨(decI_ok m).1, by omega⟩, ?_⟩
  unfold Bd
  rw [Int.natAbs_natCast]
  refine Nat.lt_of_lt_of_le hlt (Nat.le_trans (Nat.pow_le_pow_right (by decide) (show k ≤ 390 by omega)) ?_)
  decide +kernel
end K3

set_option Elab.async false
set_option linter.all false
set_option maxRecDepth 100000
set_option maxHeartbeats 4000000
set_option autoImplicit false
namespace K3
open PySem PySem.Spec PyProof.Rows L2 Dl PySem.NumText
def asgE : List Stmt → Expr
  | .Assign _ e _ :: _ => e
  | _ => .Name "x" ⟨0, 0, 0, 0⟩
def q0 : Str := "_law_right" ++ ".<locals>." ++ "<lambda>"
theorem scR : FnScope ["pot", "texts", "lap", "one", "text", "size", "great", "value", "due", "caught", "part"] ["pot"] (defScope sR) := ⟨rfl, rfl, rfl, by decide +kernel, rfl, by decide +kernel, by decide +kernel⟩
theorem scLaw : FnScope ["script", "place"] ["script"] (defScope sLaw) := ⟨rfl, rfl, rfl, by decide +kernel, rfl, by decide +kernel, by decide +kernel⟩
def bodyAt (s : Stmt) (i : Nat) : List Stmt := match (defBody s).getD i (.Pass ⟨0, 0, 0, 0⟩) with
  | .For _ _ b _ _ => b
  | _ => []

def rR (PT : Addr) (q : Str) : Rel := fun ss μ r μ' => ∃ (j : Nat) (p : Pot), p.ok 0 ∧ ss = [.l j] ∧ μ[j]? = some p.m ∧ μ[0]? = some (.tab PT q) ∧ r = .v (.p (.bl true)) ∧ μ' = μ.set j .gone
def TX (d : D) : Prop := ∃ L, Good L ∧ d = .str (st L)
def goodB : D → Bool
  | .str z => decide (z.cps.size ≤ 440) && z.cps.toList.all fun c => decide (c < 1000)
  | _ => false
theorem tx_of {d : D} (h : goodB d = true) : TX d := by
  cases d with
  | str z =>
    simp only [goodB, Bool.and_eq_true, decide_eq_true_eq, List.all_eq_true] at h
    exact ⟨z.cps.toList, good_short (by simpa using h.1) h.2, congrArg D.str (Str.ext' (by simp [Dl.st]))⟩
  | _ => cases h
theorem tx_all {l : List D} (h : l.all goodB = true) : ∀ d ∈ l, TX d := by
  rw [List.all_eq_true] at h
  exact fun d hd => tx_of (h d hd)
def txs0 : List D := [.str "", .str "0", .str "-0", .str "1/1", .str "2/4", .str "1/0", .str "0/3", .str "+1", .str "01", .str "1/02", .str "--1", .str "1/-2", .str " 1", .str "1/2/3", .str "/2"]
def txs1 : List D := [.str "1/", .str "-"]
theorem txs_good : ∀ d ∈ txs0 ++ txs1, TX d := tx_all (by decide +kernel)
def numsL : List Int := [0, 1, -1, 2, -3, 10, 12, -30, 999999]
def densL : List Int := [1, 2, 3, 4, 10, 12, 35]
def numF (p : Pot) : Int := numsL.getD (takeF p 9).1.toNat 0
def denF (p : Pot) : Int := densL.getD (takeF p 7).1.toNat 1
theorem num_bd (p : Pot) : Bd 20 (numF p) := getD_all (by unfold Bd numsL; decide) (by unfold Bd; decide)
theorem den_bd (p : Pot) : Bd 20 (denF p) ∧ denF p ≠ 0 := getD_all (q := fun x => Bd 20 x ∧ x ≠ 0) (by unfold Bd densL; decide) (by unfold Bd; decide)
theorem str_shN {L : List Nat} (h : L.length ≤ 1000) (hc : ∀ c ∈ L, c < 1000) : ShN (.str (st L)) := by
  have e1 : (PyData.str (st L)).leavesShort 20 = true := by
    simp only [PyData.leavesShort, Dl.st, List.all_eq_true, decide_eq_true_eq]
    intro c hcm
    have := hc c (by simpa using hcm)
    have e : (16 : Nat) ^ 8 = 4294967296 := by decide
    omega
  have e2 : (PyData.str (st L)).weight ≤ 2000 := by
    simp only [PyData.weight, Dl.st]
    simp
    omega
  refine ⟨rfl, by simp [pyN, PyData.showable], by simp [pyN, PyData.depth], ?_⟩
  have := PyData.shown_le 20 (by decide) _ e1
  show (PyData.str (st L)).shown.length ≤ sizeLine
  have e : sizeLine = 16777216 := by decide
  omega
theorem fr_showN {a b : Int} (ha : Bd 1919 a) (hb : Bd 1919 b) : ShN (fr a b) := by
  have h1 := bd_log ha
  have h2 := bd_log hb
  have l1 := PyProof.Rows.int_text_len_1921 h1
  have l2 := PyProof.Rows.int_text_len_1921 h2
  refine ⟨by simp [isPyN, arePyN], ?_, ?_, ?_⟩
  · simp only [pyN, pyNs, PyData.showable, PyData.showableAll]
    simp [h1, h2]
  · simp only [pyN, pyNs, PyData.depth, PyData.depthAll]
    decide
  · simp only [pyN, pyNs, PyData.shown]
    simp only [PyData.shownAll, PyData.shown]
    exact two_text _ _ l1 l2
/-- values of any kind that are tried -/
def GV (K : PySem.W.Frag) (C : Addr) (d : D) : Prop := TX d ∨ (NoS K d ∧ (ShN d ∨ d = rt C 1 1))
structure TS (K : PySem.W.Frag) (C : Addr) : Prop where
  non : PySem.W.kitOne K (.type "NoneType") (.type "str") = some false
  bl : PySem.W.kitOne K (.type "bool") (.type "str") = some false
  int : PySem.W.kitOne K (.type "int") (.type "str") = some false
  tup : PySem.W.kitOne K (.type "tuple") (.type "str") = some false
  lst : PySem.W.kitOne K (.type "list") (.type "str") = some false
  dic : PySem.W.kitOne K (.type "dict") (.type "str") = some false
  rat : PySem.W.kitOne K (.ref C) (.type "str") = some false
def kindB : D → Bool
  | .non | .bl _ | .int _ | .tup _ | .lst _ | .dic _ _ => true
  | _ => false
theorem noS_of {K : PySem.W.Frag} {C : Addr} (Z : TS K C) {d : D} (h : kindB d = true) : NoS K d := by
  cases d with
  | non => exact ⟨_, .non, Z.non⟩
  | bl b => exact ⟨_, .bl b, Z.bl⟩
  | int i => exact ⟨_, .int i, Z.int⟩
  | tup ds => exact ⟨_, .tup ds, Z.tup⟩
  | lst ds => exact ⟨_, .lst ds, Z.lst⟩
  | dic ks ds => exact ⟨_, .dic ks ds, Z.dic⟩
  | _ => cases h
theorem gv_of {K : PySem.W.Frag} {C : Addr} (Z : TS K C) {d : D} (h : (goodB d || (kindB d && shNB d)) = true) : GV K C d := by
  rcases Bool.or_eq_true_iff.mp h with h | h
  · exact .inl (tx_of h)
  · obtain ⟨h1, h2⟩ := Bool.and_eq_true_iff.mp h
    exact .inr ⟨noS_of Z h1, .inl (shN_of h2)⟩
theorem odds_gv {K : PySem.W.Frag} {C : Addr} (Z : TS K C) (p : Pot) : GV K C (oddF p) := by
  have h : ∀ d ∈ oddsL, (goodB d || (kindB d && shNB d)) = true := by
    have : (oddsL.all fun d => goodB d || (kindB d && shNB d)) = true := by decide +kernel
    rwa [List.all_eq_true] at this
  have hm : oddF p ∈ oddsL := by
    unfold oddF
    by_cases h : (takeF p 29).1.toNat < oddsL.length
    · rw [List.getD_eq_getElem?_getD, List.getElem?_eq_getElem h]
      exact List.getElem_mem h
    · rw [List.getD_eq_getElem?_getD, List.getElem?_eq_none (by omega)]
      exact List.mem_cons_self
  exact gv_of Z (h _ hm)
def lastL (C : Addr) (o : D) : List D := [.non, .int 0, .bl true, .int 1, .tup [], .lst [.str "1"], .tup [.str "1", .str "2"], rt C 1 1, o]
theorem last_gv {K : PySem.W.Frag} {C : Addr} (Z : TS K C) (T : ClsI K C) {o : D} (ho : GV K C o) : ∀ d ∈ lastL C o, GV K C d := by
  intro d hd
  simp only [lastL, List.mem_cons, List.not_mem_nil, or_false] at hd
  rcases hd with rfl | rfl | rfl | rfl | rfl | rfl | rfl | rfl | rfl
  · exact gv_of Z (by decide +kernel)
  · exact gv_of Z (by decide +kernel)
  · exact gv_of Z (by decide +kernel)
  · exact gv_of Z (by decide +kernel)
  · exact gv_of Z (by decide +kernel)
  · exact gv_of Z (by decide +kernel)
  · exact gv_of Z (by decide +kernel)
  · exact .inr ⟨⟨_, .ins _ _ _ T, Z.rat⟩, .inr rfl⟩
  · exact ho
theorem sg11_lt {i : Nat} : sg11.getD i 48 < 1000 := by
  by_cases h : i < 9
  · have : ∀ i < 9, sg11.getD i 48 < 1000 := by decide
    exact this i h
  · rw [List.getD_eq_getElem?_getD, List.getElem?_eq_none (by show 9 ≤ i; omega)]
    decide
theorem sp_chars {L : List Nat} {p : Pot} (h : ∀ c ∈ L, c < 1000) : ∀ c ∈ spL L p, c < 1000 := by
  have hs : spC L.length p < 1000 := sg11_lt
  have ht : ∀ c ∈ L.take (spA L.length p), c < 1000 := fun c hc => h c (List.mem_of_mem_take hc)
  have hd : ∀ n, ∀ c ∈ L.drop n, c < 1000 := fun n c hc => h c (List.mem_of_mem_drop hc)
  have one : ∀ c ∈ [spC L.length p], c < 1000 := fun c hc => by rw [List.mem_singleton] at hc; rw [hc]; exact hs
  unfold spL
  split
  · exact app_chars (app_chars ht one) (hd _)
  · split
    · exact app_chars ht (hd _)
    · exact app_chars (app_chars ht one) (hd _)
theorem spP_ok {n m : Nat} {p : Pot} (h : p.ok n) : (spP m p).ok (n + 3) := takeF_ok (takeF_ok (takeF_ok h))
structure VR (P : Program) (w : World) (K : PySem.W.Frag) (mg : Str → Option Value) (base : Heap) (C CT CK : Addr) : Prop where
  T : TR K mg C
  M : TL3 mg
  Z : TS K C
  repr : mg "repr" = none
  range : mg "range" = none
  ks : ∃ mm, base.Ns sysModules mm
  xt : XC K CT
  gT : mg "BadText" = some (.ref CT)
  eT : PySem.W.exmOne K (.ref CT) (.ref CK) = some true
  nf : PySem.W.notFirst K C (.ref C) = true
  ne : NeOk K C
  eq : Cm P w K mg base 1 C "__eq__" [] (rEq C)
  rep : Cm P w K mg base 1 C "__repr__" [] (rRepr C)
  mkR1 : Ci P w K mg base 2 C "Ratio" [.int 1] (rInit C)
  txt : Cp P w K mg base 1 C "text" (rTxt C)
  oft : Cs P w K mg base 4 C "of" (rOfT K C CT)
  take : Cf P w K mg base 1 "_law_take" [] rTake
  of : Cf P w K mg base 2 "_law_of" [] rOf
  fr : Cf P w K mg base 2 "_law_fr" [] rFr
  rat : Cf P w K mg base 4 "_law_ratio" [] (rRatio C)
  frT : Cf P w K mg base 1 "_law_fr_text" [] rFrT
  frac : Cf P w K mg base 3 "_law_fraction_in" [] rFrac
  spo : Cf P w K mg base 3 "_law_spoilt" [] rSp
  odd : Cf P w K mg base 3 "_law_odd" [] rOdd
  heard : Cl P w K mg base false 6 5 "_law_heard" (rHear K CK)
theorem kit_same {K : PySem.W.Frag} {t : Value} : PySem.W.kitOne K t t = some true := by
  unfold PySem.W.kitOne
  rw [if_pos (by simp)]
theorem kit_tt {K : PySem.W.Frag} {C : Addr} : True := trivial
abbrev Tt := Pot × List D
def muT (μ : List M) (j : Nat) (s : Tt) : List M := (μ.set j s.1.m) ++ [.lst s.2]
section
variable {X : Cx} {N : En} {W : WX} {n : Nat} {δ : List (Option S)} {μ μ1 μ2 : List M} {e e2 : Expr} {pos : Pos} {stm : Stmt}
theorem de_cat {a b c : List Nat} (h1 : DE X N W δ μ e (.v (.p (.str (st a)))) μ1) (h2 : DE X N W δ μ1 e2 (.v (.p (.str (st b)))) μ2) (hl : a.length + b.length ≤ 100000) (q : a ++ b = c) : DE X N W δ μ (.BinOp e .Add e2 pos) (.v (.p (.str (st c)))) μ2 := by
  subst q
  exact de_of (de_bin h1 h2 (o_addS (by rw [st_len, st_len]; exact size9 hl))) (congrArg D.str (st_app _ _))
theorem ds_to {δ' : List (Option S)} (h : DS X N W δ μ stm (.nx δ' μ1)) (q : μ1 = μ2) : DS X N W δ μ stm (.nx δ' μ2) := q ▸ h
end
theorem set_same {α : Type} {l : List α} {j : Nat} {x : α} (h : l[j]? = some x) : l.set j x = l := by
  obtain ⟨hl, e⟩ := List.getElem?_eq_some_iff.mp h
  subst e
  exact List.set_getElem_self hl
section
variable {X : Cx} {N : En} {W : WX} {μ : List M} {f : As} {body : List Stmt}
theorem loop_ds (Δ : List (Option S) → Prop) : ∀ (ds : List D) (δ : List (Option S)), (∀ d ∈ ds, ∀ δ, Δ δ → ∃ δt δ1, f d δ = some δt ∧ DSs X N W δt μ body (.nx δ1 μ) ∧ Δ δ1) → Δ δ → ∃ δ', Loop X N W f body ds δ μ (.nx δ' μ) ∧ Δ δ'
  | [], δ, _, h0 => ⟨δ, .nil, h0⟩
  | a :: l, δ, h, h0 => by
    obtain ⟨δt, δ1, h2, h3, h4⟩ := h a List.mem_cons_self δ h0
    obtain ⟨δ', h5, h6⟩ := loop_ds Δ l δ1 (fun b hb => h b (List.mem_cons_of_mem _ hb)) h4
    exact ⟨δ', .next h2 h3 h5, h6⟩
end
/-- pots and texts between the statements -/
structure It (B n : Nat) (s : Tt) : Prop where
  pot : s.1.ok B
  tx : ∀ d ∈ s.2, TX d
  len : s.2.length ≤ n
theorem tx_app {l m : List D} (h1 : ∀ d ∈ l, TX d) (h2 : ∀ d ∈ m, TX d) : ∀ d ∈ l ++ m, TX d := fun d hd => (List.mem_append.mp hd).elim (h1 d) (h2 d)
section
variable {P : Program} {w : World} {K : PySem.W.Frag} {mg : Str → Option Value} {base : Heap} {f C CB CT CK : Addr}
abbrev lX (C' : Rx) : Lr := fun μ r μ' => r = C' ∧ μ' = μ
def Del (j k : Nat) (δ : List (Option S)) : Prop := ∃ x2 x3 x4 x5 x6 x7 x8 x9 x10, δ = [some (.l j), some (.l k), x2, x3, x4, x5, x6, x7, x8, x9, x10]
theorem ok_right {cA PT : Addr} {oc kV doc pmv ct : Value} {od an : Option Addr} {osl : Array (Option Value)} (lk : K.lookup f = some ⟨oc, od, .func (PySem.W.fnOf "_law_right" "_law_right" (defArgs sR) (defBody sR) (defScope sR) .none kV doc pmv an (.ref cA) ct), osl⟩) (hcd : PySem.W.codeIn K (.ref cA) "_law_right" = true)
    (TB : LamX.TabB base mg cA PT) (R : VR P w K mg base C CT CK) : FnG P w K mg base (L2.CX P w) 7 f (PySem.W.fnOf "_law_right" "_law_right" (defArgs sR) (defBody sR) (defScope sR) .none kV doc pmv an (.ref cA) ct) ["pot"] (spD K (rR PT q0)) := by
  refine fn_Gc (k := 6) lk hcd scR (fun ss μ r μ' h => by obtain ⟨j, p, _, rfl, _⟩ := h; rfl) ?_
  intro A0 outer s0 H E N W ss μ r μ' g gd hA hR
  obtain ⟨j, p0, hp, rfl, hj, hT, rfl, rfl⟩ := hR
  have hjl : j < μ.length := (List.getElem?_eq_some_iff.mp hj).1
  have hj0 : j ≠ 0 := fun z => by
    subst z
    rw [hT] at hj
    cases hj
  have gJ : ∀ s : Tt, (muT μ j s)[j]? = some s.1.m := fun s => by
    unfold muT
    rw [List.getElem?_append_left (by rw [List.length_set]; exact hjl), List.getElem?_set_self hjl]
  have gK : ∀ s : Tt, (muT μ j s)[μ.length]? = some (.lst s.2) := fun s => by
    unfold muT
    rw [List.getElem?_append_right (by rw [List.length_set]; exact Nat.le_refl _), List.length_set, Nat.sub_self]
    rfl
  have sJ : ∀ (s : Tt) (q : Pot), (muT μ j s).set j q.m = muT μ j (q, s.2) := fun s q => by
    unfold muT
    rw [List.set_append_left _ _ (by rw [List.length_set]; exact hjl), List.set_set]
  have sK : ∀ (s : Tt) (us : List D), (muT μ j s).set μ.length (.lst us) = muT μ j (s.1, us) := fun s us => by
    unfold muT
    rw [List.set_append_right _ _ (by rw [List.length_set]; exact Nat.le_refl _), List.length_set, Nat.sub_self]
    rfl
  have gT : ∀ s : Tt, (muT μ j s)[0]? = some (.tab PT (lamQ (cxOf (L2.CX P w) P w K mg base ["pot", "texts", "lap", "one", "text", "size", "great", "value", "due", "caught", "part"] "_law_right" (defScope sR) f (.ref cA) A0 outer s0 H E))) := fun s => by
    unfold muT
    rw [List.getElem?_append_left (by rw [List.length_set]; omega), List.getElem?_set_ne hj0]
    exact hT
  -- the laps
  have loop1 : ∀ δ s, It 0 17 s → Del j μ.length δ → ∃ δ' s', Loop (cxOf (L2.CX P w) P w K mg base ["pot", "texts", "lap", "one", "text", "size", "great", "value", "due", "caught", "part"] "_law_right" (defScope sR) f (.ref cA) A0 outer s0 H E) N W (asName 2) (bodyAt sR 2) (rangeD 0 10) δ (muT μ j s) (.nx δ' (muT μ j s')) ∧ Del j μ.length δ' ∧ It 110 37 s' := fun δ s hs hd => by
    obtain ⟨δ', s', h1, h2, h3⟩ := loop_ex (X := (cxOf (L2.CX P w) P w K mg base ["pot", "texts", "lap", "one", "text", "size", "great", "value", "due", "caught", "part"] "_law_right" (defScope sR) f (.ref cA) A0 outer s0 H E)) (N := N) (W := W) (mu := muT μ j) (f := asName 2) (body := bodyAt sR 2) (Del j μ.length) (fun m t => It (110 - 11 * m) (37 - 2 * m) t ∧ m ≤ 10) (rangeD 0 10) δ s (fun d hdm m t δ hI ⟨x2, x3, x4, x5, x6, x7, x8, x9, x10, e0⟩ => by
      subst e0
      obtain ⟨⟨ok, tx, len⟩, hm⟩ := hI
      obtain ⟨p, ts⟩ := t
      obtain ⟨n0, hn0⟩ : ∃ n0, n0 = 110 - 11 * (m + 1) := ⟨_, rfl⟩
      have ok : p.ok n0 := Pot.ok.mono ok (by omega)
      have lenm : ts.length ≤ 37 - 2 * (m + 1) := len
      have len : ts.length ≤ 37 := by omega
      have o1 : (takeF p 9).2.ok (n0 + 1) := takeF_ok ok
      have o2 : (takeF (takeF p 9).2 7).2.ok (n0 + 2) := takeF_ok o1
      have hden := den_bd (takeF p 9).2
      have hnum := num_bd p
      have low := low_of (n := numF p) hden.2
      have ba20 : Bd 20 (nn (numF p) (denF (takeF p 9).2)) := nn_bd hden.2 hnum
      have bb20 : Bd 20 (nu (numF p) (denF (takeF p 9).2)) := nu_bd hden.2 hden.1
      have h1 := takeF_lt (p := p) (u := 9) (by decide)
      have h2 := takeF_lt (p := (takeF p 9).2) (u := 7) (by decide)
      have d1 : atI (numsL.map D.int) (takeF p ((numsL.map D.int).length)).1 = some (.int (numF p)) := atF 0 h1.1 h1.2
      have d2 : atI (densL.map D.int) (takeF (takeF p 9).2 ((densL.map D.int).length)).1 = some (.int (denF (takeF p 9).2)) := atF 1 h2.1 h2.2
      have ea : nn (numF p) (denF (takeF p 9).2) = nn (numF p) (denF (takeF p 9).2) := rfl
      generalize hA' : nn (numF p) (denF (takeF p 9).2) = a at low ba20 bb20
      generalize hB' : nu (numF p) (denF (takeF p 9).2) = b at low ba20 bb20
      generalize hq : (takeF (takeF p 9).2 7).2 = q2 at o2
      have ba : Bd 1919 a := ba20.mono (by decide)
      have bb : Bd 1919 b := bb20.mono (by decide)
      have b4 : Bd 4000 b := bb20.mono (by decide)
      have lt : (txt a b).length ≤ 20 := txt_len (by unfold Bd at ba20; omega) (by unfold Bd at bb20; omega)
      have ct : ∀ c ∈ txt a b, c < 1000 := txt_chars
      have gd0 : Good (txt a b) := good_short (by omega) ct
      have shL : ShN (.str (st (txt a b))) := str_shN (by omega) ct
      have rd := txt_read low
      generalize hL : txt a b = L at lt ct gd0 shL rd
      have e1 := spL_len L q2
      have k3 : (spP L.length q2).ok (n0 + 5) := spP_ok o2
      have k4 : (spP L.length (spP L.length q2)).ok (n0 + 8) := spP_ok k3
      have e2 := spL_len L (spP L.length q2)
      have c2 := sp_chars (p := spP L.length q2) ct
      have c1 := sp_chars (p := q2) ct
      generalize hL2 : spL L (spP L.length q2) = Lb at e2 c2
      generalize hq4 : spP L.length (spP L.length q2) = q4 at k4
      have k5 : (spP Lb.length q4).ok (n0 + 11) := spP_ok k4
      have e3 := spL_len Lb q4
      have c3 := sp_chars (p := q4) c2
      have gd1 : Good (spL L q2) := good_short (by omega) c1
      have gd3 : Good (spL Lb q4) := good_short (by omega) c3
      refine ⟨_, _, (spP Lb.length q4, ts ++ [.str (st (spL L q2)), .str (st (spL Lb q4))]), rfl, Eq.mp (congrArg (fun ν => DSs (cxOf (L2.CX P w) P w K mg base ["pot", "texts", "lap", "one", "text", "size", "great", "value", "due", "caught", "part"] "_law_right" (defScope sR) f (.ref cA) A0 outer s0 H E) N W _ _ (bodyAt sR 2) (.nx _ ν)) (sK (spP Lb.length q4, ts) _)) (dss_cons (ds_set 3 (de_of (d' := fr a b) (de_call g R.fr (da_cons (de_call g R.of (da_cons (de_var 0) (da_cons (de_lst (ds := numsL.map D.int) (dp_cons de_int (dp_cons de_int (dp_cons (de_un de_int u_neg) (dp_cons de_int (dp_cons (de_un de_int u_neg) (dp_cons de_int (dp_cons de_int (dp_cons (de_un de_int u_neg) (dp_cons de_int dp_nil)))))))))) da_nil)) ⟨j, p, ok.mono (by omega), gJ (p, ts), .inl ⟨_, _, by decide, by decide, d1, rfl, rfl, (sJ (p, ts) (takeF p 9).2).symm⟩⟩) (da_cons (de_of' (de_call g R.of (da_cons (de_var 0) (da_cons (de_lst (ds := densL.map D.int) (dp_cons de_int (dp_cons de_int (dp_cons de_int (dp_cons de_int (dp_cons de_int (dp_cons de_int (dp_cons de_int dp_nil)))))))) da_nil)) ⟨j, (takeF p 9).2, o1.mono (by omega), gJ ((takeF p 9).2, ts), .inl ⟨_, _, by decide, by decide, d2, rfl, rfl, (sJ ((takeF p 9).2, ts) (takeF (takeF p 9).2 7).2).symm⟩⟩) rfl (congrArg (fun q => muT μ j (q, ts)) hq)) da_nil)) ⟨numF p, denF (takeF p 9).2, hden.2, hden.1.mono (by decide), rfl, rfl, rfl⟩) (by rw [hA', hB'])) g.nd) (cn
        (dss_cons (ds_set 4 (de_of (d' := .str (st L)) (de_call g R.frT (da_cons (de_var 3) da_nil) ⟨a, b, ba, bb, rfl, rfl, rfl⟩) (by rw [hL])) g.nd) (cn
        (dss_skip (dt_w (dw_or (k := false) (dt_of (dt_cmp (de_reprN g gd R.ks (de_of (d' := .str (st L)) (de_prop g R.txt (de_call g R.rat (da_cons (de_var 3) da_nil) ⟨a, b, low, b4, rfl, rfl, rfl⟩) ⟨a, b, ba, bb, rfl, rfl, rfl⟩) (by rw [hL])) shL R.repr) (de_reprN g gd R.ks (de_var 4) shL R.repr) o_neS) (ne_self _)) (fun _ => dw_or1 (dt_of (k' := false) (dt_neOwn g R.eq R.ne (.ins _ _ _) R.nf (de_sm g R.oft (de_glob (v := .ref C) R.T.at_ rfl (fun _ _ => .adr _)) (da_cons (de_var 4) da_nil) ⟨_, rfl, rfl, .inl ⟨L, gd0.parts, rfl, .inl ⟨a, b, rd, rfl⟩⟩⟩) (de_call g R.rat (da_cons (de_var 3) da_nil) ⟨a, b, low, b4, rfl, rfl, rfl⟩) ⟨a, b, a, b, rfl, rfl, rfl⟩) (by simp)))))
        (dss_cons (ds_expr (de_bm PySem.F.plainAttrs_list PySem.F.slot_list_extend PySem.F.type_list_extend (de_var 1) (da_cons (de_lst (ds := [.str (st (spL L q2)), .str (st (spL Lb q4))]) (dp_cons (de_call g R.spo (da_cons (de_var 0) (da_cons (de_var 4) da_nil)) ⟨j, q2, L, o2.mono (by omega), by omega, gJ (q2, ts), rfl, rfl, (sJ (q2, ts) (spP L.length q2)).symm⟩) (dp_cons (de_call g R.spo (da_cons (de_var 0) (da_cons (de_of (d' := .str (st Lb)) (de_call g R.spo (da_cons (de_var 0) (da_cons (de_var 4) da_nil)) ⟨j, spP L.length q2, L, k3.mono (by omega), by omega, gJ (spP L.length q2, ts), rfl, by rw [hL2], by rw [hq4]; exact (sJ (spP L.length q2, ts) q4).symm⟩) rfl) da_nil)) ⟨j, q4, Lb, k4.mono (by omega), by omega, gJ (q4, ts), rfl, rfl, (sJ (q4, ts) (spP Lb.length q4)).symm⟩) dp_nil))) da_nil) (m_extend (gK _) (gK _) (show ts.length + 2 ≤ sizeLine from size9 (by omega))))) (cn dss_nil))))))), ⟨_, _, _, _, _, _, _, _, _, rfl⟩, ⟨k5.mono (by omega), tx_app tx (fun d hd => ?tx), ?len⟩, by omega⟩
      case tx =>
        simp only [List.mem_cons, List.not_mem_nil, or_false] at hd
        rcases hd with rfl | rfl
        · exact ⟨_, gd1, rfl⟩
        · exact ⟨_, gd3, rfl⟩
      case len =>
        rw [List.length_append]
        simp only [List.length_cons, List.length_nil]
        omega) ⟨hs, by simp [rangeD]⟩ hd
    exact ⟨δ', s', h1, h2, h3.1⟩
  have loop2 : ∀ δ s, It 110 37 s → Del j μ.length δ → ∃ δ' s', Loop (cxOf (L2.CX P w) P w K mg base ["pot", "texts", "lap", "one", "text", "size", "great", "value", "due", "caught", "part"] "_law_right" (defScope sR) f (.ref cA) A0 outer s0 H E) N W (asName 5) (bodyAt sR 3) [.int 40, .int 390] δ (muT μ j s) (.nx δ' (muT μ j s')) ∧ Del j μ.length δ' ∧ It 118 53 s' := fun δ s hs hd => by
    obtain ⟨δ', s', h1, h2, h3⟩ := loop_ex (X := (cxOf (L2.CX P w) P w K mg base ["pot", "texts", "lap", "one", "text", "size", "great", "value", "due", "caught", "part"] "_law_right" (defScope sR) f (.ref cA) A0 outer s0 H E)) (N := N) (W := W) (mu := muT μ j) (f := asName 5) (body := bodyAt sR 3) (Del j μ.length) (fun m t => It (118 - 4 * m) (53 - 8 * m) t ∧ m ≤ 2) [.int 40, .int 390] δ s (fun d hdm m t δ hI ⟨x2, x3, x4, x5, x6, x7, x8, x9, x10, e0⟩ => by
      subst e0
      obtain ⟨⟨ok, tx, len⟩, hm⟩ := hI
      obtain ⟨p, ts⟩ := t
      obtain ⟨n0, hn0⟩ : ∃ n0, n0 = 118 - 4 * (m + 1) := ⟨_, rfl⟩
      have ok : p.ok n0 := Pot.ok.mono ok (by omega)
      have lenm : ts.length ≤ 53 - 8 * (m + 1) := len
      have len : ts.length ≤ 53 := by omega
      obtain ⟨k, hk, rfl⟩ : ∃ k : Nat, (k = 40 ∨ k = 390) ∧ d = .int (k : Int) := by
        simp only [List.mem_cons, List.not_mem_nil, or_false] at hdm
        rcases hdm with rfl | rfl
        · exact ⟨40, .inl rfl, rfl⟩
        · exact ⟨390, .inr rfl, rfl⟩
      have hk2 : 2 ≤ k ∧ k ≤ 400 := by omega
      have w9 : okW (List.replicate k 57) = true := by
        rcases hk with rfl | rfl
        · decide +kernel
        · decide +kernel
      have o1 : (takeF p 1000).2.ok (n0 + 1) := takeF_ok ok
      have tl := takeF_lt (p := p) (u := 1000) (by decide)
      obtain ⟨gr, gb⟩ := nines k hk (takeF p 1000).1 tl.1 tl.2
      have lg := bd_log (gb.mono (show 1800 ≤ 1919 by decide))
      have z9 : (st (List.replicate k 57)).length ≤ 640 := by rw [st_len, List.length_replicate]; omega
      have i9 := int_of w9 (by rw [List.length_replicate]; omega)
      have gg := greats_good gr
      have hG := gr.len
      have gc := gr.chars
      generalize hq : (takeF p 1000).2 = q at o1
      have st1 : DE (cxOf (L2.CX P w) P w K mg base ["pot", "texts", "lap", "one", "text", "size", "great", "value", "due", "caught", "part"] "_law_right" (defScope sR) f (.ref cA) A0 outer s0 H E) N W [some (.l j), some (.l μ.length), x2, x3, x4, some (.p (.int (k : Int))), x6, x7, x8, x9, x10] (muT μ j (p, ts)) (asgE (bodyAt sR 3)) (.v (.p (.str (st (decI (val (List.replicate k 57) - (takeF p 1000).1)))))) (muT μ j (q, ts)) :=
        de_of' (de_callT (T := "str") (da_cons (de_bin (de_callT (T := "int") (da_cons (de_bin (de_of (d' := .str ⟨#[57]⟩) de_str rfl) (de_var 5) (o_mulSk ⟨hk2.1, by omega⟩)) da_nil) (c_intT i9 z9) R.M.int (by decide +kernel)) (de_call g R.take (da_cons (de_var 0) (da_cons de_int da_nil)) ⟨j, p, 1000, ok.mono (by omega), by decide, by decide, rfl, gJ (p, ts), rfl, (sJ (p, ts) (takeF p 1000).2).symm⟩) o_sub) da_nil) (c_strI lg) R.M.str (by decide +kernel)) (congrArg D.str (decI_st _).symm) (congrArg (fun q => muT μ j (q, ts)) hq)
      generalize hgv : decI (val (List.replicate k 57) - (takeF p 1000).1) = G at gr gg hG gc st1
      have k3 : (spP G.length q).ok (n0 + 4) := spP_ok o1
      have e1 := spL_len G q
      have c1 := sp_chars (p := q) gc
      have gs : Good (spL G q) := good_short (by omega) c1
      have hz : G.length ≤ 400 := by omega
      refine ⟨_, _, (spP G.length q, (ts ++ [D.str (st G), D.str (st (45 :: G)), D.str (st (49 :: 47 :: G)), D.str (st ((45 :: G) ++ (47 :: (G ++ [49])))), D.str (st (G ++ [48, 47, 51])), D.str (st (48 :: G))]) ++ [.str (st (G ++ 47 :: G)), .str (st (spL G q))]), rfl, dss_cons (ds_set 6 st1 g.nd) (cn
        (dss_cons (ds_to (ds_expr (de_bm PySem.F.plainAttrs_list PySem.F.slot_list_extend PySem.F.type_list_extend (de_var 1) (da_cons (de_lst (ds := [D.str (st G), D.str (st (45 :: G)), D.str (st (49 :: 47 :: G)), D.str (st ((45 :: G) ++ (47 :: (G ++ [49])))), D.str (st (G ++ [48, 47, 51])), D.str (st (48 :: G))]) (dp_cons (de_var 6) (dp_cons (de_cat (de_of (d' := .str (st [45])) de_str rfl) (de_var 6) (by simp; omega) (by simp)) (dp_cons (de_cat (de_of (d' := .str (st [49, 47])) de_str rfl) (de_var 6) (by simp; omega) (by simp)) (dp_cons (de_cat (de_cat (de_cat (de_cat (de_of (d' := .str (st [45])) de_str rfl) (de_var 6) (by simp; omega) rfl) (de_of (d' := .str (st [47])) de_str rfl) (by simp; omega) rfl) (de_var 6) (by simp; omega) rfl) (de_of (d' := .str (st [49])) de_str rfl) (by simp; omega) (by simp)) (dp_cons (de_cat (de_var 6) (de_of (d' := .str (st [48, 47, 51])) de_str rfl) (by simp; omega) (by simp)) (dp_cons (de_cat (de_of (d' := .str (st [48])) de_str rfl) (de_var 6) (by simp; omega) (by simp)) dp_nil))))))) da_nil) (m_extend (gK (q, ts)) (gK (q, ts)) (show ts.length + 6 ≤ sizeLine from size9 (by omega))))) (sK (q, ts) _)) (cn
        (dss_cons (ds_to (ds_expr (de_bm PySem.F.plainAttrs_list PySem.F.slot_list_extend PySem.F.type_list_extend (de_var 1) (da_cons (de_lst (ds := [.str (st (G ++ 47 :: G)), .str (st (spL G q))]) (dp_cons (de_cat (de_cat (de_var 6) (de_of (d' := .str (st [47])) de_str rfl) (by simp; omega) rfl) (de_var 6) (by simp; omega) (by simp)) (dp_cons (de_call g R.spo (da_cons (de_var 0) (da_cons (de_var 6) da_nil)) ⟨j, q, G, o1.mono (by omega), hz, gJ (q, ts ++ [D.str (st G), D.str (st (45 :: G)), D.str (st (49 :: 47 :: G)), D.str (st ((45 :: G) ++ (47 :: (G ++ [49])))), D.str (st (G ++ [48, 47, 51])), D.str (st (48 :: G))]), rfl, rfl, (sJ (q, ts ++ [D.str (st G), D.str (st (45 :: G)), D.str (st (49 :: 47 :: G)), D.str (st ((45 :: G) ++ (47 :: (G ++ [49])))), D.str (st (G ++ [48, 47, 51])), D.str (st (48 :: G))]) (spP G.length q)).symm⟩) dp_nil))) da_nil) (m_extend (gK (q, ts ++ [D.str (st G), D.str (st (45 :: G)), D.str (st (49 :: 47 :: G)), D.str (st ((45 :: G) ++ (47 :: (G ++ [49])))), D.str (st (G ++ [48, 47, 51])), D.str (st (48 :: G))])) (gK (spP G.length q, ts ++ [D.str (st G), D.str (st (45 :: G)), D.str (st (49 :: 47 :: G)), D.str (st ((45 :: G) ++ (47 :: (G ++ [49])))), D.str (st (G ++ [48, 47, 51])), D.str (st (48 :: G))])) (show (ts ++ [D.str (st G), D.str (st (45 :: G)), D.str (st (49 :: 47 :: G)), D.str (st ((45 :: G) ++ (47 :: (G ++ [49])))), D.str (st (G ++ [48, 47, 51])), D.str (st (48 :: G))]).length + 2 ≤ sizeLine from size9 (by rw [List.length_append]; simp only [List.length_cons, List.length_nil]; omega))))) (sK (spP G.length q, ts ++ [D.str (st G), D.str (st (45 :: G)), D.str (st (49 :: 47 :: G)), D.str (st ((45 :: G) ++ (47 :: (G ++ [49])))), D.str (st (G ++ [48, 47, 51])), D.str (st (48 :: G))]) _)) (cn dss_nil))))), ⟨_, _, _, _, _, _, _, _, _, rfl⟩, ⟨k3.mono (by omega), tx_app (tx_app tx (fun d hd => ?tx1)) (fun d hd => ?tx2), ?len⟩, by omega⟩
      case tx1 =>
        simp only [List.mem_cons, List.not_mem_nil, or_false] at hd
        rcases hd with rfl | rfl | rfl | rfl | rfl | rfl
        all_goals exact ⟨_, gg _ (by simp [greats]), rfl⟩
      case tx2 =>
        simp only [List.mem_cons, List.not_mem_nil, or_false] at hd
        rcases hd with rfl | rfl
        · exact ⟨_, gg _ (by simp [greats]), rfl⟩
        · exact ⟨_, gs, rfl⟩
      case len =>
        rw [List.length_append, List.length_append]
        simp only [List.length_cons, List.length_nil]
        omega) ⟨hs, by decide⟩ hd
    exact ⟨δ', s', h1, h2, h3.1⟩
  have loop3 : ∀ δ (s : Tt) (ds : List D), (∀ d ∈ ds, GV K C d) → Del j μ.length δ → ∃ δ', Loop (cxOf (L2.CX P w) P w K mg base ["pot", "texts", "lap", "one", "text", "size", "great", "value", "due", "caught", "part"] "_law_right" (defScope sR) f (.ref cA) A0 outer s0 H E) N W (asName 7) (bodyAt sR 4) ds δ (muT μ j s) (.nx δ' (muT μ j s)) ∧ Del j μ.length δ' := fun δ s ds hds hd => by
    refine loop_ds (X := (cxOf (L2.CX P w) P w K mg base ["pot", "texts", "lap", "one", "text", "size", "great", "value", "due", "caught", "part"] "_law_right" (defScope sR) f (.ref cA) A0 outer s0 H E)) (N := N) (W := W) (μ := muT μ j s) (f := asName 7) (body := bodyAt sR 4) (Del j μ.length) ds δ (fun d hdm δ ⟨x2, x3, x4, x5, x6, x7, x8, x9, x10, e0⟩ => ?_) hd
    subst e0
    rcases hds d hdm with ⟨L, gL, rfl⟩ | ⟨⟨t, ty, hk⟩, hr⟩
    · have sh : ShN (.str (st L)) := str_shN (by have := gL.parts.2.2; omega) gL.chars
      cases hl : lawR L with
      | none =>
        have ef : fracD L = .non := by unfold fracD; rw [hl]
        exact ⟨_, _, rfl, dss_cons (ds_set 8 (de_if (r := .v (.p (fracD L))) (k := true) (dt_val (de_callB (id := "isinstance") (da_cons (de_var 7) (da_cons (de_ty R.T.str (by decide +kernel)) da_nil)) (c_isi g (.str _) (.ty _) R.T.ss) R.T.isi (by decide +kernel))) (fun _ => de_call g R.frac (da_cons (de_var 7) da_nil) ⟨L, gL.partsL, rfl, rfl, rfl⟩) (fun h => by cases h)) g.nd) (cn
        ((dss_cons (ds_asg (de_handL (j := 4) (jt := 0) (L := lX (.x CT (.str (st L)))) g (fun h => by cases h) (gT s) TB rfl R.heard (fun E A outer s H f c' N' hK g' μ3 r3 μ4 hL => by obtain ⟨rfl, rfl⟩ := hL; exact de_sm g' R.oft (de_glob (v := .ref C) R.T.at_ rfl (fun _ _ => .adr _)) (da_cons (de_var 7) da_nil) ⟨_, rfl, rfl, .inl ⟨L, gL.parts, rfl, .inr ⟨hl, rfl⟩⟩⟩) da_nil ⟨rfl, _, _, ⟨rfl, rfl⟩, .x R.eT, rfl⟩) (dg_tup (dgs_cons (dg_name 9 g.nd) (dgs_cons (dg_name 10 g.nd) dgs_nil)) g.hK g.calm) rfl) (cn
        (dss_cons (ds_if (k := true) (dt_of (dt_cmp (de_of (d' := .non) (de_var 8) ef) de_non o_isN) rfl) (fun _ => dss_skip (dt_w (dw_or (k := false) (k' := false) (dt_not (dt_val (de_callB (id := "isinstance") (da_cons (de_var 9) (da_cons (de_glob (v := .ref CT) R.gT rfl (fun _ _ => .adr _)) da_nil)) (c_isiX g R.xt kit_same) R.T.isi (by decide +kernel)))) (fun _ => dw_or1 (dt_of (k' := false) (dt_cmp (de_reprN g gd R.ks (de_excVal g R.xt (de_var 9)) sh R.repr) (de_reprN g gd R.ks (de_var 7) sh R.repr) o_neS) (ne_self _))))) dss_nil) (fun h => by cases h)) (cn dss_nil)))))), ⟨_, _, _, _, _, _, _, _, _, rfl⟩⟩
      | some ab =>
        obtain ⟨a, b⟩ := ab
        have ef : fracD L = fr a b := by unfold fracD; rw [hl]
        obtain ⟨ba, bb⟩ := read_bd gL.parts hl
        have sf := fr_showN ba bb
        exact ⟨_, _, rfl, dss_cons (ds_set 8 (de_if (r := .v (.p (fracD L))) (k := true) (dt_val (de_callB (id := "isinstance") (da_cons (de_var 7) (da_cons (de_ty R.T.str (by decide +kernel)) da_nil)) (c_isi g (.str _) (.ty _) R.T.ss) R.T.isi (by decide +kernel))) (fun _ => de_call g R.frac (da_cons (de_var 7) da_nil) ⟨L, gL.partsL, rfl, rfl, rfl⟩) (fun h => by cases h)) g.nd) (cn
        ((dss_cons (ds_asg (de_handL (j := 4) (jt := 0) (L := lX (.v (.p (rt C a b)))) g (fun h => by cases h) (gT s) TB rfl R.heard (fun E A outer s H f c' N' hK g' μ3 r3 μ4 hL => by obtain ⟨rfl, rfl⟩ := hL; exact de_sm g' R.oft (de_glob (v := .ref C) R.T.at_ rfl (fun _ _ => .adr _)) (da_cons (de_var 7) da_nil) ⟨_, rfl, rfl, .inl ⟨L, gL.parts, rfl, .inl ⟨a, b, hl, rfl⟩⟩⟩) da_nil ⟨rfl, _, _, ⟨rfl, rfl⟩, .v _, rfl⟩) (dg_tup (dgs_cons (dg_name 9 g.nd) (dgs_cons (dg_name 10 g.nd) dgs_nil)) g.hK g.calm) rfl) (cn
        (dss_cons (ds_if (k := false) (dt_of (dt_cmp (de_of (d' := fr a b) (de_var 8) ef) de_non o_isN) rfl) (fun h => by cases h) (fun _ => dss_skip (dt_w (dw_or (k := false) (k' := false) (dt_of (dt_cmp (de_var 9) de_non o_notN) rfl) (fun _ => dw_or1 (dt_of (k' := false) (dt_cmp (de_reprN g gd R.ks (de_tup (dp_cons (de_fld (de_var 10) g R.T.ci.cl R.T.nN) (dp_cons (de_fld (de_var 10) g R.T.ci.cl R.T.nU) dp_nil))) sf R.repr) (de_reprN g gd R.ks (de_of (d' := fr a b) (de_var 8) ef) sf R.repr) o_neS) (ne_self _))))) dss_nil)) (cn dss_nil)))))), ⟨_, _, _, _, _, _, _, _, _, rfl⟩⟩
    · rcases hr with sh | rfl
      · exact ⟨_, _, rfl, dss_cons (ds_set 8 (de_if (r := .v (.p .non)) (k := false) (dt_val (de_callB (id := "isinstance") (da_cons (de_var 7) (da_cons (de_ty R.T.str (by decide +kernel)) da_nil)) (c_isi g ty (.ty _) hk) R.T.isi (by decide +kernel))) (fun h => by cases h) (fun _ => de_non)) g.nd) (cn
        ((dss_cons (ds_asg (de_handL (j := 4) (jt := 0) (L := lX (.x CT _)) g (fun h => by cases h) (gT s) TB rfl R.heard (fun E A outer s H f c' N' hK g' μ3 r3 μ4 hL => by obtain ⟨rfl, rfl⟩ := hL; exact de_sm g' R.oft (de_glob (v := .ref C) R.T.at_ rfl (fun _ _ => .adr _)) (da_cons (de_var 7) da_nil) ⟨_, rfl, rfl, .inr ⟨⟨t, ty, hk⟩, rfl⟩⟩) da_nil ⟨rfl, _, _, ⟨rfl, rfl⟩, .x R.eT, rfl⟩) (dg_tup (dgs_cons (dg_name 9 g.nd) (dgs_cons (dg_name 10 g.nd) dgs_nil)) g.hK g.calm) rfl) (cn
        (dss_cons (ds_if (k := true) (dt_of (dt_cmp (de_of (d' := .non) (de_var 8) rfl) de_non o_isN) rfl) (fun _ => dss_skip (dt_w (dw_or (k := false) (k' := false) (dt_not (dt_val (de_callB (id := "isinstance") (da_cons (de_var 9) (da_cons (de_glob (v := .ref CT) R.gT rfl (fun _ _ => .adr _)) da_nil)) (c_isiX g R.xt kit_same) R.T.isi (by decide +kernel)))) (fun _ => dw_or1 (dt_of (k' := false) (dt_cmp (de_reprN g gd R.ks (de_excVal g R.xt (de_var 9)) sh R.repr) (de_reprN g gd R.ks (de_var 7) sh R.repr) o_neS) (ne_self _))))) dss_nil) (fun h => by cases h)) (cn dss_nil)))))), ⟨_, _, _, _, _, _, _, _, _, rfl⟩⟩
      · exact ⟨_, _, rfl, dss_cons (ds_set 8 (de_if (r := .v (.p .non)) (k := false) (dt_val (de_callB (id := "isinstance") (da_cons (de_var 7) (da_cons (de_ty R.T.str (by decide +kernel)) da_nil)) (c_isi g ty (.ty _) hk) R.T.isi (by decide +kernel))) (fun h => by cases h) (fun _ => de_non)) g.nd) (cn
        ((dss_cons (ds_asg (de_handL (j := 4) (jt := 0) (L := lX (.x CT _)) g (fun h => by cases h) (gT s) TB rfl R.heard (fun E A outer s H f c' N' hK g' μ3 r3 μ4 hL => by obtain ⟨rfl, rfl⟩ := hL; exact de_sm g' R.oft (de_glob (v := .ref C) R.T.at_ rfl (fun _ _ => .adr _)) (da_cons (de_var 7) da_nil) ⟨_, rfl, rfl, .inr ⟨⟨t, ty, hk⟩, rfl⟩⟩) da_nil ⟨rfl, _, _, ⟨rfl, rfl⟩, .x R.eT, rfl⟩) (dg_tup (dgs_cons (dg_name 9 g.nd) (dgs_cons (dg_name 10 g.nd) dgs_nil)) g.hK g.calm) rfl) (cn
        (dss_cons (ds_if (k := true) (dt_of (dt_cmp (de_of (d' := .non) (de_var 8) rfl) de_non o_isN) rfl) (fun _ => dss_skip (dt_w (dw_or (k := false) (k' := false) (dt_not (dt_val (de_callB (id := "isinstance") (da_cons (de_var 9) (da_cons (de_glob (v := .ref CT) R.gT rfl (fun _ _ => .adr _)) da_nil)) (c_isiX g R.xt kit_same) R.T.isi (by decide +kernel)))) (fun _ => dw_or1 (dt_of (k' := false) (dt_cmp (de_callB (id := "repr") (da_cons (de_excVal g R.xt (de_var 9)) da_nil) (c_reprOwn g R.rep ⟨rfl, rfl, rfl⟩) R.repr (by decide +kernel)) (de_callB (id := "repr") (da_cons (de_var 7) da_nil) (c_reprOwn g R.rep ⟨rfl, rfl, rfl⟩) R.repr (by decide +kernel)) o_neS) (ne_self _))))) dss_nil) (fun h => by cases h)) (cn dss_nil)))))), ⟨_, _, _, _, _, _, _, _, _, rfl⟩⟩
  have hset : μ.set j p0.m = μ := set_same hj
  have hi : It 0 17 (p0, txs0 ++ txs1) := ⟨hp, txs_good, show (txs0 ++ txs1).length ≤ 17 from by decide⟩
  obtain ⟨δ1, s1, l1, d1, i1⟩ := loop1 [some (.l j), some (.l μ.length), none, none, none, none, none, none, none, none, none] (p0, txs0 ++ txs1) hi ⟨_, _, _, _, _, _, _, _, _, rfl⟩
  obtain ⟨δ2, s2, l2, d2, i2⟩ := loop2 δ1 s1 i1 d1
  obtain ⟨p2, ts2⟩ := s2
  obtain ⟨δ3, l3, d3⟩ := loop3 δ2 ((takeF p2 29).2, ts2) (ts2 ++ lastL C (oddF p2)) (fun d hd => (List.mem_append.mp hd).elim (fun h => .inl (i2.tx d h)) (last_gv R.Z R.T.ci (odds_gv R.Z p2) d)) d2
  obtain ⟨x2, x3, x4, x5, x6, x7, x8, x9, x10, e2⟩ := d2
  subst e2
  have ln2 : ts2.length ≤ 53 := i2.len
  have fit : ((muT μ j ((takeF p2 29).2, ts2)).set j .gone).take μ.length = μ.set j .gone := by
    unfold muT
    rw [List.set_append_left _ _ (by rw [List.length_set]; exact hjl), List.set_set, List.take_left' (by rw [List.length_set])]
  refine ⟨_, dss_forget j (dss_cons (ds_set 1 (de_lst (ds := txs0) (dp_cons de_str (dp_cons de_str (dp_cons de_str (dp_cons de_str (dp_cons de_str (dp_cons de_str (dp_cons de_str (dp_cons de_str (dp_cons de_str (dp_cons de_str (dp_cons de_str (dp_cons de_str (dp_cons de_str (dp_cons de_str (dp_cons de_str dp_nil)))))))))))))))) g.nd) (cn
    (dss_cons (ds_to (ds_set 1 (de_bin (de_var 1) (de_lst (ds := txs1) (dp_cons de_str (dp_cons de_str dp_nil))) (o_catN (ds := txs0) (es := txs1) (show txs0.length + txs1.length ≤ sizeLine from size9 (by decide)))) g.nd) (μ2 := muT μ j (p0, txs0 ++ txs1)) (by unfold muT; rw [hset])) (cn
    (dss_cons (ds_for g (di_range1 (da_cons de_int da_nil) R.range ⟨by decide, by decide⟩) (dg_name 2 g.nd) l1) (cn
    (dss_cons (ds_for g (di_tup g (de_tup (dp_cons de_int (dp_cons de_int dp_nil)))) (dg_name 5 g.nd) l2) (cn
    (dss_cons (ds_for g (di_lst g (de_bin (de_var 1) (de_lst (ds := lastL C (oddF p2)) (dp_cons de_non (dp_cons de_int (dp_cons de_bl (dp_cons de_int (dp_cons (de_tup dp_nil) (dp_cons (de_lst (dp_cons de_str dp_nil)) (dp_cons (de_tup (dp_cons de_str (dp_cons de_str dp_nil))) (dp_cons (de_of (d' := rt C 1 1) (de_ratio1 g R.mkR1 de_int) (by rw [show nn 1 1 = 1 from by decide +kernel, show nu 1 1 = 1 from by decide +kernel])) (dp_cons (de_call g R.odd (da_cons (de_var 0) da_nil) ⟨j, p2, i2.pot.mono (by decide), gJ (p2, ts2), rfl, rfl, (sJ (p2, ts2) (takeF p2 29).2).symm⟩) dp_nil))))))))) (show 9 ≤ sizeLine from size9 (by decide))) (o_catM (gK ((takeF p2 29).2, ts2)) (show ts2.length + 9 ≤ sizeLine from size9 (by omega))))) (dg_name 7 g.nd) l3) (cn
    (dss_ret de_bl))))))))))), fit ▸ .rtT (Nat.le_refl _)⟩
end
section
variable {X : Cx} {N : En} {W : WX} {δ : List (Option S)} {elt : Expr} {scope : Scope} {f : As} {nn : Nat} {K : PySem.W.Frag} {body : List Stmt}
theorem of_growI {α : Type} {gd : α → D} {y : α → D} {nx : α → List M → List M} (I : List M → Prop) : ∀ (l : List α) (μ : List M), I μ → (∀ a ∈ l, ∀ μ, I μ → I (nx a μ) ∧ ∃ δt, f (gd a) δ = some δt ∧ DEB X K nn scope elt δt μ (y a) (nx a μ)) → CmpL (El0 X K nn scope elt) f δ (l.map gd) μ (l.map y) (l.foldl (fun μ a => nx a μ) μ)
  | [], _, _, _ => .nil
  | a :: l, μ, hi, h => by
    obtain ⟨h1, δt, h2, h3⟩ := h a List.mem_cons_self μ hi
    exact .keep h2 ⟨_, rfl, h3⟩ (of_growI I l _ h1 fun b hb => h b (List.mem_cons_of_mem _ hb))
end
def growF (ns : List Int) (i : Nat) (μ : List M) : List M := (μ ++ [(potF ns i).m]).set μ.length .gone
def rLaw (PT : Addr) (q : Str) : Rel := fun ss μ r μ' => ∃ (ns : List Int), ss = [.p (.sc ns)] ∧ μ[0]? = some (.tab PT q) ∧ r = .v (.p (.bl true)) ∧ μ' = μ
theorem keep0 {μ : List M} {j : Nat} {m : M} {PT : Addr} {q : Str} {p : Pot} (h0 : μ[0]? = some (.tab PT q)) (hj : μ[j]? = some p.m) : (μ.set j m)[0]? = some (.tab PT q) := by
  have hne : j ≠ 0 := fun z => by
    subst z
    rw [h0] at hj
    cases hj
  rw [List.getElem?_set_ne hne]
  exact h0
section
variable {P : Program} {w : World} {K : PySem.W.Frag} {mg : Str → Option Value} {base : Heap} {f PT : Addr} {q : Str} {fd : FuncData}
theorem grow_take (ns : List Int) : ∀ (l : List Nat) (μ : List M) (n : Nat), n ≤ μ.length → (l.foldl (fun μ a => growF ns a μ) μ).take n = μ.take n
  | [], _, _, _ => rfl
  | a :: l, μ, n, h => by
    have e : growF ns a μ = μ ++ [.gone] := by
      unfold growF
      rw [List.set_append_right _ _ (Nat.le_refl _)]
      simp
    rw [List.foldl_cons, grow_take ns l _ n (by rw [e]; simp; omega), e, List.take_append_of_le_length h]
theorem cells_le (ns : List Int) : cellsN ns ≤ 6 := by unfold cellsN; omega
theorem app0 {μ : List M} {m : M} {x : M} (h : μ[0]? = some x) : (μ ++ [m])[0]? = some x := by
  have := (List.getElem?_eq_some_iff.mp h).1
  rw [List.getElem?_append_left this]
  exact h
theorem ok_law (F : Fun K "law" "law" sLaw f fd) (T : TL mg) (cc : Cf P w K mg base 1 "_law_cells" [] rCells) (cp : Cf P w K mg base 1 "_law_pot" [] rPot) (cr : Cg P w K mg base 7 "_law_right" [] (rR PT q)) : FnG P w K mg base (L2.CX P w) 8 f fd ["script"] (spD K (rLaw PT q)) := by
  refine fn_G (k := 7) F scLaw (fun ss μ r μ' h => by obtain ⟨ns, rfl, _⟩ := h; rfl) ?_
  intro cdv A0 outer s0 H E N W ss μ r μ' g gd hA hR
  obtain ⟨ns, rfl, hT, rfl, rfl⟩ := hR
  have hc := cells_le ns
  have at1 : ∀ (μ : List M) (m : M), (μ ++ [m])[μ.length]? = some m := fun μ m => by rw [List.getElem?_append_right (Nat.le_refl _), Nat.sub_self]; rfl
  refine ⟨_, dss_ret (de_of (d' := .bl true) (de_callB (id := "all") (da_cons (de_lc g [("place", 1)] (di_lst g (de_call g cc (da_cons (de_var 0) (da_cons de_int da_nil)) ⟨ns, rfl, rfl, rfl⟩)) (fun s H C cl fp => dg_name 1 g.nd)
    (of_growI (y := fun _ => .bl true) (nx := growF ns) (fun μ => μ[0]? = some (.tab PT q)) (List.range (cellsN ns)) μ' hT fun i hi μ h0 => ⟨keep0 (app0 h0) (at1 μ (potF ns i).m), _, rfl, fun s H C' cl fp N' hK g' => de_callG g' gd cr (da_cons (de_call g' cp (da_cons (de_var 0) (da_cons (de_of (de_var 1) (congrArg D.int (Int.zero_add _))) da_nil)) ⟨ns, i, by have := List.mem_range.mp hi; omega, rfl, rfl, rfl⟩) da_nil) ⟨μ.length, potF ns i, potF_ok ns i, rfl, at1 μ _, app0 h0, rfl, rfl⟩⟩)
    (ok := blkOk_by (by rfl)) (hds := ?_)) da_nil) (c_allm (q := fun _ => true) g) T.all (by decide +kernel)) (congrArg D.bl ?_)), ?_⟩
  · show (List.map _ (List.range (cellsN ns))).length < _
    rw [List.length_map, List.length_range]
    exact size4' (by omega)
  · simp
  · have e := grow_take ns (List.range (cellsN ns)) μ' μ'.length (Nat.le_refl _)
    rw [List.take_length] at e
    conv => rhs; rw [← e]
    exact .rtT (Nat.le_refl _)
end
/-- the law's own promise, with the one table -/
theorem spD_lawT {K : PySem.W.Frag} {R : Rel} {H : Hp} {a PT : Addr} {q : Str} {ns : List Int} (hP : H PT = some (.tbl #[])) (nP : K.lookup PT = none) (hS : SqL K H a (ns.map V.int)) (hR : R [.p (.sc ns)] [.tab PT q] (.v (.p (.bl true))) [.tab PT q]) : spD K R [.ref a] H (fun v _ => v = .bl true) (fun _ _ _ => False) := by
  have hne : SqL K (fun b => if b = a then H b else none) a (ns.map V.int) := by
    rcases hS with (h | ⟨o, h⟩) | h
    · exact .inl (.inl ((if_pos rfl).trans h))
    · exact .inl (.inr ⟨o, (if_pos rfl).trans h⟩)
    · exact .inr h
  have haP : PT ≠ a := fun z => by
    subst z
    rcases hS with (h | ⟨o, h⟩) | ⟨o, its, n, h, _⟩
    · rw [hP] at h; cases h
    · rw [hP] at h; cases h
    · rw [nP] at h; cases h
  refine ⟨fun b => if b = a then H b else none, [PT], [.p (.sc ns)], [.tab PT q], .v (.p (.bl true)), [.tab PT q], hR,
    { sub := fun b o e => ?_, base := Same.refl _, new := fun b o e => .inl ⟨o, e⟩, keep := fun _ _ e _ => e, pre := ⟨[], rfl, fun _ h => by cases h⟩, nd := by simp, len := rfl, mus := fun j b m h1 h2 => ?_, fr := fun j b m h1 h2 h3 => ?_ },
    .cons (.sc hne) .nil, fun v F' A' H' _ rv => ?_⟩
  · by_cases hb : b = a
    · exact (if_pos hb).symm.trans e
    · cases (if_neg hb).symm.trans e
  · match j, h1, h2 with
    | 0, h1, h2 =>
      cases h1
      cases h2
      exact ⟨rfl, #[], hP, trivial, fun p v h => by simp [codeAmong] at h⟩
    | j + 1, h1, _ => simp at h1
  · match j, h1 with
    | 0, h1 =>
      cases h1
      exact if_neg haP
    | j + 1, h1 => simp at h1
  · have rv' : Rep K F' v (.bl true) := rv
    cases rv'
    rfl
end K3

set_option Elab.async false
set_option linter.all false
set_option maxRecDepth 100000
set_option maxHeartbeats 8000000
set_option autoImplicit false
namespace K3
open PySem PySem.Spec PyProof.Rows L2 Dl
abbrev sErr2 : Stmt := inClass (top 3) 0
theorem scErr : FnScope ["self", "value"] ["self", "value"] (defScope sErr2) := ⟨rfl, rfl, rfl, by decide +kernel, rfl, by decide +kernel, by decide +kernel⟩
theorem all_mk {l : PySem.W.OpenLaw} {w : World} {K : PySem.W.Frag} {h : Heap} {mg : Str → Option Value} {fa C CT CK cA PT dT fI pa pg_ pS fS fd0 fd1 fd2 fd3 fd4 fd5 fd6 fd7 fd8 fd9 fd10 fd11 fd12 fd13 fd14 fd15 fd16 fm0 fm1 fm2 : Addr} (X : K.In h) (G : h.Ns mainGlobals mg) (hfa : mg "law" = some (.ref fa))
    {odd0 and0 odd1 and1 odd2 and2 odd3 and3 odd4 and4 odd5 and5 odd6 and6 odd7 and7 odd8 and8 odd9 and9 odd10 and10 odd11 and11 odd12 and12 odd13 and13 odd14 and14 odd15 and15 odd16 and16 odm0 anm0 odm1 anm1 odm2 anm2 odI anI odc odD odT anT odS anS : Option Addr} {sld0 sld1 sld2 sld3 sld4 sld5 sld6 sld7 sld8 sld9 sld10 sld11 sld12 sld13 sld14 sld15 sld16 slm0 slm1 slm2 slI slc slD slT slS : Array (Option Value)} {vsc : Array Value} {ocd0 kVd0 dcd0 pmd0 cdd0 ctd0 ocd1 kVd1 dcd1 pmd1 cdd1 ctd1 ocd2 kVd2 dcd2 pmd2 cdd2 ctd2 ocd3 kVd3 dcd3 pmd3 cdd3 ctd3 ocd4 kVd4 dcd4 pmd4 cdd4 ctd4 ocd5 kVd5 dcd5 pmd5 cdd5 ctd5 ocd6 kVd6 dcd6 pmd6 cdd6 ctd6 ocd7 kVd7 dcd7 pmd7 cdd7 ctd7 ocd8 kVd8 dcd8 pmd8 cdd8 ctd8 ocd9 kVd9 dcd9 pmd9 cdd9 ctd9 ocd10 kVd10 dcd10 pmd10 cdd10 ctd10 ocd11 kVd11 dcd11 pmd11 cdd11 ctd11 ocd12 kVd12 dcd12 pmd12 cdd12 ctd12 ocd13 kVd13 dcd13 pmd13 cdd13 ctd13 ocd14 kVd14 dcd14 pmd14 cdd14 ctd14 ocd15 kVd15 dcd15 pmd15 ctd15 ocd16 kVd16 dcd16 pmd16 cdd16 ctd16 ocm0 kVm0 dcm0 pmm0 cdm0 ctm0 ocm1 kVm1 dcm1 pmm1 cdm1 ctm1 ocm2 kVm2 dcm2 pmm2 cdm2 ctm2 occ ocI kVI dcI pmI cdI ctI ocD ocT kVT dcT pmT cdT ctT ocS kVS dcS pmS cdS ctS : Value} {prest srest : List Value} {tD tF : Tok} {nD : Nat} {nmCT qCT : Str} {NCT : Addr} {bsCT subCT : List Value} {snCT : List Str} {abCT : Bool} {colCT : Option Bool} {ddCT : Option Addr} {x0CT x1CT x2CT x3CT x5CT : Option Value}
    (tabs : ∀ (c P : Addr), PySem.W.tabIn K "_law_right" = some (c, P) → PySem.W.CodeHd h c P ∧ h.get? P = some (PySem.W.tabObj #[]))
    (ad0 : PySem.W.nsIn K mainGlobals "is_whole" = some (some (.ref fd0)))
    (ld0 : K.lookup fd0 = some ⟨ocd0, odd0, .func (PySem.W.fnOf "is_whole" "is_whole" (defArgs sWhole) (defBody sWhole) (defScope sWhole) .none kVd0 dcd0 pmd0 and0 cdd0 ctd0), sld0⟩)
    (cd0 : PySem.W.codeIn K cdd0 "is_whole" = true)
    (kd0 : PySem.W.keepIn K (.ref fd0) = true)
    (ad1 : PySem.W.nsIn K mainGlobals "_all_figures" = some (some (.ref fd1)))
    (ld1 : K.lookup fd1 = some ⟨ocd1, odd1, .func (PySem.W.fnOf "_all_figures" "_all_figures" (defArgs sFigs) (defBody sFigs) (defScope sFigs) .none kVd1 dcd1 pmd1 and1 cdd1 ctd1), sld1⟩)
    (cd1 : PySem.W.codeIn K cdd1 "_all_figures" = true)
    (kd1 : PySem.W.keepIn K (.ref fd1) = true)
    (ad2 : PySem.W.nsIn K mainGlobals "_law_pot" = some (some (.ref fd2)))
    (ld2 : K.lookup fd2 = some ⟨ocd2, odd2, .func (PySem.W.fnOf "_law_pot" "_law_pot" (defArgs sPot) (defBody sPot) (defScope sPot) .none kVd2 dcd2 pmd2 and2 cdd2 ctd2), sld2⟩)
    (cd2 : PySem.W.codeIn K cdd2 "_law_pot" = true)
    (kd2 : PySem.W.keepIn K (.ref fd2) = true)
    (ad3 : PySem.W.nsIn K mainGlobals "_law_take" = some (some (.ref fd3)))
    (ld3 : K.lookup fd3 = some ⟨ocd3, odd3, .func (PySem.W.fnOf "_law_take" "_law_take" (defArgs sTake) (defBody sTake) (defScope sTake) .none kVd3 dcd3 pmd3 and3 cdd3 ctd3), sld3⟩)
    (cd3 : PySem.W.codeIn K cdd3 "_law_take" = true)
    (kd3 : PySem.W.keepIn K (.ref fd3) = true)
    (ad4 : PySem.W.nsIn K mainGlobals "_law_of" = some (some (.ref fd4)))
    (ld4 : K.lookup fd4 = some ⟨ocd4, odd4, .func (PySem.W.fnOf "_law_of" "_law_of" (defArgs sOf) (defBody sOf) (defScope sOf) .none kVd4 dcd4 pmd4 and4 cdd4 ctd4), sld4⟩)
    (cd4 : PySem.W.codeIn K cdd4 "_law_of" = true)
    (kd4 : PySem.W.keepIn K (.ref fd4) = true)
    (ad5 : PySem.W.nsIn K mainGlobals "_law_cells" = some (some (.ref fd5)))
    (ld5 : K.lookup fd5 = some ⟨ocd5, odd5, .func (PySem.W.fnOf "_law_cells" "_law_cells" (defArgs sCells) (defBody sCells) (defScope sCells) .none kVd5 dcd5 pmd5 and5 cdd5 ctd5), sld5⟩)
    (cd5 : PySem.W.codeIn K cdd5 "_law_cells" = true)
    (kd5 : PySem.W.keepIn K (.ref fd5) = true)
    (ad6 : PySem.W.nsIn K mainGlobals "_law_heard" = some (some (.ref fd6)))
    (ld6 : K.lookup fd6 = some ⟨ocd6, odd6, .func (PySem.W.fnOf "_law_heard" "_law_heard" (defArgs sHeard) (defBody sHeard) (defScope sHeard) .none kVd6 dcd6 pmd6 and6 cdd6 ctd6), sld6⟩)
    (cd6 : PySem.W.codeIn K cdd6 "_law_heard" = true)
    (kd6 : PySem.W.keepIn K (.ref fd6) = true)
    (ad7 : PySem.W.nsIn K mainGlobals "_law_odd" = some (some (.ref fd7)))
    (ld7 : K.lookup fd7 = some ⟨ocd7, odd7, .func (PySem.W.fnOf "_law_odd" "_law_odd" (defArgs sOdd) (defBody sOdd) (defScope sOdd) .none kVd7 dcd7 pmd7 and7 cdd7 ctd7), sld7⟩)
    (cd7 : PySem.W.codeIn K cdd7 "_law_odd" = true)
    (kd7 : PySem.W.keepIn K (.ref fd7) = true)
    (ad8 : PySem.W.nsIn K mainGlobals "_law_gcd" = some (some (.ref fd8)))
    (ld8 : K.lookup fd8 = some ⟨ocd8, odd8, .func (PySem.W.fnOf "_law_gcd" "_law_gcd" (defArgs sGcd) (defBody sGcd) (defScope sGcd) .none kVd8 dcd8 pmd8 and8 cdd8 ctd8), sld8⟩)
    (cd8 : PySem.W.codeIn K cdd8 "_law_gcd" = true)
    (kd8 : PySem.W.keepIn K (.ref fd8) = true)
    (ad9 : PySem.W.nsIn K mainGlobals "_law_fr" = some (some (.ref fd9)))
    (ld9 : K.lookup fd9 = some ⟨ocd9, odd9, .func (PySem.W.fnOf "_law_fr" "_law_fr" (defArgs sFr) (defBody sFr) (defScope sFr) .none kVd9 dcd9 pmd9 and9 cdd9 ctd9), sld9⟩)
    (cd9 : PySem.W.codeIn K cdd9 "_law_fr" = true)
    (kd9 : PySem.W.keepIn K (.ref fd9) = true)
    (ad10 : PySem.W.nsIn K mainGlobals "_law_ratio" = some (some (.ref fd10)))
    (ld10 : K.lookup fd10 = some ⟨ocd10, odd10, .func (PySem.W.fnOf "_law_ratio" "_law_ratio" (defArgs sRat) (defBody sRat) (defScope sRat) .none kVd10 dcd10 pmd10 and10 cdd10 ctd10), sld10⟩)
    (cd10 : PySem.W.codeIn K cdd10 "_law_ratio" = true)
    (kd10 : PySem.W.keepIn K (.ref fd10) = true)
    (ad11 : PySem.W.nsIn K mainGlobals "_law_fr_text" = some (some (.ref fd11)))
    (ld11 : K.lookup fd11 = some ⟨ocd11, odd11, .func (PySem.W.fnOf "_law_fr_text" "_law_fr_text" (defArgs sFrT) (defBody sFrT) (defScope sFrT) .none kVd11 dcd11 pmd11 and11 cdd11 ctd11), sld11⟩)
    (cd11 : PySem.W.codeIn K cdd11 "_law_fr_text" = true)
    (kd11 : PySem.W.keepIn K (.ref fd11) = true)
    (ad12 : PySem.W.nsIn K mainGlobals "_law_whole" = some (some (.ref fd12)))
    (ld12 : K.lookup fd12 = some ⟨ocd12, odd12, .func (PySem.W.fnOf "_law_whole" "_law_whole" (defArgs sWh) (defBody sWh) (defScope sWh) .none kVd12 dcd12 pmd12 and12 cdd12 ctd12), sld12⟩)
    (cd12 : PySem.W.codeIn K cdd12 "_law_whole" = true)
    (kd12 : PySem.W.keepIn K (.ref fd12) = true)
    (ad13 : PySem.W.nsIn K mainGlobals "_law_fraction_in" = some (some (.ref fd13)))
    (ld13 : K.lookup fd13 = some ⟨ocd13, odd13, .func (PySem.W.fnOf "_law_fraction_in" "_law_fraction_in" (defArgs sFrac) (defBody sFrac) (defScope sFrac) .none kVd13 dcd13 pmd13 and13 cdd13 ctd13), sld13⟩)
    (cd13 : PySem.W.codeIn K cdd13 "_law_fraction_in" = true)
    (kd13 : PySem.W.keepIn K (.ref fd13) = true)
    (ad14 : PySem.W.nsIn K mainGlobals "_law_spoilt" = some (some (.ref fd14)))
    (ld14 : K.lookup fd14 = some ⟨ocd14, odd14, .func (PySem.W.fnOf "_law_spoilt" "_law_spoilt" (defArgs sSpo) (defBody sSpo) (defScope sSpo) .none kVd14 dcd14 pmd14 and14 cdd14 ctd14), sld14⟩)
    (cd14 : PySem.W.codeIn K cdd14 "_law_spoilt" = true)
    (kd14 : PySem.W.keepIn K (.ref fd14) = true)
    (ad15 : PySem.W.nsIn K mainGlobals "_law_right" = some (some (.ref fd15)))
    (ld15 : K.lookup fd15 = some ⟨ocd15, odd15, .func (PySem.W.fnOf "_law_right" "_law_right" (defArgs sR) (defBody sR) (defScope sR) .none kVd15 dcd15 pmd15 and15 (.ref cA) ctd15), sld15⟩)
    (cd15 : PySem.W.codeIn K (.ref cA) "_law_right" = true)
    (kd15 : PySem.W.keepIn K (.ref fd15) = true)
    (ad16 : PySem.W.nsIn K mainGlobals "law" = some (some (.ref fd16)))
    (ld16 : K.lookup fd16 = some ⟨ocd16, odd16, .func (PySem.W.fnOf "law" "law" (defArgs sLaw) (defBody sLaw) (defScope sLaw) .none kVd16 dcd16 pmd16 and16 cdd16 ctd16), sld16⟩)
    (cd16 : PySem.W.codeIn K cdd16 "law" = true)
    (kd16 : PySem.W.keepIn K (.ref fd16) = true)
    (aC : PySem.W.nsIn K mainGlobals "Ratio" = some (some (.ref C)))
    (am0 : PySem.W.findIn K (.ref C) "__init__" = some (some (.ref fm0)))
    (im0 : PySem.W.isFn K (.ref fm0) = true)
    (lm0 : K.lookup fm0 = some ⟨ocm0, odm0, .func (PySem.W.fnOf "__init__" "Ratio.__init__" (defArgs sInit) (defBody sInit) (defScope sInit) (.ref dT) kVm0 dcm0 pmm0 anm0 cdm0 ctm0), slm0⟩)
    (cm0 : PySem.W.codeIn K cdm0 "Ratio.__init__" = true)
    (km0 : PySem.W.keepIn K (.ref fm0) = true)
    (am1 : PySem.W.findIn K (.ref C) "__repr__" = some (some (.ref fm1)))
    (im1 : PySem.W.isFn K (.ref fm1) = true)
    (lm1 : K.lookup fm1 = some ⟨ocm1, odm1, .func (PySem.W.fnOf "__repr__" "Ratio.__repr__" (defArgs sRepr) (defBody sRepr) (defScope sRepr) .none kVm1 dcm1 pmm1 anm1 cdm1 ctm1), slm1⟩)
    (cm1 : PySem.W.codeIn K cdm1 "Ratio.__repr__" = true)
    (km1 : PySem.W.keepIn K (.ref fm1) = true)
    (am2 : PySem.W.findIn K (.ref C) "__eq__" = some (some (.ref fm2)))
    (im2 : PySem.W.isFn K (.ref fm2) = true)
    (lm2 : K.lookup fm2 = some ⟨ocm2, odm2, .func (PySem.W.fnOf "__eq__" "Ratio.__eq__" (defArgs sEq) (defBody sEq) (defScope sEq) .none kVm2 dcm2 pmm2 anm2 cdm2 ctm2), slm2⟩)
    (cm2 : PySem.W.codeIn K cdm2 "Ratio.__eq__" = true)
    (km2 : PySem.W.keepIn K (.ref fm2) = true)
    (lD : K.lookup dT = some ⟨ocD, odD, .seq #[.int 1 tD] nD, slD⟩)
    (pg : PySem.W.plainGet K C Str.empty = true)
    (hd : PySem.W.hasDictIn K C = true)
    (po : PySem.W.plainOver K C = true)
    (sa : PySem.W.findIn K (.ref C) "__setattr__" = some (some (.builtin "object.__setattr__")))
    (mkC : PySem.W.makesIn K C = true)
    (kC : PySem.W.keepIn K (.ref C) = true)
    (nN : PySem.W.findIn K (.ref C) "number" = some none)
    (nU : PySem.W.findIn K (.ref C) "under" = some none)
    (ha : PySem.W.findIn K (.ref C) "__class__" = some (some (.builtin "object.__class__")))
    (hn : PySem.W.specialIn K (.builtin "object.__class__") "__get__" = some (some (.builtin "getset_descriptor.__get__")))
    (ht : PySem.W.takesIn K (.builtin "object.__class__") = some true)
    (hm : PySem.W.mroIn K C (.type "object") = some true)
    (nf : PySem.W.notFirst K C (.ref C) = true)
    (ne : PySem.W.findIn K (.ref C) "__ne__" = some (some (.builtin "object.__ne__")))
    (k_ib : PySem.W.kitOne K (.type "int") (.type "bool") = some false)
    (ks_NoneType : PySem.W.kitOne K (.type "NoneType") (.type "str") = some false)
    (ks_bool : PySem.W.kitOne K (.type "bool") (.type "str") = some false)
    (ks_int : PySem.W.kitOne K (.type "int") (.type "str") = some false)
    (ks_tuple : PySem.W.kitOne K (.type "tuple") (.type "str") = some false)
    (ks_list : PySem.W.kitOne K (.type "list") (.type "str") = some false)
    (ks_dict : PySem.W.kitOne K (.type "dict") (.type "str") = some false)
    (k_rs : PySem.W.kitOne K (.ref C) (.type "str") = some false)
    (pT : PySem.W.findIn K (.ref C) "text" = some (some (.ref pa)))
    (gTx : PySem.W.specialIn K (.ref pa) "__get__" = some (some (.builtin "property.__get__")))
    (kTx : PySem.W.takesIn K (.ref pa) = some true)
    (rTx : PySem.W.recIn K pa "property" = some (.ref pg_ :: prest))
    (lTx : K.lookup pg_ = some ⟨ocT, odT, .func (PySem.W.fnOf "text" "Ratio.text" (defArgs sTxt) (defBody sTxt) (defScope sTxt) .none kVT dcT pmT anT cdT ctT), slT⟩)
    (cTx : PySem.W.codeIn K cdT "Ratio.text" = true)
    (keTx : PySem.W.keepIn K (.ref pg_) = true)
    (gaO : PySem.W.specialIn K (.ref C) "__getattribute__" = some (some (.builtin "type.__getattribute__")))
    (tyO : PySem.W.typeIn K (.ref C) = some (.type "type"))
    (rdO : PySem.W.readsIn K C (.type "type") = true)
    (fcO : PySem.W.findCls K (.ref C) (.type "type") "of" = some (.get (.builtin "staticmethod.__get__") (.ref pS) .none (.ref C)))
    (rcO : PySem.W.recIn K pS "staticmethod" = some (.ref fS :: srest))
    (hdO : PySem.W.handedIn (.ref fS) = true)
    (lO : K.lookup fS = some ⟨ocS, odS, .func (PySem.W.fnOf "of" "Ratio.of" (defArgs sOfT) (defBody sOfT) (defScope sOfT) .none kVS dcS pmS anS cdS ctS), slS⟩)
    (cO : PySem.W.codeIn K cdS "Ratio.of" = true)
    (keO : PySem.W.keepIn K (.ref fS) = true)
    (gF : PySem.W.nsIn K mainGlobals "FIGURES" = some (some (.str "0123456789" tF)))
    (z_len : PySem.W.nsIn K mainGlobals "len" = some none)
    (z_int : PySem.W.nsIn K mainGlobals "int" = some none)
    (z_abs : PySem.W.nsIn K mainGlobals "abs" = some none)
    (z_max : PySem.W.nsIn K mainGlobals "max" = some none)
    (z_min : PySem.W.nsIn K mainGlobals "min" = some none)
    (z_range : PySem.W.nsIn K mainGlobals "range" = some none)
    (z_list : PySem.W.nsIn K mainGlobals "list" = some none)
    (z_all : PySem.W.nsIn K mainGlobals "all" = some none)
    (z_isinstance : PySem.W.nsIn K mainGlobals "isinstance" = some none)
    (z_bool : PySem.W.nsIn K mainGlobals "bool" = some none)
    (z_repr : PySem.W.nsIn K mainGlobals "repr" = some none)
    (z_str : PySem.W.nsIn K mainGlobals "str" = some none)
    (gG : PySem.W.nsIn K mainGlobals "gcd" = some (some (.builtin "math.gcd")))
    (gK : PySem.W.nsIn K mainGlobals "KnobError" = some (some (.ref CK)))
    (gCT : PySem.W.nsIn K mainGlobals "BadText" = some (some (.ref CT)))
    (LCT : K.lookup CT = some (excClassObj nmCT qCT CT NCT bsCT [.ref CK, .type "ValueError", .type "Exception", .type "BaseException", .type "object"] true snCT subCT abCT colCT ddCT x0CT x1CT x2CT x3CT x5CT "ValueError.__new__"))
    (saCT : PySem.W.findIn K (.ref CT) "__setattr__" = some (some (.builtin "object.__setattr__")))
    (sub_CT : PySem.W.subIn K (.ref CT) (.type "BaseException") = some true)
    (tyCT : PySem.W.typeIn K (.ref CT) = some (.type "type"))
    (kpCT : PySem.W.keepIn K (.ref CT) = true)
    (nvCT : PySem.W.findIn K (.ref CT) "value" = some none)
    (inCT : PySem.W.findIn K (.ref CT) "__init__" = some (some (.ref fI)))
    (gaCT : PySem.W.findIn K (.ref CT) "__getattribute__" = some (some (.builtin "BaseException.__getattribute__")))
    (gtCT : PySem.W.findIn K (.ref CT) "__getattr__" = some none)
    (hdCT : PySem.W.hasDictIn K CT = true)
    (haCT : PySem.W.findIn K (.ref CT) "__class__" = some (some (.builtin "object.__class__")))
    (hmCT : PySem.W.mroIn K CT (.type "object") = some true)
    (s_CT : PySem.W.subIn K (.ref CT) (.ref CK) = some true)
    (tI : PySem.W.typeIn K (.ref fI) = some (.type "function"))
    (lI : K.lookup fI = some ⟨ocI, odI, .func (PySem.W.fnOf "__init__" "KnobError.__init__" (defArgs sErr2) (defBody sErr2) (defScope sErr2) .none kVI dcI pmI anI cdI ctI), slI⟩)
    (cI : PySem.W.codeIn K cdI "KnobError.__init__" = true)
    (kI : PySem.W.keepIn K (.ref fI) = true)
    (sK : PySem.W.subIn K (.ref CK) (.type "BaseException") = some true)
    (hdK : PySem.W.hasDictIn K CK = true)
    (tyK : PySem.W.typeIn K (.ref CK) = some (.type "type"))
    (lcA : K.lookup cA = some ⟨occ, odc, .fields vsc, slc⟩)
    (vc : vsc[11]? = some (.ref PT))
    (noP : K.lookup PT = none) :
    Nonempty (EndH l w K 8 "script" mg fa h 63) := by
  have e := hfa.symm.trans (PySem.W.mg_of X G ad16)
  cases e
  have TLw : TL mg := ⟨PySem.W.mg_none_of X G z_len, PySem.W.mg_none_of X G z_int, PySem.W.mg_none_of X G z_abs, PySem.W.mg_none_of X G z_max, PySem.W.mg_none_of X G z_min, PySem.W.mg_none_of X G z_range, PySem.W.mg_none_of X G z_list, PySem.W.mg_none_of X G z_all⟩
  have T : TR K mg C := ⟨⟨⟨pg, hd, po, sa⟩, ha, hn, ht, hm⟩, nN, nU, PySem.W.mg_of X G aC, PySem.W.mg_none_of X G z_isinstance, PySem.W.mg_none_of X G z_int, PySem.W.mg_none_of X G z_bool, PySem.W.mg_none_of X G z_str, PySem.W.mg_none_of X G z_all, PySem.W.mg_of X G gG, ⟨_, PySem.W.mg_of X G gF, _, rfl⟩, k_ib, kit_same, kit_same, kit_same⟩
  have M : TL3 mg := ⟨PySem.W.mg_none_of X G z_len, PySem.W.mg_none_of X G z_int, PySem.W.mg_none_of X G z_str, PySem.W.mg_none_of X G z_all⟩
  have Z : TS K C := ⟨ks_NoneType, ks_bool, ks_int, ks_tuple, ks_list, ks_dict, k_rs⟩
  have Fd0 := fun_mk (st := sWhole) ld0 cd0 kd0
  have Fd1 := fun_mk (st := sFigs) ld1 cd1 kd1
  have Fd2 := fun_mk (st := sPot) ld2 cd2 kd2
  have Fd3 := fun_mk (st := sTake) ld3 cd3 kd3
  have Fd4 := fun_mk (st := sOf) ld4 cd4 kd4
  have Fd5 := fun_mk (st := sCells) ld5 cd5 kd5
  have Fd6 := fun_mk (st := sHeard) ld6 cd6 kd6
  have Fd7 := fun_mk (st := sOdd) ld7 cd7 kd7
  have Fd8 := fun_mk (st := sGcd) ld8 cd8 kd8
  have Fd9 := fun_mk (st := sFr) ld9 cd9 kd9
  have Fd10 := fun_mk (st := sRat) ld10 cd10 kd10
  have Fd11 := fun_mk (st := sFrT) ld11 cd11 kd11
  have Fd12 := fun_mk (st := sWh) ld12 cd12 kd12
  have Fd13 := fun_mk (st := sFrac) ld13 cd13 kd13
  have Fd14 := fun_mk (st := sSpo) ld14 cd14 kd14
  have Fd15 := fun_mk (st := sR) ld15 cd15 kd15
  have Fd16 := fun_mk (st := sLaw) ld16 cd16 kd16
  have Fm1 := fun_mk (st := sRepr) lm1 cm1 km1
  have Fm2 := fun_mk (st := sEq) lm2 cm2 km2
  have FI := fun_mk (st := sErr2) lI cI kI
  have bd0 := Fd0.binds (ps := ["value"]) fun _ _ _ _ _ _ us hl => match us, hl with | [_], _ => rfl
  have bd1 := Fd1.binds (ps := ["text"]) fun _ _ _ _ _ _ us hl => match us, hl with | [_], _ => rfl
  have bd2 := Fd2.binds (ps := ["script", "place"]) fun _ _ _ _ _ _ us hl => match us, hl with | [_, _], _ => rfl
  have bd3 := Fd3.binds (ps := ["pot", "upto"]) fun _ _ _ _ _ _ us hl => match us, hl with | [_, _], _ => rfl
  have bd4 := Fd4.binds (ps := ["pot", "some"]) fun _ _ _ _ _ _ us hl => match us, hl with | [_, _], _ => rfl
  have bd5 := Fd5.binds (ps := ["script", "most"]) fun _ _ _ _ _ _ us hl => match us, hl with | [_, _], _ => rfl
  have bd6 := Fd6.binds (ps := ["call"]) fun _ _ _ _ _ _ us hl => match us, hl with | [_], _ => rfl
  have bd7 := Fd7.binds (ps := ["pot"]) fun _ _ _ _ _ _ us hl => match us, hl with | [_], _ => rfl
  have bd8 := Fd8.binds (ps := ["one", "other"]) fun _ _ _ _ _ _ us hl => match us, hl with | [_, _], _ => rfl
  have bd9 := Fd9.binds (ps := ["number", "under"]) fun _ _ _ _ _ _ us hl => match us, hl with | [_, _], _ => rfl
  have bd10 := Fd10.binds (ps := ["one"]) fun _ _ _ _ _ _ us hl => match us, hl with | [_], _ => rfl
  have bd11 := Fd11.binds (ps := ["one"]) fun _ _ _ _ _ _ us hl => match us, hl with | [_], _ => rfl
  have bd12 := Fd12.binds (ps := ["word"]) fun _ _ _ _ _ _ us hl => match us, hl with | [_], _ => rfl
  have bd13 := Fd13.binds (ps := ["written"]) fun _ _ _ _ _ _ us hl => match us, hl with | [_], _ => rfl
  have bd14 := Fd14.binds (ps := ["pot", "text"]) fun _ _ _ _ _ _ us hl => match us, hl with | [_, _], _ => rfl
  have bd15 := Fd15.binds (ps := ["pot"]) fun _ _ _ _ _ _ us hl => match us, hl with | [_], _ => rfl
  have bm1 := Fm1.binds (ps := ["self"]) fun _ _ _ _ _ _ us hl => match us, hl with | [_], _ => rfl
  have bm2 := Fm2.binds (ps := ["self", "other"]) fun _ _ _ _ _ _ us hl => match us, hl with | [_, _], _ => rfl
  have FT := fun_mk (st := sTxt) lTx cTx keTx
  have FO := fun_mk (st := sOfT) lO cO keO
  have bI := FI.binds (ps := ["self", "value"]) fun _ _ _ _ _ _ us hl => match us, hl with | [_, _], _ => rfl
  have bT := FT.binds (ps := ["self"]) fun _ _ _ _ _ _ us hl => match us, hl with | [_], _ => rfl
  have bO := FO.binds (ps := ["text"]) fun _ _ _ _ _ _ us hl => match us, hl with | [_], _ => rfl
  have FD : FunD K "__init__" "Ratio.__init__" (defArgs sInit) (defBody sInit) (defScope sInit) [.int 1] [] fm0 _ := ⟨⟨_, _, _, _, _, _, _, _, _, _, rfl, lm0, cm0, .inr ⟨by simp, dT, _, [.int 1 tD], _, rfl, lD, rfl, .cons ⟨tD, rfl⟩ .nil⟩, .inl rfl⟩, km0⟩
  obtain ⟨dsA, vA, bA⟩ := FD.binds1 (ps := ["self", "number", "under"]) 3 1 (by simp) rfl (fun T kV doc pm an cdv ct us its h1 h2 => match us, its, h1, h2 with | [_, _, _], [_], _, _ => ⟨_, rfl, rfl⟩)
  have vA' : Vals ([] : List V) dsA := vA
  cases vA'
  obtain ⟨dsB, vB, bB⟩ := FD.binds1 (ps := ["self", "number", "under"]) 2 0 (by simp) rfl (fun T kV doc pm an cdv ct us its h1 h2 => match us, its, h1, h2 with | [_, _], [_], _, _ => ⟨_, rfl, rfl⟩)
  have tabI : PySem.W.tabIn K "_law_right" = some (cA, PT) := by
    unfold PySem.W.tabIn
    rw [ad15]
    simp only
    rw [ld15]
    show (match K.lookup cA with
      | some ⟨_, _, .fields vs, _⟩ => (match (vs[11]? : Option Value) with
        | some (.ref P) => some (cA, P)
        | _ => none)
      | _ => none) = _
    rw [lcA]
    simp only
    rw [vc]
  have exCT := PySem.W.exm_ref sK hdK tyK s_CT
  obtain ⟨codeT, tabT⟩ := tabs cA PT tabI
  refine ⟨{ fd := PySem.W.fnOf "law" "law" (defArgs sLaw) (defBody sLaw) (defScope sLaw) .none kVd16 dcd16 pmd16 and16 cdd16 ctd16, cs := [(cA, PT)], R := rLaw PT q0, tab := fun p hp => ?_, bind := fun s v => .of_eq rfl, holds := fun H a ns hl hb hH hS => spD_lawT (hH (cA, PT) (by simp)) noP hS ⟨ns, rfl, rfl, rfl, rfl⟩, ok := fun base _ _ hsy hTB => ?_ }⟩
  · rw [List.mem_singleton] at hp
    subst hp
    exact ⟨tabT, noP, codeT⟩
  have TB : LamX.TabB base mg cA PT := hTB (cA, PT) (by simp)
  have kWhole : Cf l.prog w K mg base _ "is_whole" [] _ := ⟨⟨_, _, _, [], [], ok_whole Fd0 T, PySem.W.mg_of X G ad0, kd0, bd0, .nil, fun _ => .nil⟩⟩
  have kErr := fn_err (P := l.prog) (w := w) (mg := mg) (base := base) FI scErr rfl rfl rfl
  have eCT : Ce l.prog w K mg base 1 CT "BadText" := ⟨PySem.W.mg_of X G gCT, ⟨⟨_, _, _, _, _, _, _, _, _, _, _, _, _, _, _, LCT, by rfl⟩, saCT, sub_CT, tyCT, kpCT⟩, nvCT, ⟨fI, _, _, kErr, inCT, tI, bI⟩⟩
  have xCT : XC K CT := ⟨gaCT, gtCT, sub_CT, hdCT, haCT, hn, ht, hmCT, nvCT⟩
  have oI := ok_init (P := l.prog) (w := w) (base := base) lm0 cm0 T kWhole
  have kR : Ci l.prog w K mg base 2 C "Ratio" [] (rInit C) := ⟨PySem.W.mg_of X G aC, ⟨_, _, _, [], [], oI, ⟨mkC, am0, im0, kC⟩, bA, .nil, fun _ => .nil⟩⟩
  have kR1 : Ci l.prog w K mg base 2 C "Ratio" [.int 1] (rInit C) := ⟨PySem.W.mg_of X G aC, ⟨_, _, _, dsB, [.int 1], oI, ⟨mkC, am0, im0, kC⟩, bB, vB, fun _ => .cons (.int 1) .nil⟩⟩
  have mRepr : Cm l.prog w K mg base _ C "__repr__" [] _ := ⟨T.ci.cl, ⟨_, _, _, [], [], ok_repr Fm1 T, ⟨am1, im1, km1⟩, bm1, .nil, fun _ => .nil⟩⟩
  have mEq : Cm l.prog w K mg base _ C "__eq__" [] _ := ⟨T.ci.cl, ⟨_, _, _, [], [], ok_eq Fm2 T, ⟨am2, im2, km2⟩, bm2, .nil, fun _ => .nil⟩⟩
  have pTxt : Cp l.prog w K mg base 1 C "text" (rTxt C) := ⟨T.ci.cl, ⟨_, _, _, _, ok_txt FT T, ⟨pT, gTx, kTx, ⟨_, rTx⟩⟩, bT⟩⟩
  have kFigs : Cf l.prog w K mg base _ "_all_figures" [] _ := ⟨⟨_, _, _, [], [], ok_figs Fd1 T, PySem.W.mg_of X G ad1, kd1, bd1, .nil, fun _ => .nil⟩⟩
  have sOf : Cs l.prog w K mg base 4 C "of" (rOfT K C CT) := ⟨⟨fS, pS, _, _, _, _, ok_ofT FO T eCT kFigs kR pTxt, gaO, tyO, rdO, fcO, rcO, hdO, keO, bO⟩⟩
  have kPot : Cf l.prog w K mg base _ "_law_pot" [] _ := ⟨⟨_, _, _, [], [], ok_pot Fd2 TLw, PySem.W.mg_of X G ad2, kd2, bd2, .nil, fun _ => .nil⟩⟩
  have kTake : Cf l.prog w K mg base _ "_law_take" [] _ := ⟨⟨_, _, _, [], [], ok_take Fd3 TLw, PySem.W.mg_of X G ad3, kd3, bd3, .nil, fun _ => .nil⟩⟩
  have kOf : Cf l.prog w K mg base _ "_law_of" [] _ := ⟨⟨_, _, _, [], [], ok_of Fd4 TLw kTake, PySem.W.mg_of X G ad4, kd4, bd4, .nil, fun _ => .nil⟩⟩
  have kCells : Cf l.prog w K mg base _ "_law_cells" [] _ := ⟨⟨_, _, _, [], [], ok_cells Fd5 TLw, PySem.W.mg_of X G ad5, kd5, bd5, .nil, fun _ => .nil⟩⟩
  have kGcd : Cf l.prog w K mg base _ "_law_gcd" [] _ := ⟨⟨_, _, _, [], [], ok_gcd Fd8 TLw, PySem.W.mg_of X G ad8, kd8, bd8, .nil, fun _ => .nil⟩⟩
  have kFr : Cf l.prog w K mg base _ "_law_fr" [] _ := ⟨⟨_, _, _, [], [], ok_fr Fd9 kGcd, PySem.W.mg_of X G ad9, kd9, bd9, .nil, fun _ => .nil⟩⟩
  have kRat : Cf l.prog w K mg base _ "_law_ratio" [] _ := ⟨⟨_, _, _, [], [], ok_ratio Fd10 kR, PySem.W.mg_of X G ad10, kd10, bd10, .nil, fun _ => .nil⟩⟩
  have kFrT : Cf l.prog w K mg base _ "_law_fr_text" [] _ := ⟨⟨_, _, _, [], [], ok_frT Fd11 M, PySem.W.mg_of X G ad11, kd11, bd11, .nil, fun _ => .nil⟩⟩
  have kWh : Cf l.prog w K mg base _ "_law_whole" [] _ := ⟨⟨_, _, _, [], [], ok_wh Fd12 M, PySem.W.mg_of X G ad12, kd12, bd12, .nil, fun _ => .nil⟩⟩
  have kFrac : Cf l.prog w K mg base _ "_law_fraction_in" [] _ := ⟨⟨_, _, _, [], [], ok_frac Fd13 M kWh kFr, PySem.W.mg_of X G ad13, kd13, bd13, .nil, fun _ => .nil⟩⟩
  have kSpo : Cf l.prog w K mg base _ "_law_spoilt" [] _ := ⟨⟨_, _, _, [], [], ok_spoilt Fd14 M.len kTake kOf, PySem.W.mg_of X G ad14, kd14, bd14, .nil, fun _ => .nil⟩⟩
  have kOdd : Cf l.prog w K mg base _ "_law_odd" [] _ := ⟨⟨_, _, _, [], [], ok_odd Fd7 kOf, PySem.W.mg_of X G ad7, kd7, bd7, .nil, fun _ => .nil⟩⟩
  have kHeard : Cl l.prog w K mg base false _ _ "_law_heard" (rHear K CK) := ⟨⟨_, _, _, ok_heard (j := 5) Fd6 (PySem.W.mg_of X G gK), PySem.W.mg_of X G ad6, kd6, bd6⟩⟩
  have R : VR l.prog w K mg base C CT CK := ⟨T, M, Z, PySem.W.mg_none_of X G z_repr, PySem.W.mg_none_of X G z_range, hsy, xCT, PySem.W.mg_of X G gCT, exCT, nf, ⟨ne, hm⟩, mEq, mRepr, kR1, pTxt, sOf, kTake, kOf, kFr, kRat, kFrT, kFrac, kSpo, kOdd, kHeard⟩
  have kRight : Cg l.prog w K mg base _ "_law_right" [] _ := ⟨⟨_, _, _, [], [], ok_right ld15 cd15 TB R, PySem.W.mg_of X G ad15, kd15, bd15, .nil, fun _ => .nil⟩⟩
  exact ok_law Fd16 TLw kCells kPot kRight
end K3

set_option Elab.async false
set_option linter.all false
open PySem PySem.W PyProof.Rows
set_option maxRecDepth 100000 in
set_option maxHeartbeats 0 in
theorem PySem.Challenge.cw_looseknobs_k03_texts_of_ratios_holds : PySem.Challenge.rw_looseknobs_k03_texts_of_ratios.Holds := by
  w_on; o_law; k_head; (case hw => w_witness2)
  k_fill
  refine Dl.walk_H (l := PySem.Challenge.rw_looseknobs_k03_texts_of_ratios) (n := 63) (k := 8) (x := "script") rfl (by decide) (by first | rfl | decide +kernel | with_unfolding_all rfl) rfl ⟨rfl, by decide, by decide⟩ (fun w h Y => PySem.W.km_in_of Y) ?F
  case F =>
    intro w mg fa h KX G hmg tabs
    refine' K3.all_mk KX G hmg (fun c P e => tabs "_law_right" _ c P ?rec e) ?ad0 ?ld0 ?cd0 ?kd0 ?ad1 ?ld1 ?cd1 ?kd1 ?ad2 ?ld2 ?cd2 ?kd2 ?ad3 ?ld3 ?cd3 ?kd3 ?ad4 ?ld4 ?cd4 ?kd4 ?ad5 ?ld5 ?cd5 ?kd5 ?ad6 ?ld6 ?cd6 ?kd6 ?ad7 ?ld7 ?cd7 ?kd7 ?ad8 ?ld8 ?cd8 ?kd8 ?ad9 ?ld9 ?cd9 ?kd9 ?ad10 ?ld10 ?cd10 ?kd10 ?ad11 ?ld11 ?cd11 ?kd11 ?ad12 ?ld12 ?cd12 ?kd12 ?ad13 ?ld13 ?cd13 ?kd13 ?ad14 ?ld14 ?cd14 ?kd14 ?ad15 ?ld15 ?cd15 ?kd15 ?ad16 ?ld16 ?cd16 ?kd16 ?aC ?am0 ?im0 ?lm0 ?cm0 ?km0 ?am1 ?im1 ?lm1 ?cm1 ?km1 ?am2 ?im2 ?lm2 ?cm2 ?km2 ?lD ?pg ?hd ?po ?sa ?mkC ?kC ?nN ?nU ?ha ?hn ?ht ?hm ?nf ?ne ?k_ib ?ks_NoneType ?ks_bool ?ks_int ?ks_tuple ?ks_list ?ks_dict ?k_rs ?pT ?gTx ?kTx ?rTx ?lTx ?cTx ?keTx ?gaO ?tyO ?rdO ?fcO ?rcO ?hdO ?lO ?cO ?keO ?gF ?z_len ?z_int ?z_abs ?z_max ?z_min ?z_range ?z_list ?z_all ?z_isinstance ?z_bool ?z_repr ?z_str ?gG ?gK ?gCT ?LCT ?saCT ?sub_CT ?tyCT ?kpCT ?nvCT ?inCT ?gaCT ?gtCT ?hdCT ?haCT ?hmCT ?s_CT ?tI ?lI ?cI ?kI ?sK ?hdK ?tyK ?lcA ?vc ?noP
    (case rec => first | rfl | k_is | with_unfolding_all rfl)
    (case ad0 => k_is)
    (case ld0 => k_is)
    (case cd0 => k_is)
    (case kd0 => k_is)
    (case ad1 => k_is)
    (case ld1 => k_is)
    (case cd1 => k_is)
    (case kd1 => k_is)
    (case ad2 => k_is)
    (case ld2 => k_is)
    (case cd2 => k_is)
    (case kd2 => k_is)
    (case ad3 => k_is)
    (case ld3 => k_is)
    (case cd3 => k_is)
    (case kd3 => k_is)
    (case ad4 => k_is)
    (case ld4 => k_is)
    (case cd4 => k_is)
    (case kd4 => k_is)
    (case ad5 => k_is)
    (case ld5 => k_is)
    (case cd5 => k_is)
    (case kd5 => k_is)
    (case ad6 => k_is)
    (case ld6 => k_is)
    (case cd6 => k_is)
    (case kd6 => k_is)
    (case ad7 => k_is)
    (case ld7 => k_is)
    (case cd7 => k_is)
    (case kd7 => k_is)
    (case ad8 => k_is)
    (case ld8 => k_is)
    (case cd8 => k_is)
    (case kd8 => k_is)
    (case ad9 => k_is)
    (case ld9 => k_is)
    (case cd9 => k_is)
    (case kd9 => k_is)
    (case ad10 => k_is)
    (case ld10 => k_is)
    (case cd10 => k_is)
    (case kd10 => k_is)
    (case ad11 => k_is)
    (case ld11 => k_is)
    (case cd11 => k_is)
    (case kd11 => k_is)
    (case ad12 => k_is)
    (case ld12 => k_is)
    (case cd12 => k_is)
    (case kd12 => k_is)
    (case ad13 => k_is)
    (case ld13 => k_is)
    (case cd13 => k_is)
    (case kd13 => k_is)
    (case ad14 => k_is)
    (case ld14 => k_is)
    (case cd14 => k_is)
    (case kd14 => k_is)
    (case ad15 => k_is)
    (case ld15 => k_is)
    (case cd15 => k_is)
    (case kd15 => k_is)
    (case ad16 => k_is)
    (case ld16 => k_is)
    (case cd16 => k_is)
    (case kd16 => k_is)
    (case aC => k_is)
    (case am0 => k_is)
    (case im0 => k_is)
    (case lm0 => k_is)
    (case cm0 => k_is)
    (case km0 => k_is)
    (case am1 => k_is)
    (case im1 => k_is)
    (case lm1 => k_is)
    (case cm1 => k_is)
    (case km1 => k_is)
    (case am2 => k_is)
    (case im2 => k_is)
    (case lm2 => k_is)
    (case cm2 => k_is)
    (case km2 => k_is)
    (case lD => k_is)
    (case pg => k_is)
    (case hd => k_is)
    (case po => k_is)
    (case sa => k_is)
    (case mkC => k_is)
    (case kC => k_is)
    (case nN => k_is)
    (case nU => k_is)
    (case ha => k_is)
    (case hn => k_is)
    (case ht => k_is)
    (case hm => k_is)
    (case nf => k_is)
    (case ne => k_is)
    (case k_ib => first | k_is | rfl | with_unfolding_all rfl)
    (case ks_NoneType => first | k_is | rfl | with_unfolding_all rfl)
    (case ks_bool => first | k_is | rfl | with_unfolding_all rfl)
    (case ks_int => first | k_is | rfl | with_unfolding_all rfl)
    (case ks_tuple => first | k_is | rfl | with_unfolding_all rfl)
    (case ks_list => first | k_is | rfl | with_unfolding_all rfl)
    (case ks_dict => first | k_is | rfl | with_unfolding_all rfl)
    (case k_rs => first | k_is | rfl | with_unfolding_all rfl)
    (case pT => k_is)
    (case gTx => k_is)
    (case kTx => k_is)
    (case rTx => k_is)
    (case lTx => k_is)
    (case cTx => k_is)
    (case keTx => k_is)
    (case gaO => k_is)
    (case tyO => k_is)
    (case rdO => k_is)
    (case fcO => k_is)
    (case rcO => k_is)
    (case hdO => rfl)
    (case lO => k_is)
    (case cO => k_is)
    (case keO => k_is)
    (case gF => k_is)
    (case z_len => k_is)
    (case z_int => k_is)
    (case z_abs => k_is)
    (case z_max => k_is)
    (case z_min => k_is)
    (case z_range => k_is)
    (case z_list => k_is)
    (case z_all => k_is)
    (case z_isinstance => k_is)
    (case z_bool => k_is)
    (case z_repr => k_is)
    (case z_str => k_is)
    (case gG => k_is)
    (case gK => k_is)
    (case gCT => k_is)
    (case LCT => k_is)
    (case saCT => k_is)
    (case sub_CT => k_is)
    (case tyCT => k_is)
    (case kpCT => k_is)
    (case nvCT => k_is)
    (case inCT => k_is)
    (case gaCT => k_is)
    (case gtCT => k_is)
    (case hdCT => k_is)
    (case haCT => k_is)
    (case hmCT => k_is)
    (case s_CT => first | k_is | rfl)
    (case tI => k_is)
    (case lI => k_is)
    (case cI => k_is)
    (case kI => k_is)
    (case sK => k_is)
    (case hdK => k_is)
    (case tyK => k_is)
    (case lcA => k_is)
    (case vc => first | rfl | with_unfolding_all rfl)
    (case noP => first | rfl | with_unfolding_all rfl | k_is)
#print axioms PySem.Challenge.cw_looseknobs_k03_texts_of_ratios_holds

