import PyProof.Rows.All
import Wide.All
import OpenK.AllK
import Wide.FinOn
import HandS.ForMost
import HandS.ForExc
import HandS.Walk
import HandS.IsInst
import HandS.Property
import HandS.StrMore
import HandS.Wide
import HandS.Conv
import HandS.ExcInit
import HandS.Flow
import HandS.Lambda
import HandS.CallSlots
import HandS.ExcOwn
import HandS.Comp
import HandS.Iter
import KE.KOpsOwn
import KE.KFmtOwn
import HandS.Zip0
import PyProof.StrLoop
import HandS.More
import HandS.Text
import OpenK.KOps
import HandS.ExcValue
import HandS.TupAny
import KE.KExcIs
import HandS.Codes
import HandS.NoneIn
import HandS.Star
import KE.KUnpackStar
import KE.DatumOrd
import KE.GoesMore
import KE.GoesEnum
import HandS.EndBits
import HandS.Gcd
import HandS.FStr
import HandS.SetFor
import HandS.Strs
import OpenK.KWalk
import HandS.EndTab
import KE.KDictZip
import HandS.GenList
import HandS.List
import PyProof.ReprLen
import HandS.OwnEq
import PyProof.ListStr
import PyProof.SliceStr2
import HandS.DeepEq
import HandS.DictComp
import HandS.Dict
import HandS.WordsDict
import KE.KDictDisplayH
import HandS.Deep
import HandS.ExcIs
import HandS.Defaults
import PySem.Challenge.RW_looseknobs_k58_told_in_one_way_by_hand
set_option Elab.async false
set_option linter.all false
set_option maxRecDepth 100000
set_option maxHeartbeats 4000000
set_option autoImplicit false
namespace Dl
open PySem PySem.Spec PyProof.Rows L2
/-! ## data -/
inductive D where
  | non | bl (b : Bool) | int (i : Int) | str (x : Str) | ty (n : String) | adr (a : Addr)
  | tup (ds : List D) | lst (ds : List D) | dic (ks : List Key) (ds : List D)
  | ins (C : Addr) (ns : List Str) (ds : List D) | exc (C : Addr) (d : D) | sc (ns : List Int) | key (ks : List Key)
/-- an exception that was caught, at a -/
def ExO (C dx a : Addr) : HO := .ext fun h => ∃ oe vs, h.get? a = some oe ∧ Zc (.ref C) (some dx) oe ∧ oe.data = .fields vs
mutual
inductive Rep (K : PySem.W.Frag) (F : Hp) : V → D → Prop
  | non : Rep K F .non .non
  | bl (b) : Rep K F (.bl b) (.bl b)
  | int (i) : Rep K F (.int i) (.int i)
  | str (x) : Rep K F (.str x) (.str x)
  | ty (n) : Rep K F (.ty n) (.ty n)
  | adr (a) : Rep K F (.ref a) (.adr a)
  | tup {a vs ds} : SqT K F a vs → Reps K F vs ds → Rep K F (.ref a) (.tup ds)
  | lst {a vs ds} : F a = some (.lst vs) → Reps K F vs ds → Rep K F (.ref a) (.lst ds)
  | dic {a} {kvs : List (Key × V)} {ds} : F a = some (.dK kvs) → Reps K F (kvs.map (·.2)) ds → Rep K F (.ref a) (.dic (kvs.map (·.1)) ds)
  | ins {a C dx} {fs : List (Str × V)} {ds} : F a = some (.ins C dx fs) → Reps K F (fs.map (·.2)) ds → Rep K F (.ref a) (.ins C (fs.map (·.1)) ds)
  | exc {a C dx v d} : F a = some (ExO C dx a) → F dx = some (.xd [("value", v)]) → Rep K F v d → Rep K F (.ref a) (.exc C d)
  | sc {a ns} : SqL K F a (ns.map V.int) → Rep K F (.ref a) (.sc ns)
  | key {a} {ks : List Key} : F a = some (.tup (ks.map kV)) → Rep K F (.ref a) (.key ks)
inductive Reps (K : PySem.W.Frag) (F : Hp) : List V → List D → Prop
  | nil : Reps K F [] []
  | cons {v d vs ds} : Rep K F v d → Reps K F vs ds → Reps K F (v :: vs) (d :: ds)
end
theorem same_sqT {K : PySem.W.Frag} {H H' : Hp} {a : Addr} {xs : List V} (e : Same H H') (h : SqT K H a xs) : SqT K H' a xs := by
  rcases h with (h | ⟨o, h⟩) | h
  · exact .inl (.inl (e _ _ h))
  · exact .inl (.inr ⟨o, e _ _ h⟩)
  · exact .inr h
theorem same_sqL {K : PySem.W.Frag} {H H' : Hp} {a : Addr} {xs : List V} (e : Same H H') (h : SqL K H a xs) : SqL K H' a xs := by
  rcases h with (h | ⟨o, h⟩) | h
  · exact .inl (.inl (e _ _ h))
  · exact .inl (.inr ⟨o, e _ _ h⟩)
  · exact .inr h
mutual
theorem Rep.mono {K : PySem.W.Frag} {F F' : Hp} (e : Same F F') : ∀ {v d}, Rep K F v d → Rep K F' v d
  | _, _, .non => .non
  | _, _, .bl b => .bl b
  | _, _, .int b => .int b
  | _, _, .str b => .str b
  | _, _, .ty b => .ty b
  | _, _, .adr b => .adr b
  | _, _, .tup h r => .tup (same_sqT e h) (Reps.mono e r)
  | _, _, .lst h r => .lst (e _ _ h) (Reps.mono e r)
  | _, _, .dic h r => .dic (e _ _ h) (Reps.mono e r)
  | _, _, .ins h r => .ins (e _ _ h) (Reps.mono e r)
  | _, _, .exc h k r => .exc (e _ _ h) (e _ _ k) (Rep.mono e r)
  | _, _, .sc h => .sc (same_sqL e h)
  | _, _, .key h => .key (e _ _ h)
theorem Reps.mono {K : PySem.W.Frag} {F F' : Hp} (e : Same F F') : ∀ {v d}, Reps K F v d → Reps K F' v d
  | _, _, .nil => .nil
  | _, _, .cons a b => .cons (Rep.mono e a) (Reps.mono e b)
end
theorem Reps.length {K : PySem.W.Frag} {F : Hp} : ∀ {vs ds}, Reps K F vs ds → vs.length = ds.length
  | _, _, .nil => rfl
  | _, _, .cons _ t => congrArg (· + 1) (Reps.length t)
theorem Reps.get {K : PySem.W.Frag} {F : Hp} : ∀ {vs ds} {i : Nat} {d : D}, Reps K F vs ds → ds[i]? = some d → ∃ v, vs[i]? = some v ∧ Rep K F v d
  | _, _, _, _, .nil, e => by simp at e
  | _, _, 0, _, .cons r _, e => by simp at e; subst e; exact ⟨_, rfl, r⟩
  | _, _, i + 1, x, .cons _ t, e => by
    obtain ⟨u, h1, h2⟩ := Reps.get (i := i) (d := x) t (by simpa using e)
    exact ⟨u, by simpa using h1, h2⟩
theorem Reps.get' {K : PySem.W.Frag} {F : Hp} : ∀ {vs ds} {i : Nat} {v : V}, Reps K F vs ds → vs[i]? = some v → ∃ d, ds[i]? = some d ∧ Rep K F v d
  | _, _, _, _, .nil, e => by simp at e
  | _, _, 0, _, .cons r _, e => by simp at e; subst e; exact ⟨_, rfl, r⟩
  | _, _, i + 1, x, .cons _ t, e => by
    obtain ⟨u, h1, h2⟩ := Reps.get' (i := i) (v := x) t (by simpa using e)
    exact ⟨u, by simpa using h1, h2⟩
theorem Reps.append {K : PySem.W.Frag} {F : Hp} : ∀ {vs ds ws es}, Reps K F vs ds → Reps K F ws es → Reps K F (vs ++ ws) (ds ++ es)
  | _, _, _, _, .nil, s => s
  | _, _, _, _, .cons r t, s => .cons r (Reps.append t s)
theorem Reps.take {K : PySem.W.Frag} {F : Hp} : ∀ {vs ds} (n : Nat), Reps K F vs ds → Reps K F (vs.take n) (ds.take n)
  | _, _, 0, _ => .nil
  | _, _, _ + 1, .nil => .nil
  | _, _, n + 1, .cons r t => .cons r (Reps.take n t)
theorem Reps.drop {K : PySem.W.Frag} {F : Hp} : ∀ {vs ds} (n : Nat), Reps K F vs ds → Reps K F (vs.drop n) (ds.drop n)
  | _, _, 0, r => r
  | _, _, _ + 1, .nil => .nil
  | _, _, n + 1, .cons _ t => Reps.drop n t
theorem Reps.set {K : PySem.W.Frag} {F : Hp} {v : V} {d : D} (r : Rep K F v d) : ∀ {vs ds} (i : Nat), Reps K F vs ds → Reps K F (vs.set i v) (ds.set i d)
  | _, _, _, .nil => .nil
  | _, _, 0, .cons _ t => .cons r t
  | _, _, i + 1, .cons q t => .cons q (Reps.set r i t)
theorem Reps.rev {K : PySem.W.Frag} {F : Hp} : ∀ {vs ds}, Reps K F vs ds → Reps K F vs.reverse ds.reverse
  | _, _, .nil => .nil
  | _, _, .cons r t => by
    rw [List.reverse_cons, List.reverse_cons]
    exact (Reps.rev t).append (.cons r .nil)
/-! ## slots, what changes -/
inductive S where
  | p (d : D) | l (j : Nat)
inductive M where
  | lst (ds : List D) | dic (ks : List Key) (ds : List D) | obj (C : Addr) (ns : List Str) (ds : List D) | gone | tab (P : Addr) (q : Str) | pin (b : Addr) (m : M) | dT (kv : List (List Key × D)) | fT (o : Obj) (kvs : List (List Key × V)) (kv : List (List Key × D))
def RepS (K : PySem.W.Frag) (F : Hp) (A : List Addr) (v : V) : S → Prop
  | .p d => Rep K F v d
  | .l j => ∃ a, v = .ref a ∧ A[j]? = some a
theorem getElem?_pre {α : Type} {A A' : List α} (p : A <+: A') {j : Nat} {a : α} (h : A[j]? = some a) : A'[j]? = some a := by
  obtain ⟨B, rfl⟩ := p
  rw [List.getElem?_append_left (List.getElem?_eq_some_iff.mp h).1]
  exact h
theorem RepS.mono {K : PySem.W.Frag} {F F' : Hp} {A A' : List Addr} (e : Same F F') (p : A <+: A') {v : V} : ∀ {s}, RepS K F A v s → RepS K F' A' v s
  | .p _, h => Rep.mono e h
  | .l _, ⟨a, h1, h2⟩ => ⟨a, h1, getElem?_pre p h2⟩
inductive RepSs (K : PySem.W.Frag) (F : Hp) (A : List Addr) : List V → List S → Prop
  | nil : RepSs K F A [] []
  | cons {v s vs ss} : RepS K F A v s → RepSs K F A vs ss → RepSs K F A (v :: vs) (s :: ss)
theorem RepSs.mono {K : PySem.W.Frag} {F F' : Hp} {A A' : List Addr} (e : Same F F') (p : A <+: A') : ∀ {vs ss}, RepSs K F A vs ss → RepSs K F' A' vs ss
  | _, _, .nil => .nil
  | _, _, .cons a b => .cons (a.mono e p) (RepSs.mono e p b)
theorem RepSs.length {K : PySem.W.Frag} {F : Hp} {A : List Addr} : ∀ {vs ss}, RepSs K F A vs ss → vs.length = ss.length
  | _, _, .nil => rfl
  | _, _, .cons _ t => congrArg (· + 1) (RepSs.length t)
theorem RepSs.append {K : PySem.W.Frag} {F : Hp} {A : List Addr} : ∀ {vs ss vs' ss'}, RepSs K F A vs ss → RepSs K F A vs' ss' → RepSs K F A (vs ++ vs') (ss ++ ss')
  | _, _, _, _, .nil, s => s
  | _, _, _, _, .cons r t, s => .cons r (RepSs.append t s)
def MOk (K : PySem.W.Frag) (F : Hp) (A : List Addr) (H : Hp) (a : Addr) : M → Prop
  | .lst ds => ∃ vs, H a = some (.lst vs) ∧ Reps K F vs ds
  | .dic ks ds => ∃ kvs, H a = some (.dK kvs) ∧ kvs.map (·.1) = ks ∧ Reps K F (kvs.map (·.2)) ds
  | .obj C ns ds => ∃ dx fs, H a = some (.ins C dx fs) ∧ fs.map (·.1) = ns ∧ Reps K F (fs.map (·.2)) ds
  | .gone => ∃ o, H a = some o ∧ ∀ xs, o ≠ .tup xs
  | .tab P q => a = P ∧ ∃ ps : Array Value, H a = some (.tbl ps) ∧ TriplesOk ps.toList ∧ ∀ (pos : Pos) (cv : Value), codeAmong pos ps.toList = some cv → ∃ c, cv = .ref c ∧ F c = some (LamX.CodeO c q)
  | .pin b m => a = b ∧ MOk K F A H a m
  | .dT kv => ∃ kvs, H a = some (.dT kvs) ∧ kvs.map (·.1) = kv.map (·.1) ∧ Reps K F (kvs.map (·.2)) (kv.map (·.2))
  | .fT o kvs kv => H a = some (.frz o (.dT kvs)) ∧ kvs.map (·.1) = kv.map (·.1) ∧ Reps K F (kvs.map (·.2)) (kv.map (·.2))
theorem MOk.there {K : PySem.W.Frag} {F : Hp} {A : List Addr} {H : Hp} {a : Addr} : ∀ {m}, MOk K F A H a m → ∃ o, H a = some o
  | .lst _, ⟨_, h, _⟩ => ⟨_, h⟩
  | .dic _ _, ⟨_, h, _⟩ => ⟨_, h⟩
  | .obj _ _ _, ⟨_, _, h, _⟩ => ⟨_, h⟩
  | .gone, ⟨o, h, _⟩ => ⟨o, h⟩
  | .tab _ _, ⟨_, ps, h, _⟩ => ⟨_, h⟩
  | .pin _ _, ⟨_, h⟩ => MOk.there h
  | .dT _, ⟨_, h, _⟩ => ⟨_, h⟩
  | .fT _ _ _, ⟨h, _⟩ => ⟨_, h⟩
theorem MOk.there' {K : PySem.W.Frag} {F : Hp} {A : List Addr} {H : Hp} {a : Addr} : ∀ {m}, MOk K F A H a m → ∃ o, H a = some o ∧ ∀ xs, o ≠ .tup xs
  | .lst _, ⟨_, h, _⟩ => ⟨_, h, fun _ e => by cases e⟩
  | .dic _ _, ⟨_, h, _⟩ => ⟨_, h, fun _ e => by cases e⟩
  | .obj _ _ _, ⟨_, _, h, _⟩ => ⟨_, h, fun _ e => by cases e⟩
  | .gone, h => h
  | .tab _ _, ⟨_, ps, h, _⟩ => ⟨_, h, fun _ e => by cases e⟩
  | .pin _ _, ⟨_, h⟩ => MOk.there' h
  | .dT _, ⟨_, h, _⟩ => ⟨_, h, fun _ e => by cases e⟩
  | .fT _ _ _, ⟨h, _⟩ => ⟨_, h, fun _ e => by cases e⟩
theorem MOk.mono {K : PySem.W.Frag} {F F' : Hp} {A A' : List Addr} {H H' : Hp} {a : Addr} (e : Same F F') (p : A <+: A') (k : H' a = H a) : ∀ {m}, MOk K F A H a m → MOk K F' A' H' a m
  | .lst _, ⟨vs, h, r⟩ => ⟨vs, by rw [k]; exact h, r.mono e⟩
  | .dic _ _, ⟨kvs, h, q, r⟩ => ⟨kvs, by rw [k]; exact h, q, r.mono e⟩
  | .obj _ _ _, ⟨dx, fs, h, q, r⟩ => ⟨dx, fs, by rw [k]; exact h, q, r.mono e⟩
  | .gone, ⟨o, h, q⟩ => ⟨o, by rw [k]; exact h, q⟩
  | .tab _ _, ⟨e1, ps, h, t, g⟩ => ⟨e1, ps, by rw [k]; exact h, t, fun pos cv q => by
      obtain ⟨c, q1, q2⟩ := g pos cv q
      exact ⟨c, q1, e _ _ q2⟩⟩
  | .pin _ _, ⟨e1, h⟩ => ⟨e1, MOk.mono e p k h⟩
  | .dT _, ⟨kvs, h, q, r⟩ => ⟨kvs, by rw [k]; exact h, q, r.mono e⟩
  | .fT _ _ _, ⟨h, q, r⟩ => ⟨by rw [k]; exact h, q, r.mono e⟩
theorem MOk.cut {K : PySem.W.Frag} {F : Hp} {A A' : List Addr} {H : Hp} {a : Addr} : ∀ {m}, MOk K F A H a m → MOk K F A' H a m
  | .lst _, h => h
  | .dic _ _, h => h
  | .obj _ _ _, h => h
  | .gone, h => h
  | .tab _ _, h => h
  | .pin _ _, ⟨e1, h⟩ => ⟨e1, MOk.cut h⟩
  | .dT _, h => h
  | .fT _ _ _, h => h
/-- where a def began -/
structure En where
  K : PySem.W.Frag
  H0 : Hp
  F0 : Hp
  A0 : List Addr
def notGone : M → Prop
  | .gone => False
  | _ => True
structure Rc (N : En) (F : Hp) (A : List Addr) (H : Hp) (μ : List M) : Prop where
  sub : Same F H
  base : Same N.F0 F
  new : ∀ a o, F a = some o → (∃ o', N.F0 a = some o') ∨ N.H0 a = none ∨ (a ∉ N.A0 ∧ ∃ xs, N.H0 a = some (.tup xs))
  keep : ∀ a o, N.H0 a = some o → a ∉ N.A0 → H a = some o
  pre : ∃ B, A = N.A0 ++ B ∧ ∀ b ∈ B, N.H0 b = none
  nd : A.Nodup
  len : A.length = μ.length
  mus : ∀ (j : Nat) (a : Addr) (m : M), A[j]? = some a → μ[j]? = some m → MOk N.K F A H a m
  fr : ∀ (j : Nat) (a : Addr) (m : M), A[j]? = some a → μ[j]? = some m → notGone m → F a = none
structure Rl (N : En) (F : Hp) (A : List Addr) (H : Hp) (σ : L2.St) (δ : List (Option S)) (μ : List M) : Prop where
  rc : Rc N F A H μ
  len : δ.length = σ.length
  sl : ∀ (i : Nat) (s : S), δ[i]? = some (some s) → ∃ v, σ[i]? = some (some v) ∧ RepS N.K F A v s
theorem Rc.at {N : En} {F : Hp} {A : List Addr} {H : Hp} {μ : List M} (r : Rc N F A H μ) {j : Nat} {a : Addr} (h : A[j]? = some a) : ∃ m, μ[j]? = some m ∧ MOk N.K F A H a m := by
  have hj := (List.getElem?_eq_some_iff.mp h).1
  rw [r.len] at hj
  exact ⟨μ[j], List.getElem?_eq_getElem hj, r.mus j a _ h (List.getElem?_eq_getElem hj)⟩
theorem Rc.at' {N : En} {F : Hp} {A : List Addr} {H : Hp} {μ : List M} (r : Rc N F A H μ) {j : Nat} {m : M} (h : μ[j]? = some m) : ∃ a, A[j]? = some a ∧ MOk N.K F A H a m := by
  have hj := (List.getElem?_eq_some_iff.mp h).1
  rw [← r.len] at hj
  exact ⟨A[j], List.getElem?_eq_getElem hj, r.mus j _ _ (List.getElem?_eq_getElem hj) h⟩
theorem Rc.there {N : En} {F : Hp} {A : List Addr} {H : Hp} {μ : List M} (r : Rc N F A H μ) {a : Addr} (h : a ∈ A) : ∃ o, H a = some o := by
  obtain ⟨j, hj⟩ := List.getElem?_of_mem h
  obtain ⟨m, _, k⟩ := r.at hj
  exact k.there
theorem Rc.fresh {N : En} {F : Hp} {A : List Addr} {H : Hp} {μ : List M} (r : Rc N F A H μ) {p : Addr} (h : H p = none) : N.H0 p = none ∧ F p = none ∧ p ∉ A := by
  have hA : p ∉ A := fun hm => by
    obtain ⟨o, e⟩ := r.there hm
    rw [h] at e; cases e
  refine ⟨?_, r.sub.free h, hA⟩
  cases e : N.H0 p with
  | none => rfl
  | some o =>
    obtain ⟨B, rfl, _⟩ := r.pre
    rw [r.keep p o e fun hm => hA (List.mem_append_left _ hm)] at h
    cases h
theorem ne_mem {A : List Addr} {p a : Addr} {j : Nat} (h : p ∉ A) (h1 : A[j]? = some a) : a ≠ p := fun z => h (by rw [← z]; exact List.mem_of_getElem? h1)
theorem nodup_at {α : Type} {A : List α} (nd : A.Nodup) {i j : Nat} {a : α} (h1 : A[i]? = some a) (h2 : A[j]? = some a) : i = j := by
  obtain ⟨l1, e1⟩ := List.getElem?_eq_some_iff.mp h1
  obtain ⟨l2, e2⟩ := List.getElem?_eq_some_iff.mp h2
  exact (List.getElem_inj nd).mp (e1.trans e2.symm)
theorem ne_at {A : List Addr} (nd : A.Nodup) {i j : Nat} {a b : Addr} (hi : i ≠ j) (h1 : A[i]? = some b) (h2 : A[j]? = some a) : b ≠ a := fun z => hi (nodup_at nd h1 (by rw [z]; exact h2))
theorem same_updN {H : Hp} {p : Addr} {o : HO} (h : H p = none) : Same H (upd H p o) := fun b x e => by
  rw [upd_ne (ne_of_none e h)]
  exact e
/-- a new frozen object -/
theorem Rc.frozen {N : En} {F : Hp} {A : List Addr} {H : Hp} {μ : List M} (r : Rc N F A H μ) {p : Addr} (h : H p = none) (o : HO) : Rc N (upd F p o) A (upd H p o) μ where
  sub := fun b x e => by
    by_cases hb : b = p
    · subst hb; rw [upd_same] at e ⊢; exact e
    · rw [upd_ne hb] at e ⊢; exact r.sub b x e
  base := r.base.trans (same_updN (r.fresh h).2.1)
  new := fun a x e => by
    by_cases hb : a = p
    · subst hb; exact .inr (.inl (r.fresh h).1)
    · rw [upd_ne hb] at e; exact r.new a x e
  keep := fun a x e hA => by
    rw [upd_ne (ne_of_none e (r.fresh h).1)]
    exact r.keep a x e hA
  pre := r.pre
  nd := r.nd
  len := r.len
  mus := fun j a m h1 h2 => (r.mus j a m h1 h2).mono (same_updN (r.fresh h).2.1) (List.prefix_refl _) (upd_ne (ne_mem (r.fresh h).2.2 h1))
  fr := fun j a m h1 h2 h3 => by
    rw [upd_ne (ne_mem (r.fresh h).2.2 h1)]
    exact r.fr j a m h1 h2 h3
/-- a tuple that stands is frozen -/
theorem Rc.adoptK {N : En} {F : Hp} {A : List Addr} {H : Hp} {μ : List M} (r : Rc N F A H μ) {q : Addr} {xs : List V} (h : H q = some (.tup xs)) : ∃ F', Same F F' ∧ F' q = some (.tup xs) ∧ (∀ b, b ≠ q → F' b = F b) ∧ Rc N F' A H μ := by
  cases e : F q with
  | some x =>
    have := r.sub _ _ e
    rw [h] at this
    cases this
    exact ⟨F, Same.refl _, e, fun _ _ => rfl, r⟩
  | none =>
    have hA : q ∉ A := fun hm => by
      obtain ⟨j, hj⟩ := List.getElem?_of_mem hm
      obtain ⟨m, _, k⟩ := r.at hj
      obtain ⟨o, h1, h2⟩ := k.there'
      rw [h] at h1
      cases h1
      exact h2 xs rfl
    have sm : Same F (upd F q (.tup xs)) := same_updN e
    refine ⟨_, sm, upd_same, fun b hb => upd_ne hb, ⟨fun b x eb => ?_, r.base.trans sm, fun b x eb => ?_, r.keep, r.pre, r.nd, r.len, fun j a m h1 h2 => (r.mus j a m h1 h2).mono sm (List.prefix_refl _) rfl, fun j a m h1 h2 h3 => ?_⟩⟩
    · by_cases hb : b = q
      · subst hb; rw [upd_same] at eb; cases eb; exact h
      · rw [upd_ne hb] at eb; exact r.sub b x eb
    · by_cases hb : b = q
      · subst hb
        have h0 : b ∉ N.A0 := fun z => by
          obtain ⟨B, rfl, _⟩ := r.pre
          exact hA (List.mem_append_left _ z)
        cases e0 : N.H0 b with
        | none => exact .inr (.inl rfl)
        | some x =>
          have := r.keep b x e0 h0
          rw [h] at this
          cases this
          exact .inr (.inr ⟨h0, xs, rfl⟩)
      · rw [upd_ne hb] at eb; exact r.new b x eb
    · rw [upd_ne (ne_mem hA h1)]
      exact r.fr j a m h1 h2 h3
/-- a new object of no further interest -/
theorem Rc.junk {N : En} {F : Hp} {A : List Addr} {H : Hp} {μ : List M} (r : Rc N F A H μ) {p : Addr} (h : H p = none) (o : HO) : Rc N F A (upd H p o) μ where
  sub := r.sub.trans (same_updN h)
  base := r.base
  new := r.new
  keep := fun a x e hA => by
    rw [upd_ne (ne_of_none e (r.fresh h).1)]
    exact r.keep a x e hA
  pre := r.pre
  nd := r.nd
  len := r.len
  mus := fun j a m h1 h2 => (r.mus j a m h1 h2).mono (Same.refl _) (List.prefix_refl _) (upd_ne (ne_mem (r.fresh h).2.2 h1))
  fr := r.fr
/-- a new object that changes -/
theorem Rc.newM {N : En} {F : Hp} {A : List Addr} {H : Hp} {μ : List M} (r : Rc N F A H μ) {p : Addr} (h : H p = none) {o : HO} {m : M} (ok : MOk N.K F (A ++ [p]) (upd H p o) p m) : Rc N F (A ++ [p]) (upd H p o) (μ ++ [m]) where
  sub := r.sub.trans (same_updN h)
  base := r.base
  new := r.new
  keep := fun a x e hA => by
    rw [upd_ne (ne_of_none e (r.fresh h).1)]
    exact r.keep a x e hA
  pre := by
    obtain ⟨B, rfl, hB⟩ := r.pre
    refine ⟨B ++ [p], List.append_assoc .., fun b hb => ?_⟩
    rcases List.mem_append.mp hb with hb | hb
    · exact hB b hb
    · rw [List.mem_singleton] at hb; subst hb; exact (r.fresh h).1
  nd := List.nodup_append.mpr ⟨r.nd, by simp, fun a ha b hb => by
    rw [List.mem_singleton] at hb; subst hb
    intro z; subst z; exact (r.fresh h).2.2 ha⟩
  len := by simp [r.len]
  mus := fun j a m' h1 h2 => by
    by_cases hj : j < A.length
    · rw [List.getElem?_append_left hj] at h1
      rw [List.getElem?_append_left (by rw [← r.len]; exact hj)] at h2
      exact (r.mus j a m' h1 h2).mono (Same.refl _) (List.prefix_append _ _) (upd_ne (ne_mem (r.fresh h).2.2 h1))
    · rw [List.getElem?_append_right (by omega)] at h1
      rw [List.getElem?_append_right (by rw [← r.len]; omega), ← r.len] at h2
      have e : j - A.length = 0 := by
        have := (List.getElem?_eq_some_iff.mp h1).1
        simp at this; omega
      rw [e] at h1 h2
      simp at h1 h2
      subst h1 h2
      exact ok
  fr := fun j a m' h1 h2 h3 => by
    by_cases hj : j < A.length
    · rw [List.getElem?_append_left hj] at h1
      rw [List.getElem?_append_left (by rw [← r.len]; exact hj)] at h2
      exact r.fr j a m' h1 h2 h3
    · rw [List.getElem?_append_right (by omega)] at h1
      have e : j - A.length = 0 := by
        have := (List.getElem?_eq_some_iff.mp h1).1
        simp at this; omega
      rw [e] at h1
      simp at h1
      subst h1
      exact (r.fresh h).2.1
/-- a changing object is changed -/
theorem Rc.write {N : En} {F : Hp} {A : List Addr} {H : Hp} {μ : List M} (r : Rc N F A H μ) {j : Nat} {a : Addr} {m m' : M} (ha : A[j]? = some a) (hm : μ[j]? = some m) (ng : notGone m) {o : HO} (ok : MOk N.K F A (upd H a o) a m') : Rc N F A (upd H a o) (μ.set j m') where
  sub := fun b x e => by
    have hb : b ≠ a := fun z => by rw [z, r.fr j a m ha hm ng] at e; cases e
    rw [upd_ne hb]; exact r.sub b x e
  base := r.base
  new := r.new
  keep := fun b x e hA => by
    by_cases hb : b = a
    · subst hb
      obtain ⟨B, rfl, hB⟩ := r.pre
      rcases List.mem_append.mp (List.mem_of_getElem? ha) with h | h
      · exact absurd h hA
      · rw [hB _ h] at e; cases e
    · rw [upd_ne hb]; exact r.keep b x e hA
  pre := r.pre
  nd := r.nd
  len := by simp [r.len]
  mus := fun i b n h1 h2 => by
    by_cases hi : i = j
    · subst hi
      rw [ha] at h1; cases h1
      rw [List.getElem?_set_self (List.getElem?_eq_some_iff.mp hm).1] at h2
      cases h2
      exact ok
    · rw [List.getElem?_set_ne (Ne.symm hi)] at h2
      exact (r.mus i b n h1 h2).mono (Same.refl _) (List.prefix_refl _) (upd_ne (ne_at r.nd hi h1 ha))
  fr := fun i b n h1 h2 h3 => by
    by_cases hi : i = j
    · subst hi
      rw [ha] at h1; cases h1
      exact r.fr i _ m ha hm ng
    · rw [List.getElem?_set_ne (Ne.symm hi)] at h2
      exact r.fr i b n h1 h2 h3
/-- an own list is frozen -/
theorem Rc.freeze {N : En} {F : Hp} {A : List Addr} {H : Hp} {μ : List M} (r : Rc N F A H μ) {j : Nat} {a : Addr} {m : M} (ha : A[j]? = some a) (hm : μ[j]? = some m) (ng : notGone m) (hj : N.A0.length ≤ j) {o : HO} (ho : H a = some o) :
    Rc N (upd F a o) A H (μ.set j .gone) ∧ Same F (upd F a o) := by
  have hF := r.fr j a m ha hm ng
  have sm : Same F (upd F a o) := same_updN hF
  refine ⟨⟨fun b x e => ?_, r.base.trans sm, fun b x e => ?_, r.keep, r.pre, r.nd, by simp [r.len], fun i b n h1 h2 => ?_, fun i b n h1 h2 h3 => ?_⟩, sm⟩
  · by_cases hb : b = a
    · subst hb; rw [upd_same] at e; cases e; exact ho
    · rw [upd_ne hb] at e; exact r.sub b x e
  · by_cases hb : b = a
    · subst hb
      obtain ⟨B, rfl, hB⟩ := r.pre
      rw [List.getElem?_append_right hj] at ha
      exact .inr (.inl (hB _ (List.mem_of_getElem? ha)))
    · rw [upd_ne hb] at e; exact r.new b x e
  · by_cases hi : i = j
    · subst hi
      rw [ha] at h1; cases h1
      rw [List.getElem?_set_self (List.getElem?_eq_some_iff.mp hm).1] at h2
      cases h2
      exact (r.mus _ _ _ ha hm).there'
    · rw [List.getElem?_set_ne (Ne.symm hi)] at h2
      exact (r.mus i b n h1 h2).mono sm (List.prefix_refl _) rfl
  · by_cases hi : i = j
    · subst hi
      rw [List.getElem?_set_self (List.getElem?_eq_some_iff.mp hm).1] at h2
      cases h2
      exact h3.elim
    · rw [List.getElem?_set_ne (Ne.symm hi)] at h2
      rw [upd_ne (ne_at r.nd hi h1 ha)]
      exact r.fr i b n h1 h2 h3
/-- the last ones are let go -/
theorem Rc.trim {N : En} {F : Hp} {A : List Addr} {H : Hp} {μ : List M} (r : Rc N F A H μ) {n : Nat} (hn : N.A0.length ≤ n) : Rc N F (A.take n) H (μ.take n) := by
  have pp : A.take n <+: A := List.take_prefix _ _
  refine ⟨r.sub, r.base, r.new, r.keep, ?_, r.nd.sublist (List.take_sublist _ _), by simp [r.len], fun j a m h1 h2 => ?_, fun j a m h1 h2 h3 => ?_⟩
  · obtain ⟨B, rfl, hB⟩ := r.pre
    refine ⟨B.take (n - N.A0.length), ?_, fun b hb => hB b (List.mem_of_mem_take hb)⟩
    rw [List.take_append, List.take_of_length_le hn]
  · have k := r.mus j a m (getElem?_pre pp h1) (getElem?_pre (List.take_prefix _ _) h2)
    exact k.cut
  · exact r.fr j a m (getElem?_pre pp h1) (getElem?_pre (List.take_prefix _ _) h2) h3
theorem Rl.to {N : En} {F F' : Hp} {A A' : List Addr} {H H' : Hp} {σ : L2.St} {δ : List (Option S)} {μ μ' : List M} (r : Rl N F A H σ δ μ) (e : Same F F') (p : A <+: A') (r' : Rc N F' A' H' μ') : Rl N F' A' H' σ δ μ' :=
  ⟨r', r.len, fun i s h => by
    obtain ⟨v, h1, h2⟩ := r.sl i s h
    exact ⟨v, h1, h2.mono e p⟩⟩
theorem Rl.set {N : En} {F : Hp} {A : List Addr} {H : Hp} {σ : L2.St} {δ : List (Option S)} {μ : List M} (r : Rl N F A H σ δ μ) {i : Nat} {v : V} {s : S} (h : RepS N.K F A v s) : Rl N F A H (σ.set i (some v)) (δ.set i (some s)) μ :=
  ⟨r.rc, by simp [r.len], fun j t e => by
    by_cases hj : j = i
    · subst hj
      have hl : j < δ.length := by
        have := (List.getElem?_eq_some_iff.mp e).1
        simpa using this
      rw [List.getElem?_set_self hl] at e
      cases e
      exact ⟨v, List.getElem?_set_self (by rw [← r.len]; exact hl), h⟩
    · rw [List.getElem?_set_ne (Ne.symm hj)] at e ⊢
      exact r.sl j t e⟩
/-! ## results, judgements -/
inductive Rx where
  | v (s : S) | x (C : Addr) (d : D)
inductive Os where
  | nx (δ : List (Option S)) (μ : List M) | rt (s : S) (μ : List M) | xx (C : Addr) (d : D) (δ : List (Option S)) (μ : List M)
  | bk (δ : List (Option S)) (μ : List M) | ct (δ : List (Option S)) (μ : List M)
def EndE (N : En) (W : WX) (σ : L2.St) (δ : List (Option S)) (F : Hp) (A : List Addr) (μ' : List M) (Q : VK) : Rx → Prop
  | .v s => ∀ v F' A' H', Same F F' → A <+: A' → Rl N F' A' H' σ δ μ' → RepS N.K F' A' v s → Q v H'
  | .x C d => ∀ dx v F' A' H', Same F F' → A <+: A' → Rl N F' A' H' σ δ μ' → F' dx = some (.xd [("value", v)]) → Rep N.K F' v d → W (.ref C) (some dx) σ H'
def tD (N : En) (W : WX) (δ : List (Option S)) (μ : List M) (r : Rx) (μ' : List M) : TE := fun σ H Q => ∃ F A, Rl N F A H σ δ μ ∧ EndE N W σ δ F A μ' Q r
def DE (X : Cx) (N : En) (W : WX) (δ : List (Option S)) (μ : List M) (e : Expr) (r : Rx) (μ' : List M) : Prop := PE X e (tD N W δ μ r μ')
def tDT (N : En) (W : WX) (δ : List (Option S)) (μ : List M) (b : Bool) (μ' : List M) : TT := fun σ H Q => ∃ F A, Rl N F A H σ δ μ ∧ ∀ F' A' H', Same F F' → A <+: A' → Rl N F' A' H' σ δ μ' → Q b H'
def DT (X : Cx) (N : En) (W : WX) (δ : List (Option S)) (μ : List M) (e : Expr) (b : Bool) (μ' : List M) : Prop := PT X e (tDT N W δ μ b μ')
def DW (X : Cx) (N : En) (W : WX) (δ : List (Option S)) (μ : List M) (e : Expr) (b : Bool) (μ' : List M) : Prop := PW X e (tDT N W δ μ b μ')
def tDA (N : En) (W : WX) (δ : List (Option S)) (μ : List M) (ss : List S) (μ' : List M) : TA := fun σ H Q => ∃ F A, Rl N F A H σ δ μ ∧ ∀ vs F' A' H', Same F F' → A <+: A' → Rl N F' A' H' σ δ μ' → RepSs N.K F' A' vs ss → Q vs H'
def DA (X : Cx) (N : En) (W : WX) (δ : List (Option S)) (μ : List M) (es : List Expr) (ss : List S) (μ' : List M) : Prop := PA X es (tDA N W δ μ ss μ')
def EndS (N : En) (W : WX) (F : Hp) (A : List Addr) (K : Ends) : Os → Prop
  | .nx δ' μ' => ∀ σ' F' A' H', Same F F' → A <+: A' → Rl N F' A' H' σ' δ' μ' → K.nx σ' H'
  | .bk δ' μ' => ∀ σ' F' A' H', Same F F' → A <+: A' → Rl N F' A' H' σ' δ' μ' → K.bk σ' H'
  | .ct δ' μ' => ∀ σ' F' A' H', Same F F' → A <+: A' → Rl N F' A' H' σ' δ' μ' → K.ct σ' H'
  | .rt s μ' => ∀ v F' A' H', Same F F' → A <+: A' → Rc N F' A' H' μ' → RepS N.K F' A' v s → K.rt v H'
  | .xx C d δ' μ' => ∀ σ' dx v F' A' H', Same F F' → A <+: A' → Rl N F' A' H' σ' δ' μ' → F' dx = some (.xd [("value", v)]) → Rep N.K F' v d → W (.ref C) (some dx) σ' H'
def tDS (N : En) (W : WX) (δ : List (Option S)) (μ : List M) (o : Os) : TS := fun K σ H => ∃ F A, Rl N F A H σ δ μ ∧ EndS N W F A K o
def DS (X : Cx) (N : En) (W : WX) (δ : List (Option S)) (μ : List M) (st : Stmt) (o : Os) : Prop := PS X st (tDS N W δ μ o)
def DSs (X : Cx) (N : En) (W : WX) (δ : List (Option S)) (μ : List M) (sts : List Stmt) (o : Os) : Prop := PSs X sts (tDS N W δ μ o)
theorem PE.imp {X : Cx} {e : Expr} {t t' : TE} (h : PE X e t) (w : ∀ σ H Q, t' σ H Q → t σ H Q) : PE X e t' := ⟨fun p s σ H Q I q => h.run p s σ H Q I (w σ H Q q)⟩
theorem PT.imp {X : Cx} {e : Expr} {t t' : TT} (h : PT X e t) (w : ∀ σ H Q, t' σ H Q → t σ H Q) : PT X e t' := ⟨fun p s σ H Q I q => h.run p s σ H Q I (w σ H Q q)⟩
theorem PW.imp {X : Cx} {e : Expr} {t t' : TT} (h : PW X e t) (w : ∀ σ H Q, t' σ H Q → t σ H Q) : PW X e t' := ⟨fun wh p s σ H Q I q => h.run wh p s σ H Q I (w σ H Q q)⟩
theorem PA.imp {X : Cx} {e : List Expr} {t t' : TA} (h : PA X e t) (w : ∀ σ H Q, t' σ H Q → t σ H Q) : PA X e t' := ⟨fun po p s σ H Q I q => h.run po p s σ H Q I (w σ H Q q)⟩
theorem PS.imp {X : Cx} {e : Stmt} {t t' : TS} (h : PS X e t) (w : ∀ D σ H, t' D σ H → t D σ H) : PS X e t' := ⟨fun p s σ H D I q => h.run p s σ H D I (w D σ H q)⟩
theorem PSs.imp {X : Cx} {e : List Stmt} {t t' : TS} (h : PSs X e t) (w : ∀ D σ H, t' D σ H → t D σ H) : PSs X e t' := ⟨fun p s σ H D I q => h.run p s σ H D I (w D σ H q)⟩
/-- the heap may be taken as it is at the end -/
theorem EndE.to {N : En} {W : WX} {σ : L2.St} {δ : List (Option S)} {F F1 : Hp} {A A1 : List Addr} {μ' : List M} {Q : VK} (e : Same F F1) (p : A <+: A1) : ∀ {r}, EndE N W σ δ F A μ' Q r → EndE N W σ δ F1 A1 μ' Q r
  | .v _, h => fun v F' A' H' e' p' => h v F' A' H' (e.trans e') (p.trans p')
  | .x _ _, h => fun dx v F' A' H' e' p' => h dx v F' A' H' (e.trans e') (p.trans p')
theorem EndS.to {N : En} {W : WX} {F F1 : Hp} {A A1 : List Addr} {K : Ends} (e : Same F F1) (p : A <+: A1) : ∀ {o}, EndS N W F A K o → EndS N W F1 A1 K o
  | .nx _ _, h => fun σ F' A' H' e' p' => h σ F' A' H' (e.trans e') (p.trans p')
  | .bk _ _, h => fun σ F' A' H' e' p' => h σ F' A' H' (e.trans e') (p.trans p')
  | .ct _ _, h => fun σ F' A' H' e' p' => h σ F' A' H' (e.trans e') (p.trans p')
  | .rt _ _, h => fun σ F' A' H' e' p' => h σ F' A' H' (e.trans e') (p.trans p')
  | .xx _ _ _ _, h => fun σ dx v F' A' H' e' p' => h σ dx v F' A' H' (e.trans e') (p.trans p')
end Dl
set_option Elab.async false
set_option linter.all false
set_option maxRecDepth 100000
set_option maxHeartbeats 4000000
set_option autoImplicit false
namespace Dl
open PySem PySem.Spec PyProof.Rows L2
section
variable {X : Cx} {N : En} {W : WX} {δ δ' δ1 δ2 : List (Option S)} {μ μ' μ1 μ2 μ3 : List M} {e a b c : Expr} {pos : Pos} {d : D} {s s1 s2 : S} {r : Rx}
theorem EndE.here {σ : L2.St} {F : Hp} {A : List Addr} {Q : VK} {H : Hp} {v : V} (k : EndE N W σ δ F A μ Q (.v s)) (R : Rl N F A H σ δ μ) (h : RepS N.K F A v s) : Q v H := k v F A H (Same.refl _) (List.prefix_refl _) R h
/-! ### names and constants -/
theorem de_c {v : V} (h : PE X e (tC v)) (q : ∀ K F, Rep K F v d) : DE X N W δ μ e (.v (.p d)) μ :=
  PE.imp h fun σ H Q ⟨F, A, R, k⟩ => k.here R (q _ _)
theorem de_int {i : Int} {j} : DE X N W δ μ (.Constant (.int i) j pos) (.v (.p (.int i))) μ := de_c pe_int fun _ _ => .int i
theorem de_non {j} : DE X N W δ μ (.Constant .none j pos) (.v (.p .non)) μ := de_c pe_non fun _ _ => .non
theorem de_str {x : Str} {j} : DE X N W δ μ (.Constant (.str x) j pos) (.v (.p (.str x))) μ := de_c pe_str fun _ _ => .str x
theorem de_var (i : Nat) {x : Str} (hs : δ[i]? = some (some s) := by rfl) (hN : X.N[i]? = some x := by rfl) (hv : Vis X.env.scope x := by first | exact Or.inl rfl | exact Or.inr (Or.inl rfl) | exact Or.inr (Or.inr rfl))
    (hd : (x == ("__debug__" : Str)) = false := by decide) (hcd : (x == ("__classdict__" : Str)) = false := by decide) : DE X N W δ μ (.Name x pos) (.v s) μ :=
  PE.imp (pe_var hN hv hd hcd) fun σ H Q ⟨F, A, R, k⟩ => by
    obtain ⟨v, h1, h2⟩ := R.sl i s hs
    exact ⟨v, h1, k.here R h2⟩
theorem de_glob {x : Str} {v : V} {u : Value} (hm : X.mg x = some u) (q : RelV v u) (rp : ∀ K F, Rep K F v d) (hg : Gl X x := by rfl) (hd : (x == ("__debug__" : Str)) = false := by decide) : DE X N W δ μ (.Name x pos) (.v (.p d)) μ :=
  de_c (pe_glob hg hm q hd) rp
/-! ### operators by their values -/
def OpOk (X : Cx) (N : En) (W : WX) (f : Value → Value → Sem Value) (μ : List M) (s1 s2 : S) (r : Rx) (μ' : List M) : Prop :=
  ∃ rr : R2, OpR X f rr ∧ ∀ σ δ F A H x y Q, Rl N F A H σ δ μ → RepS N.K F A x s1 → RepS N.K F A y s2 → EndE N W σ δ F A μ' Q r → rr x y H Q
def UnOk (X : Cx) (N : En) (W : WX) (f : Value → Sem Value) (μ : List M) (s1 : S) (r : Rx) (μ' : List M) : Prop :=
  ∃ rr : V → Hp → VK → Prop, UnR X f rr ∧ ∀ σ δ F A H x Q, Rl N F A H σ δ μ → RepS N.K F A x s1 → EndE N W σ δ F A μ' Q r → rr x H Q
theorem two {rr : R2} {σ : L2.St} {H : Hp} {Q : VK} (hr : ∀ σ δ F A H x y Q, Rl N F A H σ δ μ2 → RepS N.K F A x s1 → RepS N.K F A y s2 → EndE N W σ δ F A μ3 Q r → rr x y H Q)
    (h : tD N W δ μ r μ3 σ H Q) : tOp rr (tD N W δ μ (.v s1) μ1) (tD N W δ μ1 (.v s2) μ2) σ H Q := by
  obtain ⟨F, A, R, k⟩ := h
  exact ⟨F, A, R, fun x F1 A1 H1 e1 p1 R1 rx => ⟨F1, A1, R1, fun y F2 A2 H2 e2 p2 R2 ry => hr σ δ F2 A2 H2 x y Q R2 (rx.mono e2 p2) ry (k.to (e1.trans e2) (p1.trans p2))⟩⟩
theorem de_bin {op : Operator} (ha : DE X N W δ μ a (.v s1) μ1) (hb : DE X N W δ μ1 b (.v s2) μ2) (h : OpOk X N W (binaryOp op) μ2 s1 s2 r μ3) : DE X N W δ μ (.BinOp a op b pos) r μ3 := by
  obtain ⟨rr, ho, hr⟩ := h
  exact PE.imp (pe_op ho ha hb) fun σ H Q q => two hr q
theorem de_un {op : UnaryOp} (ha : DE X N W δ μ a (.v s1) μ1) (h : UnOk X N W (unaryOp op) μ1 s1 r μ2) : DE X N W δ μ (.UnaryOp op a pos) r μ2 := by
  obtain ⟨rr, ho, hr⟩ := h
  exact PE.imp (pe_un ho ha) fun σ H Q ⟨F, A, R, k⟩ => ⟨F, A, R, fun x F1 A1 H1 e1 p1 R1 rx => hr σ δ F1 A1 H1 x Q R1 rx (k.to e1 p1)⟩
theorem de_cmp {op : CmpOp} (ha : DE X N W δ μ a (.v s1) μ1) (hb : DE X N W δ μ1 b (.v s2) μ2) (h : OpOk X N W (compareOp op) μ2 s1 s2 r μ3) (hm : behindInMarks op b = false := by first | exact nomark _ | rfl) : DE X N W δ μ (.Compare a [op] [b] pos) r μ3 := by
  obtain ⟨rr, ho, hr⟩ := h
  exact PE.imp (pe_cmpR ho ha hb hm) fun σ H Q q => two hr q
theorem EndE.bool {σ : L2.St} {F : Hp} {A : List Addr} {Q : Bool → Hp → Prop} {k : Bool} (h : ∀ F' A' H', Same F F' → A <+: A' → Rl N F' A' H' σ δ μ' → Q k H') : EndE N W σ δ F A μ' (fun x H' => ∃ k, x = .bl k ∧ Q k H') (.v (.p (.bl k))) :=
  fun v F' A' H' e p R rv => by
    cases rv
    exact ⟨k, rfl, h F' A' H' e p R⟩
theorem dt_cmp {op : CmpOp} {k : Bool} (ha : DE X N W δ μ a (.v s1) μ1) (hb : DE X N W δ μ1 b (.v s2) μ2) (h : OpOk X N W (compareOp op) μ2 s1 s2 (.v (.p (.bl k))) μ3) (hm : behindInMarks op b = false := by first | exact nomark _ | rfl) : DT X N W δ μ (.Compare a [op] [b] pos) k μ3 := by
  obtain ⟨rr, ho, hr⟩ := h
  exact PT.imp (pt_cmpR ho ha hb hm) fun σ H Q ⟨F, A, R, q⟩ => two (W := W) hr ⟨F, A, R, EndE.bool q⟩
theorem dt_val {k : Bool} (h : DE X N W δ μ e (.v (.p (.bl k))) μ1) (he : ∀ whole, isTrue e X.env whole = (do let v ← whole; standAt e.pos; holding [v] (truthy v)) := by intro _; rfl) : DT X N W δ μ e k μ1 :=
  PT.imp (pt_val h he) fun σ H Q ⟨F, A, R, q⟩ => ⟨F, A, R, EndE.bool q⟩
/-! ### tests -/
theorem dt_not {k : Bool} (h : DT X N W δ μ a k μ1) : DT X N W δ μ (.UnaryOp .Not a pos) (!k) μ1 := PT.imp (pt_not h) fun σ H Q ⟨F, A, R, q⟩ => ⟨F, A, R, q⟩
theorem de_not {k : Bool} (h : DE X N W δ μ a (.v (.p (.bl k))) μ1) : DE X N W δ μ (.UnaryOp .Not a pos) (.v (.p (.bl (!k)))) μ1 :=
  PE.imp (pe_not h) fun σ H Q ⟨F, A, R, q⟩ => ⟨F, A, R, fun v F' A' H' e p R' rv => by
    cases rv
    exact ⟨k, rfl, q _ F' A' H' e p R' (.bl _)⟩⟩
theorem dw_and1 {k : Bool} (h : DT X N W δ μ a k μ1) : DW X N W δ μ (.BoolOp .And [a] pos) k μ1 := pw_and1 h
theorem dw_or1 {k : Bool} (h : DT X N W δ μ a k μ1) : DW X N W δ μ (.BoolOp .Or [a] pos) k μ1 := pw_or1 h
theorem dw_no : PW X e (fun _ _ _ => False) := ⟨fun _ _ _ _ _ _ _ h => h.elim⟩
theorem pe_no : PE X e (fun _ _ _ => False) := ⟨fun _ _ _ _ _ _ h => h.elim⟩
theorem dw_and {rest : List Expr} {k k' : Bool} (h : DT X N W δ μ a k μ1) (h' : k = true → DW X N W δ μ1 (.BoolOp .And (b :: rest) pos) k' μ1) : DW X N W δ μ (.BoolOp .And (a :: b :: rest) pos) (k && k') μ1 := by
  cases k with
  | true => exact PW.imp (pw_and h (h' rfl)) fun σ H Q ⟨F, A, R, q⟩ => ⟨F, A, R, fun F1 A1 H1 e1 p1 R1 => iteT ⟨F1, A1, R1, fun F2 A2 H2 e2 p2 R2 => q F2 A2 H2 (e1.trans e2) (p1.trans p2) R2⟩⟩
  | false => exact PW.imp (pw_and h dw_no) fun σ H Q ⟨F, A, R, q⟩ => ⟨F, A, R, fun F1 A1 H1 e1 p1 R1 => iteF (q F1 A1 H1 e1 p1 R1)⟩
theorem dw_or {rest : List Expr} {k k' : Bool} (h : DT X N W δ μ a k μ1) (h' : k = false → DW X N W δ μ1 (.BoolOp .Or (b :: rest) pos) k' μ1) : DW X N W δ μ (.BoolOp .Or (a :: b :: rest) pos) (k || k') μ1 := by
  cases k with
  | false => exact PW.imp (pw_or h (h' rfl)) fun σ H Q ⟨F, A, R, q⟩ => ⟨F, A, R, fun F1 A1 H1 e1 p1 R1 => iteF ⟨F1, A1, R1, fun F2 A2 H2 e2 p2 R2 => q F2 A2 H2 (e1.trans e2) (p1.trans p2) R2⟩⟩
  | true => exact PW.imp (pw_or h dw_no) fun σ H Q ⟨F, A, R, q⟩ => ⟨F, A, R, fun F1 A1 H1 e1 p1 R1 => iteT (q F1 A1 H1 e1 p1 R1)⟩
theorem dt_w {k : Bool} (h : DW X N W δ μ e k μ1) : DT X N W δ μ e k μ1 := h.pt
/-- and, or of bools as values -/
theorem de_one {op : BoolOp} (h : DE X N W δ μ a r μ1) : DE X N W δ μ (.BoolOp op [a] pos) r μ1 := pe_one h
theorem de_and {rest : List Expr} {k k' : Bool} (h : DE X N W δ μ a (.v (.p (.bl k))) μ1) (h' : k = true → DE X N W δ μ1 (.BoolOp .And (b :: rest) pos) (.v (.p (.bl k'))) μ1) : DE X N W δ μ (.BoolOp .And (a :: b :: rest) pos) (.v (.p (.bl (k && k')))) μ1 := by
  cases k with
  | true => exact PE.imp (pe_and h (h' rfl)) fun σ H Q ⟨F, A, R, q⟩ => ⟨F, A, R, fun v F1 A1 H1 e1 p1 R1 rv => by
      cases rv
      exact ⟨true, rfl, iteT ⟨F1, A1, R1, fun w F2 A2 H2 e2 p2 R2 rw => q w F2 A2 H2 (e1.trans e2) (p1.trans p2) R2 rw⟩⟩⟩
  | false => exact PE.imp (pe_and h pe_no) fun σ H Q ⟨F, A, R, q⟩ => ⟨F, A, R, fun v F1 A1 H1 e1 p1 R1 rv => by
      cases rv
      exact ⟨false, rfl, iteF (q _ F1 A1 H1 e1 p1 R1 (.bl _))⟩⟩
theorem de_if {k : Bool} (h : DT X N W δ μ c k μ1) (ha : k = true → DE X N W δ μ1 a r μ2) (hb : k = false → DE X N W δ μ1 b r μ2) : DE X N W δ μ (.IfExp c a b pos) r μ2 := by
  cases k with
  | true => exact PE.imp (pe_ifExp h (ha rfl) pe_no) fun σ H Q ⟨F, A, R, q⟩ => ⟨F, A, R, fun F1 A1 H1 e1 p1 R1 => iteT ⟨F1, A1, R1, q.to e1 p1⟩⟩
  | false => exact PE.imp (pe_ifExp h pe_no (hb rfl)) fun σ H Q ⟨F, A, R, q⟩ => ⟨F, A, R, fun F1 A1 H1 e1 p1 R1 => iteF ⟨F1, A1, R1, q.to e1 p1⟩⟩
/-! ### arguments, displays -/
theorem da_nil : DA X N W δ μ [] [] μ := PA.imp pa_nil fun σ H Q ⟨F, A, R, q⟩ => q [] F A H (Same.refl _) (List.prefix_refl _) R .nil
theorem da_cons {es : List Expr} {ss : List S} (h : DE X N W δ μ e (.v s) μ1) (h' : DA X N W δ μ1 es ss μ2) (hs : starEach (e :: es) X.env = (false, eval e X.env) :: starEach es X.env := by rfl) : DA X N W δ μ (e :: es) (s :: ss) μ2 :=
  PA.imp (pa_cons h h' hs) fun σ H Q ⟨F, A, R, q⟩ => ⟨F, A, R, fun v F1 A1 H1 e1 p1 R1 rv => ⟨F1, A1, R1, fun vs F2 A2 H2 e2 p2 R2 rvs => q (v :: vs) F2 A2 H2 (e1.trans e2) (p1.trans p2) R2 (.cons (rv.mono e2 p2) rvs)⟩⟩
def DP (X : Cx) (N : En) (W : WX) (δ : List (Option S)) (μ : List M) (es : List Expr) (ds : List D) (μ' : List M) : Prop := DA X N W δ μ es (ds.map S.p) μ'
theorem dp_nil : DP X N W δ μ [] [] μ := da_nil
theorem dp_cons {es : List Expr} {ds : List D} (h : DE X N W δ μ e (.v (.p d)) μ1) (h' : DP X N W δ μ1 es ds μ2) (hs : starEach (e :: es) X.env = (false, eval e X.env) :: starEach es X.env := by rfl) : DP X N W δ μ (e :: es) (d :: ds) μ2 := da_cons h h' hs
theorem reps_of {K : PySem.W.Frag} {F : Hp} {A : List Addr} : ∀ {vs : List V} {ds : List D}, RepSs K F A vs (ds.map S.p) → Reps K F vs ds
  | _, [], .nil => .nil
  | _, _ :: _, .cons a b => .cons a (reps_of b)
theorem of_reps {K : PySem.W.Frag} {F : Hp} {A : List Addr} : ∀ {vs : List V} {ds : List D}, Reps K F vs ds → RepSs K F A vs (ds.map S.p)
  | _, [], .nil => .nil
  | _, _ :: _, .cons a b => .cons a (of_reps b)
theorem de_tup {es : List Expr} {ds : List D} {x1} (h : DP X N W δ μ es ds μ1) (hl : ds.length ≤ sizeLine := by first | (show _ ≤ sizeLine; decide) | (simp; decide)) : DE X N W δ μ (.Tuple es x1 pos) (.v (.p (.tup ds))) μ1 :=
  PE.imp (pe_tup h) fun σ H Q ⟨F, A, R, q⟩ => ⟨F, A, R, fun vs F1 A1 H1 e1 p1 R1 rv => ⟨by rw [(reps_of rv).length]; exact hl, fun p np => by
    have sm := same_updN (o := .tup vs) (R1.rc.fresh np).2.1
    exact q (.ref p) _ A1 _ (e1.trans sm) p1 (R1.to sm (List.prefix_refl _) (R1.rc.frozen np _)) (.tup (SqT.of upd_same) ((reps_of rv).mono sm))⟩⟩
theorem de_lst {es : List Expr} {ds : List D} (h : DP X N W δ μ es ds μ1) (hl : ds.length ≤ sizeLine := by first | (show _ ≤ sizeLine; decide) | (simp; decide)) : DE X N W δ μ (.List es pos) (.v (.p (.lst ds))) μ1 :=
  PE.imp (pe_lst h) fun σ H Q ⟨F, A, R, q⟩ => ⟨F, A, R, fun vs F1 A1 H1 e1 p1 R1 rv => ⟨by rw [(reps_of rv).length]; exact hl, fun p np => by
    have sm := same_updN (o := .lst vs) (R1.rc.fresh np).2.1
    exact q (.ref p) _ A1 _ (e1.trans sm) p1 (R1.to sm (List.prefix_refl _) (R1.rc.frozen np _)) (.lst upd_same ((reps_of rv).mono sm))⟩⟩
/-- a list that will change -/
theorem de_lstM {es : List Expr} {ds : List D} (h : DP X N W δ μ es ds μ1) (hl : ds.length ≤ sizeLine := by first | (show _ ≤ sizeLine; decide) | (simp; decide)) : DE X N W δ μ (.List es pos) (.v (.l μ1.length)) (μ1 ++ [.lst ds]) :=
  PE.imp (pe_lst h) fun σ H Q ⟨F, A, R, q⟩ => ⟨F, A, R, fun vs F1 A1 H1 e1 p1 R1 rv => ⟨by rw [(reps_of rv).length]; exact hl, fun p np => by
    have pp : A1 <+: A1 ++ [p] := List.prefix_append _ _
    refine q (.ref p) _ (A1 ++ [p]) _ e1 (p1.trans pp) (R1.to (Same.refl _) pp (R1.rc.newM np ⟨vs, upd_same, reps_of rv⟩)) ⟨p, rfl, ?_⟩
    rw [← R1.rc.len]; simp⟩⟩
/-! ### builtins -/
def CallOk (X : Cx) (N : En) (W : WX) (f : Value) (μ : List M) (ss : List S) (r : Rx) (μ' : List M) : Prop :=
  ∃ rr, CallR X f rr ∧ ∀ σ δ F A H vs Q, Rl N F A H σ δ μ → RepSs N.K F A vs ss → EndE N W σ δ F A μ' Q r → rr vs H Q
theorem de_callB {x : Str} {id : String} {p : Pos} {es : List Expr} {ss : List S} (ha : DA X N W δ μ (e :: es) ss μ1) (hc : CallOk X N W (.builtin id) μ1 ss r μ2) (hm : X.mg x = none) (hv : bootBuiltins x = some (.builtin id)) (hg : Gl X x := by rfl) (hn : x ≠ "__name__" := by decide) (hdb : (x == ("__debug__" : Str)) = false := by decide)
    (he : starEach (e :: es) X.env = (false, eval e X.env) :: starEach es X.env := by rfl) (hpl : (backTo pos (starEach es X.env)).any (·.1) = false := by rfl) : DE X N W δ μ (.Call (.Name x p) (e :: es) [] pos) r μ2 := by
  obtain ⟨rr, ho, hr⟩ := hc
  exact PE.imp (pe_callB ho hg hm hv ha hn hdb he hpl) fun σ H Q ⟨F, A, R, k⟩ => ⟨F, A, R, fun vs F1 A1 H1 e1 p1 R1 rv => hr σ δ F1 A1 H1 vs Q R1 rv (k.to e1 p1)⟩
theorem de_callT {x : Str} {T : String} {p : Pos} {es : List Expr} {ss : List S} (ha : DA X N W δ μ (e :: es) ss μ1) (hc : CallOk X N W (.type T) μ1 ss r μ2) (hm : X.mg x = none) (hv : bootBuiltins x = some (.type T)) (hg : Gl X x := by rfl) (hn : x ≠ "__name__" := by decide) (hdb : (x == ("__debug__" : Str)) = false := by decide)
    (he : starEach (e :: es) X.env = (false, eval e X.env) :: starEach es X.env := by rfl) (hpl : (backTo pos (starEach es X.env)).any (·.1) = false := by rfl) : DE X N W δ μ (.Call (.Name x p) (e :: es) [] pos) r μ2 := by
  obtain ⟨rr, ho, hr⟩ := hc
  exact PE.imp (pe_callTy ho hg hm hv ha hn hdb he hpl) fun σ H Q ⟨F, A, R, k⟩ => ⟨F, A, R, fun vs F1 A1 H1 e1 p1 R1 rv => hr σ δ F1 A1 H1 vs Q R1 rv (k.to e1 p1)⟩
/-- a method of a builtin type -/
def MtOk (X : Cx) (N : En) (W : WX) (T : String) (id : String) (μ0 μ : List M) (s : S) (ss : List S) (r : Rx) (μ' : List M) : Prop :=
  ∃ rr, MtR X id rr ∧ (∀ σ δ F A H x, Rl N F A H σ δ μ0 → RepS N.K F A x s → tyV X.K T x H) ∧ ∀ σ δ F A H x vs Q, Rl N F A H σ δ μ → RepS N.K F A x s → RepSs N.K F A vs ss → EndE N W σ δ F A μ' Q r → rr x vs H Q
theorem de_bm {o : Expr} {T id : String} {name : Str} {apos : Pos} {es : List Expr} {ss : List S} (pa : PlainAttrs T) (slot : Slot T name id) (hty : typeOf (.builtin id) = pure (.type "method_descriptor")) (ho : DE X N W δ μ o (.v s) μ1) (ha : DA X N W δ μ1 (e :: es) ss μ2) (h : MtOk X N W T id μ1 μ2 s ss r μ3)
    (hbase : attributeBase o name X.env (eval o X.env) = eval o X.env := by rfl)
    (hfew : ((backTo pos (starEach (e :: es) X.env)).all (fun x => !x.1) && (backToKw pos (keywordEach [] X.env)).all (fun x => x.1.isSome)
      && decide ((e :: es).length + ([] : List Keyword).length + (if ([] : List Keyword).isEmpty then 0 else 1) < 30)) = true := by rfl)
    (hline : (apos.endLine == pos.line) = true := by rfl) (hs : starEach (e :: es) X.env = (false, eval e X.env) :: starEach es X.env := by rfl) (hplain : (backTo pos (starEach es X.env)).any (·.1) = false := by rfl) :
    DE X N W δ μ (.Call (.Attribute o name apos) (e :: es) [] pos) r μ3 := by
  obtain ⟨rr, hm, ht, hr⟩ := h
  exact PE.imp (pe_bm pa slot hty hm ho ha hbase hfew hline hs hplain) fun σ H Q ⟨F, A, R, k⟩ => ⟨F, A, R, fun x F1 A1 H1 e1 p1 R1 rx => ⟨ht σ δ F1 A1 H1 x R1 rx, F1, A1, R1, fun vs F2 A2 H2 e2 p2 R2 rv => hr σ δ F2 A2 H2 x vs Q R2 (rx.mono e2 p2) rv (k.to (e1.trans e2) (p1.trans p2))⟩⟩
/-- a subscript -/
def IxOk (X : Cx) (N : En) (W : WX) (μ : List M) (s1 s2 : S) (r : Rx) (μ' : List M) : Prop :=
  ∃ rr : R2, IxR X rr ∧ ∀ σ δ F A H x y Q, Rl N F A H σ δ μ → RepS N.K F A x s1 → RepS N.K F A y s2 → EndE N W σ δ F A μ' Q r → rr x y H Q
theorem de_ix (ha : DE X N W δ μ a (.v s1) μ1) (hb : DE X N W δ μ1 b (.v s2) μ2) (h : IxOk X N W μ2 s1 s2 r μ3) (hs : PlainIx b := by exact fun _ _ => rfl) : DE X N W δ μ (.Subscript a b pos) r μ3 := by
  obtain ⟨rr, ho, hr⟩ := h
  exact PE.imp (pe_ix ho ha hb hs) fun σ H Q q => two hr q
/-! ### statements -/
theorem Rl.endS {σ : L2.St} {F : Hp} {A : List Addr} {H : Hp} {D : Ends} (k : EndS N W F A D (.nx δ μ)) (R : Rl N F A H σ δ μ) : D.nx σ H := k σ F A H (Same.refl _) (List.prefix_refl _) R
/-- what stands behind a statement -/
def Cont (X : Cx) (N : En) (W : WX) (rest : List Stmt) : Os → Os → Prop
  | .nx δ μ, o => DSs X N W δ μ rest o
  | o1, o => o = o1
theorem cn {rest : List Stmt} {o : Os} (h : DSs X N W δ μ rest o) : Cont X N W rest (.nx δ μ) o := h
theorem cr {rest : List Stmt} : Cont X N W rest (.rt s μ) (.rt s μ) := rfl
theorem cb {rest : List Stmt} : Cont X N W rest (.bk δ μ) (.bk δ μ) := rfl
theorem cc {rest : List Stmt} : Cont X N W rest (.ct δ μ) (.ct δ μ) := rfl
theorem pss_no {sts : List Stmt} : PSs X sts (fun _ _ _ => False) := ⟨fun _ _ _ _ _ _ h => h.elim⟩
theorem dss_nil : DSs X N W δ μ [] (.nx δ μ) := PSs.imp pss_nil fun K σ H ⟨F, A, R, k⟩ => R.endS k
theorem dss_cons {st : Stmt} {rest : List Stmt} {o1 o : Os} (h : DS X N W δ μ st o1) (h' : Cont X N W rest o1 o) : DSs X N W δ μ (st :: rest) o := by
  cases o1 with
  | nx δ1 μ1 =>
    exact PSs.imp (pss_cons h h') fun K σ H ⟨F, A, R, k⟩ => ⟨F, A, R, fun σ1 F1 A1 H1 e1 p1 R1 => ⟨F1, A1, R1, by
      have k' := k.to e1 p1
      cases o <;> exact k'⟩⟩
  | rt s μ1 =>
    cases h'
    exact PSs.imp (pss_cons h pss_no) fun K σ H ⟨F, A, R, k⟩ => ⟨F, A, R, k⟩
  | xx C d δ1 μ1 =>
    cases h'
    exact PSs.imp (pss_cons h pss_no) fun K σ H ⟨F, A, R, k⟩ => ⟨F, A, R, k⟩
  | bk δ1 μ1 =>
    cases h'
    exact PSs.imp (pss_cons h pss_no) fun K σ H ⟨F, A, R, k⟩ => ⟨F, A, R, k⟩
  | ct δ1 μ1 =>
    cases h'
    exact PSs.imp (pss_cons h pss_no) fun K σ H ⟨F, A, R, k⟩ => ⟨F, A, R, k⟩
theorem ds_expr (h : DE X N W δ μ e (.v s) μ1) (hs : swapsWith e none pos.line X.env = pure false := by rfl) : DS X N W δ μ (.Expr e pos) (.nx δ μ1) :=
  PS.imp (ps_expr h hs) fun K σ H ⟨F, A, R, k⟩ => ⟨F, A, R, fun v F1 A1 H1 e1 p1 R1 rv => k σ F1 A1 H1 e1 p1 R1⟩
theorem ds_ret (h : DE X N W δ μ e (.v s) μ1) : DS X N W δ μ (.Return (some e) pos) (.rt s μ1) :=
  PS.imp (ps_ret h) fun K σ H ⟨F, A, R, k⟩ => ⟨F, A, R, fun v F1 A1 H1 e1 p1 R1 rv => k v F1 A1 H1 e1 p1 R1.rc rv⟩
theorem ds_set (i : Nat) {x : Str} {pos' : Pos} (h : DE X N W δ μ e (.v s) μ1) (hN : X.N.Nodup) (hi : X.N[i]? = some x := by rfl) (hx : Loc X.env.scope x := by first | exact Or.inl rfl | exact Or.inr rfl) (hs : swapsWith e (some (.Name x pos')) pos.line X.env = pure false := by rfl)
    (hf : X.fn x = true ∨ X.env.scope.names.lookup x = some .local := by first | exact .inl rfl | exact .inr rfl) : DS X N W δ μ (.Assign [.Name x pos'] e pos) (.nx (δ.set i (some s)) μ1) :=
  PS.imp (ps_set (i := i) hN hi hx h hs hf) fun K σ H ⟨F, A, R, k⟩ => ⟨F, A, R, fun v F1 A1 H1 e1 p1 R1 rv => k _ F1 A1 H1 e1 p1 (R1.set rv)⟩
theorem ds_if {A B : List Stmt} {k : Bool} {o : Os} (h : DT X N W δ μ c k μ1) (ha : k = true → DSs X N W δ μ1 A o) (hb : k = false → DSs X N W δ μ1 B o) : DS X N W δ μ (.If c A B pos) o := by
  cases k with
  | true => exact PS.imp (ps_if h (ha rfl) pss_no) fun K σ H ⟨F, A, R, q⟩ => ⟨F, A, R, fun F1 A1 H1 e1 p1 R1 => iteT ⟨F1, A1, R1, q.to e1 p1⟩⟩
  | false => exact PS.imp (ps_if h pss_no (hb rfl)) fun K σ H ⟨F, A, R, q⟩ => ⟨F, A, R, fun F1 A1 H1 e1 p1 R1 => iteF ⟨F1, A1, R1, q.to e1 p1⟩⟩
end
end Dl
set_option Elab.async false
set_option linter.all false
set_option maxRecDepth 100000
set_option maxHeartbeats 4000000
set_option autoImplicit false
namespace Dl
open PySem PySem.Spec PyProof.Rows L2
/-! ## what a def promises -/
abbrev Rel := List S → List M → Rx → List M → Prop
def spD (K : PySem.W.Frag) (R : Rel) : Sp := fun vs H Q E => ∃ (F : Hp) (A : List Addr) (ss : List S) (μ : List M) (r : Rx) (μ' : List M), R ss μ r μ' ∧ Rc ⟨K, H, F, A⟩ F A H μ ∧ RepSs K F A vs ss ∧
  match r with
  | .v s => ∀ v F' A' H', Rc ⟨K, H, F, A⟩ F' A' H' μ' → RepS K F' A' v s → Q v H'
  | .x C d => ∀ dx v F' A' H', Rc ⟨K, H, F, A⟩ F' A' H' μ' → F' dx = some (.xd [("value", v)]) → Rep K F' v d → E (.ref C) (some dx) H'
theorem Rc.entry {N : En} {F : Hp} {A : List Addr} {H : Hp} {μ : List M} (r : Rc N F A H μ) : Rc ⟨N.K, H, F, A⟩ F A H μ :=
  ⟨r.sub, Same.refl _, fun a o e => .inl ⟨o, e⟩, fun _ _ e _ => e, ⟨[], by simp, fun _ h => by cases h⟩, r.nd, r.len, r.mus, r.fr⟩
theorem Rc.back {N : En} {F F' : Hp} {A A' : List Addr} {H H' : Hp} {μ μ' : List M} (r : Rc N F A H μ) (q : Rc ⟨N.K, H, F, A⟩ F' A' H' μ') : Rc N F' A' H' μ' where
  sub := q.sub
  base := r.base.trans q.base
  new := fun a o e => by
    rcases q.new a o e with ⟨o', h⟩ | h | ⟨hA, xs, h⟩
    · exact r.new a o' h
    · exact .inr (.inl (r.fresh h).1)
    · have h0 : a ∉ N.A0 := fun z => by
        obtain ⟨B, rfl, _⟩ := r.pre
        exact hA (List.mem_append_left _ z)
      cases e0 : N.H0 a with
      | none => exact .inr (.inl rfl)
      | some x =>
        have k := r.keep a x e0 h0
        rw [show H a = some (.tup xs) from h] at k
        cases k
        exact .inr (.inr ⟨h0, xs, rfl⟩)
  keep := fun a o e hA => by
    refine q.keep a o (r.keep a o e hA) fun hm => ?_
    obtain ⟨B, rfl, hB⟩ := r.pre
    rcases List.mem_append.mp hm with h | h
    · exact hA h
    · rw [hB a h] at e; cases e
  pre := by
    obtain ⟨B, rfl, hB⟩ := r.pre
    obtain ⟨B', e, hB'⟩ := q.pre
    refine ⟨B ++ B', by rw [e]; exact List.append_assoc .., fun b hb => ?_⟩
    rcases List.mem_append.mp hb with h | h
    · exact hB b h
    · exact (r.fresh (hB' b h)).1
  nd := q.nd
  len := q.len
  mus := q.mus
  fr := q.fr
theorem Rc.prefix_ {N : En} {F : Hp} {A : List Addr} {H : Hp} {μ : List M} (r : Rc N F A H μ) : N.A0 <+: A := by
  obtain ⟨B, rfl, _⟩ := r.pre
  exact List.prefix_append _ _
/-- where one stands -/
structure Go (X : Cx) (N : En) (W : WX) (n : Nat) : Prop where
  tk : Takes X W
  calm : X.calm = true
  hK : N.K = X.K
  room : Room n X.A
  po : PassesOwn (model X.prog X.w) X.A X.env X.xe
  nd : X.N.Nodup
/-- a def of the module by its name -/
structure Cf (P : Program) (w : World) (K : PySem.W.Frag) (mg : Str → Option Value) (base : Heap) (k : Nat) (x : Str) (dd : List D) (R : Rel) : Prop where
  ex : ∃ (f : Addr) (fd : FuncData) (ps : List Str) (ds : List Value) (dvs : List V), FnOk P w K mg base (L2.CX P w) k f fd ps (spD K R) ∧ mg x = some (.ref f) ∧ PySem.W.keepIn K (.ref f) = true ∧ Binds K fd ps ds ∧ Vals dvs ds ∧ ∀ F, Reps K F dvs dd
/-- a property -/
structure Cp (P : Program) (w : World) (K : PySem.W.Frag) (mg : Str → Option Value) (base : Heap) (k : Nat) (C : Addr) (x : Str) (R : Rel) : Prop where
  cls : Cls K C
  ex : ∃ (f p : Addr) (fd : FuncData) (ps : List Str), FnOk P w K mg base (L2.CX P w) k f fd ps (spD K R) ∧ PropOf K C x p f ∧ Binds K fd ps []
/-- a class that is made by its __init__ -/
structure Ci (P : Program) (w : World) (K : PySem.W.Frag) (mg : Str → Option Value) (base : Heap) (k : Nat) (C : Addr) (x : Str) (dd : List D) (R : Rel) : Prop where
  at_ : mg x = some (.ref C)
  ex : ∃ (f : Addr) (fd : FuncData) (ps : List Str) (ds : List Value) (dvs : List V), FnOk P w K mg base (L2.CX P w) k f fd ps (spD K R) ∧ Mk K C f ∧ Binds K fd ps ds ∧ Vals dvs ds ∧ ∀ F, Reps K F dvs dd
section
variable {X : Cx} {N : En} {W : WX} {n : Nat} {δ δ' δ1 δ2 : List (Option S)} {μ μ' μ1 μ2 μ3 : List M} {e a b c o : Expr} {es : List Expr} {ss : List S} {pos p apos : Pos} {d : D} {s s1 s2 : S} {r : Rx} {R : Rel} {k : Nat} {x m f : Str} {dd : List D} {C : Addr}
/-- the promise, for the caller -/
theorem spD_in {E : XK} {σ : L2.St} {F : Hp} {A : List Addr} {H : Hp} {vs : List V} {Q : VK} (hR : R ss μ r μ') (Rl0 : Rl N F A H σ δ μ) (rv : RepSs N.K F A vs ss) (k : EndE N (fun cls d _ H => E cls d H) σ δ F A μ' Q r) : spD N.K R vs H Q E := by
  refine ⟨F, A, ss, μ, r, μ', hR, Rl0.rc.entry, rv, ?_⟩
  cases r with
  | v s => exact fun v F' A' H' q rv => k v F' A' H' q.base q.prefix_ (Rl0.to q.base q.prefix_ (Rl0.rc.back q)) rv
  | x C d => exact fun dx v F' A' H' q h1 h2 => k dx v F' A' H' q.base q.prefix_ (Rl0.to q.base q.prefix_ (Rl0.rc.back q)) h1 h2
/-- an error that is raised within an expression: the wish of it, at these slots -/
theorem EndE.wish {σ : L2.St} {F : Hp} {A : List Addr} {Q : VK} (k : EndE N W σ δ F A μ' Q r) : EndE N (fun cls d _ H => W cls d σ H) σ δ F A μ' Q r := by
  cases r with
  | v s => exact k
  | x C d => exact k
theorem call_fnD {pins : List (Addr × Obj)} {σ : L2.St} {H : Hp} {sh : Shared} {F : Hp} {A : List Addr} {Q : VK} {us : List Value} {vs dvs : List V} {ds : List Value} {f : Addr} {fd : FuncData} {ps : List Str} (g : Go X N W n) (hk : k ≤ n)
    (Fo : FnOk X.prog X.w X.K X.mg X.base (L2.CX X.prog X.w) k f fd ps (spD X.K R)) (hb : Binds X.K fd ps ds) (hd : Vals dvs ds) (rd : ∀ F, Reps X.K F dvs dd) (I : Inv X pins σ H sh) (R0 : Rl N F A H σ δ μ) (rv : RepSs N.K F A vs ss) (ru : Vals vs us)
    (hR : R (ss ++ dd.map S.p) μ r μ') (q : EndE N W σ δ F A μ' Q r) : wpAny (model X.prog X.w) X.A (call (.ref f) us) (EP X pins σ Q) X.xe sh := by
  refine run_fnSD (E := WE W) Fo (g.room.mono hk) hb hd (passAt g.tk σ) I ru ?_
  have hK := g.hK
  rw [← hK] at rd ⊢
  exact spD_in hR R0 (rv.append (of_reps (rd F))) q.wish
theorem de_call (g : Go X N W n) (cf : Cf X.prog X.w X.K X.mg X.base k x dd R) (ha : DA X N W δ μ (e :: es) ss μ1) (hR : R (ss ++ dd.map S.p) μ1 r μ2) (hk : k ≤ n := by decide) (hg : Gl X x := by rfl) (hdb : (x == ("__debug__" : Str)) = false := by decide)
    (he : starEach (e :: es) X.env = (false, eval e X.env) :: starEach es X.env := by rfl) (hpl : (backTo pos (starEach es X.env)).any (·.1) = false := by rfl) : DE X N W δ μ (.Call (.Name x p) (e :: es) [] pos) r μ2 := by
  obtain ⟨f, fd, ps, ds, dvs, Fo, hm, hkp, hb, hd, rd⟩ := cf.ex
  refine ⟨fun pins s σ H Q I ⟨F, A, R0, q⟩ => ?_⟩
  refine wpAny_Call_Name_kw (ld_glob I hg hm ?_ hdb)
  refine PySem.W.callWith_K (h₀ := X.base) I.ok.mod.kin hkp (thn (ha.run pos pins s σ H (fun vs H' => ∃ F' A', Same F F' ∧ A <+: A' ∧ Rl N F' A' H' σ δ μ1 ∧ RepSs N.K F' A' vs ss) I ⟨F, A, R0, fun vs F' A' H' h1 h2 h3 h4 => ⟨F', A', h1, h2, h3, h4⟩⟩) fun us s1 ⟨vs, H1, I1, r1, F1, A1, e1, p1, R1, rv⟩ => ⟨I1.kIn, ?_⟩) he hpl
  exact call_fnD g hk Fo hb hd rd I1 R1 rv r1 hR (q.to e1 p1)
/-! ### instances -/
theorem lookup_rep {K : PySem.W.Frag} {F : Hp} {f : Str} : ∀ {fs : List (Str × V)} {ns : List Str} {ds : List D} {d : D}, fs.map (·.1) = ns → Reps K F (fs.map (·.2)) ds → (ns.zip ds).lookup f = some d → ∃ v, fs.lookup f = some v ∧ Rep K F v d
  | [], _, _, _, h, r, e => by
    subst h
    cases r
    cases e
  | (k, v) :: t, ns, ds, d, h, r, e => by
    subst h
    cases r with
    | cons r1 r2 =>
      rw [List.lookup_cons]
      rw [show (List.map (fun x : Str × V => x.1) ((k, v) :: t)).zip (_ :: _) = (k, _) :: (List.map (fun x : Str × V => x.1) t).zip _ from rfl, List.lookup_cons] at e
      cases hb : f == k with
      | true =>
        rw [hb] at e
        cases e
        exact ⟨v, rfl, r1⟩
      | false =>
        rw [hb] at e
        exact lookup_rep rfl r2 e
theorem rep_ins {K : PySem.W.Frag} {F : Hp} {v : V} {C : Addr} {ns : List Str} {ds : List D} (h : Rep K F v (.ins C ns ds)) : ∃ a dx fs, v = .ref a ∧ F a = some (.ins C dx fs) ∧ fs.map (·.1) = ns ∧ Reps K F (fs.map (·.2)) ds := by
  generalize hd : D.ins C ns ds = d at h
  cases h with
  | ins h1 h2 =>
    cases hd
    exact ⟨_, _, _, rfl, h1, rfl, h2⟩
  | _ => cases hd
/-- o.f, a field -/
theorem de_fld {ns : List Str} {ds : List D} (ho : DE X N W δ μ e (.v (.p (.ins C ns ds))) μ1) (g : Go X N W n) (c : Cls X.K C) (nf : NoAttr X.K C f) (hl : (ns.zip ds).lookup f = some d := by rfl) (hb : attributeBase e f X.env (eval e X.env) = eval e X.env := by rfl) : DE X N W δ μ (.Attribute e f pos) (.v (.p d)) μ1 :=
  PE.imp (pe_fld ho hb) fun σ H Q ⟨F, A, R, q⟩ => ⟨F, A, R, fun v F1 A1 H1 e1 p1 R1 rv => by
    obtain ⟨a, dx, fs, rfl, h1, h2, h3⟩ := rep_ins rv
    obtain ⟨w, h4, h5⟩ := lookup_rep h2 h3 hl
    exact ⟨a, C, dx, fs, w, rfl, R1.rc.sub _ _ h1, c, nf, h4, q w F1 A1 H1 e1 p1 R1 h5⟩⟩
/-- o.f, a property -/
theorem de_prop {ns : List Str} {ds' : List D} (g : Go X N W n) (cp : Cp X.prog X.w X.K X.mg X.base k C f R) (ho : DE X N W δ μ e (.v (.p (.ins C ns ds'))) μ1) (hR : R [.p (.ins C ns ds')] μ1 (.v s) μ2) (hk : k + 1 ≤ n := by decide)
    (hab : attributeBase e f X.env (eval e X.env) = eval e X.env := by rfl) : DE X N W δ μ (.Attribute e f pos) (.v s) μ2 := by
  obtain ⟨fa, p, fd, ps, Fo, hp, hb⟩ := cp.ex
  have hx : Passes (L2.CX X.prog X.w) X.nox (fun _ _ _ => False) := fun _ _ _ _ _ _ _ c => by
    obtain ⟨_, _, _, _, _, _, _, _, _, _, _, _, z⟩ := c
    exact z
  refine PE.imp (pe_prop ho cp.cls hp Fo (g.room.mono hk) hb .nil hx hab) fun σ H Q ⟨F, A, R0, q⟩ => ⟨F, A, R0, fun v F1 A1 H1 e1 p1 R1 rv => ?_⟩
  have rv' : Rep N.K F1 v (.ins C ns ds') := rv
  obtain ⟨a, dx, fs, rfl, h1, h2, h3⟩ := rep_ins rv'
  refine ⟨a, dx, fs, rfl, R1.rc.sub _ _ h1, ?_⟩
  have hK := g.hK
  rw [← hK]
  exact spD_in (r := .v s) (δ := δ) (σ := σ) (vs := [.ref a]) hR R1 (.cons rv' .nil) (fun v F' A' H' e' p' R' rv' => q v F' A' H' (e1.trans e') (p1.trans p') R' rv')
/-- what __init__ wants at a new instance -/
def MkEnd (N : En) (H1 F : Hp) (A : List Addr) (μ0 : List M) (Q : VK) (E : XK) : Rx → Prop
  | .v s => ∀ v F' A' H', Rc ⟨N.K, H1, F, A⟩ F' A' H' μ0 → RepS N.K F' A' v s → Q v H'
  | .x C2 d => ∀ dx' v F' A' H', Rc ⟨N.K, H1, F, A⟩ F' A' H' μ0 → F' dx' = some (.xd [("value", v)]) → Rep N.K F' v d → E (.ref C2) (some dx') H'
theorem make_in {E : XK} {σ : L2.St} {F : Hp} {A : List Addr} {H : Hp} {vs : List V} {Q : VK} {μ0 : List M} (R0 : Rl N F A H σ δ μ) (rv : RepSs N.K F A vs ss) (hR : R (.l μ.length :: ss) (μ ++ [.obj C [] []]) r μ0)
    {x dx : Addr} (nx : H x = none) (ndx : H dx = none) (ne : dx ≠ x) (k : MkEnd N (upd (upd H dx (.own x)) x (.ins C dx [])) F (A ++ [x]) μ0 Q E r) :
    spD N.K R (.ref x :: vs) (upd (upd H dx (.own x)) x (.ins C dx [])) Q E := by
  have r1 := R0.rc.junk ndx (.own x)
  have nx1 : (upd H dx (.own x)) x = none := by rw [upd_ne (Ne.symm ne)]; exact nx
  have r2 := r1.newM (m := .obj C [] []) nx1 (o := .ins C dx []) ⟨dx, [], upd_same, rfl, .nil⟩
  have pp : A <+: A ++ [x] := List.prefix_append _ _
  refine ⟨F, A ++ [x], .l μ.length :: ss, μ ++ [.obj C [] []], r, μ0, hR, r2.entry, .cons ⟨x, rfl, ?_⟩ (rv.mono (Same.refl _) pp), ?_⟩
  · rw [← R0.rc.len]; simp
  · cases r with
    | v s => exact k
    | x C2 d => exact k
/-- behind it: the new instance is let go -/
theorem made_back {σ : L2.St} {F F' : Hp} {A A' : List Addr} {H H' : Hp} {μ0 : List M} (R0 : Rl N F A H σ δ μ) {x dx : Addr} (nx : H x = none) (ndx : H dx = none) (ne : dx ≠ x) (q : Rc ⟨N.K, upd (upd H dx (.own x)) x (.ins C dx []), F, A ++ [x]⟩ F' A' H' μ0) :
    Rc N F' (A'.take μ.length) H' (μ0.take μ.length) ∧ A <+: A'.take μ.length ∧ A'[μ.length]? = some x ∧ Rc N F' A' H' μ0 := by
  have r1 := R0.rc.junk ndx (.own x)
  have nx1 : (upd H dx (.own x)) x = none := by rw [upd_ne (Ne.symm ne)]; exact nx
  have r2 := r1.newM (m := .obj C [] []) nx1 (o := .ins C dx []) ⟨dx, [], upd_same, rfl, .nil⟩
  have hb := r2.back q
  have pp := q.prefix_
  have hl : μ.length = A.length := R0.rc.len.symm
  have hA : N.A0.length ≤ μ.length := by
    rw [hl]
    obtain ⟨B, e, _⟩ := R0.rc.pre
    rw [e]; simp
  refine ⟨hb.trim hA, ?_, ?_, hb⟩
  · rw [hl]
    obtain ⟨B, rfl⟩ := pp
    rw [show A ++ [x] ++ B = A ++ ([x] ++ B) from List.append_assoc .., List.take_left]
    exact List.prefix_refl _
  · rw [hl]
    exact getElem?_pre pp (by simp)
/-- C(e, ..) -/
theorem de_make {ns : List Str} {ds' : List D} {μ0 : List M} (g : Go X N W n) (ci : Ci X.prog X.w X.K X.mg X.base k C x dd R) (ha : DA X N W δ μ (e :: es) ss μ1) (hR : R (.l μ1.length :: (ss ++ dd.map S.p)) (μ1 ++ [.obj C [] []]) (.v (.p .non)) μ0) (h0 : μ0[μ1.length]? = some (.obj C ns ds')) (ht : μ2 = μ0.take μ1.length)
    (hk : k + 1 ≤ n := by decide) (hg : Gl X x := by rfl) (hdb : (x == ("__debug__" : Str)) = false := by decide)
    (he : starEach (e :: es) X.env = (false, eval e X.env) :: starEach es X.env := by rfl) (hpl : (backTo pos (starEach es X.env)).any (·.1) = false := by rfl) : DE X N W δ μ (.Call (.Name x p) (e :: es) [] pos) (.v (.p (.ins C ns ds'))) μ2 := by
  subst ht
  obtain ⟨f, fd, ps, ds, dvs, Fo, Mk, hb, hd, rd⟩ := ci.ex
  have hx : Passes (L2.CX X.prog X.w) X (fun _ _ _ => False) := fun _ _ _ _ _ _ _ c => by
    obtain ⟨_, _, _, _, _, _, _, _, _, _, _, _, z⟩ := c
    exact z.elim
  refine PE.imp (pe_make Mk Fo (g.room.mono hk) hg ci.at_ hb hd hx ha hdb he hpl) fun σ H Q ⟨F, A, R0, q⟩ => ⟨F, A, R0, fun vs F1 A1 H1 e1 p1 R1 rv x dx nx ndx ne => ?_⟩
  have hK := g.hK
  rw [← hK] at rd ⊢
  refine make_in (r := .v (.p .non)) R1 (rv.append (of_reps (rd F1))) hR nx ndx ne fun v F' A' H' hq rn => ?_
  have rn' : Rep N.K F' v .non := rn
  refine ⟨by cases rn'; rfl, ?_⟩
  obtain ⟨b1, b2, b3, b4⟩ := made_back R1 nx ndx ne hq
  obtain ⟨dx', fs, h1, h2, h3⟩ := b4.mus _ _ _ b3 h0
  have hA : N.A0.length ≤ μ1.length := by
    rw [← R1.rc.len]
    obtain ⟨B, e, _⟩ := R1.rc.pre
    rw [e]; simp
  obtain ⟨b5, b6⟩ := b4.freeze b3 h0 trivial hA h1
  have b7 := b5.trim hA
  rw [show (μ0.set μ1.length M.gone).take μ1.length = μ0.take μ1.length from by rw [List.take_set_of_le (Nat.le_refl _)]] at b7
  have sm : Same F1 (upd F' x (.ins C dx' fs)) := hq.base.trans b6
  refine q (.ref x) _ _ H' (e1.trans sm) (p1.trans b2) (R1.to sm b2 b7) ?_
  have := Rep.ins (K := N.K) (C := C) (fs := fs) (ds := ds') (F := upd F' x (.ins C dx' fs)) upd_same (h3.mono b6)
  rw [h2] at this
  exact this
/-- o.f = e, a new attribute of what is being made -/
theorem putF_new {f : Str} {v : V} : ∀ {fs : List (Str × V)}, f ∉ fs.map (·.1) → putF f v fs = fs ++ [(f, v)]
  | [], _ => rfl
  | (k, w) :: r, h => by
    have h1 : k ≠ f := fun z => h (by rw [← z]; exact List.mem_cons_self)
    rw [show putF f v ((k, w) :: r) = (if k = f then (k, v) :: r else (k, w) :: putF f v r) from rfl, if_neg h1, putF_new fun z => h (List.mem_cons_of_mem _ z)]
    rfl
theorem Reps.snoc {K : PySem.W.Frag} {F : Hp} {vs : List V} {ds : List D} {v : V} {d : D} (h : Reps K F vs ds) (r : Rep K F v d) : Reps K F (vs ++ [v]) (ds ++ [d]) := h.append (.cons r .nil)
theorem ds_fldNew {pos' : Pos} {j : Nat} {ns : List Str} {ds : List D} (hv : DE X N W δ μ e (.v (.p d)) μ1) (ho : DE X N W δ μ1 o (.v (.l j)) μ2) (c : Cls X.K C) (nf : NoAttr X.K C f) (hm : μ2[j]? = some (.obj C ns ds)) (hn : f ∉ ns := by decide) (hl : ns.length < 900 := by decide)
    (hs : swapsWith e (some (.Attribute o f pos')) pos.line X.env = pure false := by rfl) : DS X N W δ μ (.Assign [.Attribute o f pos'] e pos) (.nx δ (μ2.set j (.obj C (ns ++ [f]) (ds ++ [d])))) :=
  PS.imp (ps_fld ho hv hs) fun K σ H ⟨F, A, R0, q⟩ => ⟨F, A, R0, fun v F1 A1 H1 e1 p1 R1 rv => ⟨F1, A1, R1, fun x F2 A2 H2 e2 p2 R2 rx => by
    obtain ⟨a, rfl, ha⟩ := rx
    have rv2 : Rep N.K F2 v d := Rep.mono e2 rv
    obtain ⟨dx, fs, h1, h2, h3⟩ := R2.rc.mus j a _ ha hm
    subst h2
    refine ⟨a, C, dx, fs, rfl, h1, c, nf, by rw [List.length_map] at hl; omega, ?_⟩
    rw [putF_new hn]
    refine q σ F2 A2 _ (e1.trans e2) (p1.trans p2) (R2.to (Same.refl _) (List.prefix_refl _) (R2.rc.write ha hm trivial ⟨dx, fs ++ [(f, v)], upd_same, by simp, ?_⟩))
    rw [List.map_append]
    exact h3.snoc rv2⟩⟩
end
/-! ## a def by its body -/
def starts (Nn : List Str) (ss : List S) : List (Option S) := ss.map some ++ List.replicate (Nn.length - ss.length) none
inductive Fit (n0 : Nat) : Os → Rx → List M → Prop
  | rt {s μ} : Fit n0 (.rt s μ) (.v s) μ
  | rtT {d μ n} : n0 ≤ n → Fit n0 (.rt (.p d) μ) (.v (.p d)) (μ.take n)
  | nx {δ μ} : Fit n0 (.nx δ μ) (.v (.p .non)) μ
  | nxT {δ μ n} : n0 ≤ n → Fit n0 (.nx δ μ) (.v (.p .non)) (μ.take n)
  | xx {C d δ μ} : Fit n0 (.xx C d δ μ) (.x C d) μ
  | xxT {C d δ μ n} : n0 ≤ n → Fit n0 (.xx C d δ μ) (.x C d) (μ.take n)
theorem start_slots {N : En} {F : Hp} {A : List Addr} {vs : List V} {ss : List S} (Nn : List Str) (r : RepSs N.K F A vs ss) : (starts Nn ss).length = (L2.start Nn vs).length ∧ ∀ (i : Nat) (s : S), (starts Nn ss)[i]? = some (some s) → ∃ v, (L2.start Nn vs)[i]? = some (some v) ∧ RepS N.K F A v s := by
  have hl := r.length
  refine ⟨by simp [starts, L2.start, hl], fun i s h => ?_⟩
  unfold starts at h
  by_cases hi : i < ss.length
  · rw [List.getElem?_append_left (by simpa using hi), List.getElem?_map] at h
    have key : ∀ {vs : List V} {ss : List S}, RepSs N.K F A vs ss → ∀ (i : Nat) (s : S), (ss[i]?).map some = some (some s) → ∃ v, vs[i]? = some v ∧ RepS N.K F A v s := by
      intro vs ss r
      induction r with
      | nil => intro i s e; simp at e
      | cons a b ih =>
        intro i s e
        cases i with
        | zero => simp at e; subst e; exact ⟨_, rfl, a⟩
        | succ i =>
          obtain ⟨v, h1, h2⟩ := ih i s (by simpa using e)
          exact ⟨v, by simpa using h1, h2⟩
    obtain ⟨v, h1, h2⟩ := key r i s h
    refine ⟨v, ?_, h2⟩
    unfold L2.start
    have hv : i < (vs.map some).length := by simpa [hl] using hi
    rw [List.getElem?_append_left hv, List.getElem?_map, h1]
    rfl
  · rw [List.getElem?_append_right (by simpa using hi), List.getElem?_replicate] at h
    split at h <;> cases h
theorem fn_D {P : Program} {w : World} {K : PySem.W.Frag} {mg : Str → Option Value} {base : Heap} {x qual : Str} {st : Stmt} {f : Addr} {fd : FuncData} {Nn ps : List Str} {k : Nat} {R : Rel} (F : Fun K x qual st f fd) (Sc : FnScope Nn ps (defScope st)) (hlen : ∀ ss μ r μ', R ss μ r μ' → ss.length = ps.length)
    (body : ∀ (cdv : Value) (A : Around) (outer : List Env) (s : Shared) (H : Hp) (E : XK) (N : En) (W : WX) (ss : List S) (μ : List M) (r : Rx) (μ' : List M), Go (cxOf (L2.CX P w) P w K mg base Nn qual (defScope st) f cdv A outer s H E) N W k → N.A0.length = μ.length → R ss μ r μ' →
      ∃ o, DSs (cxOf (L2.CX P w) P w K mg base Nn qual (defScope st) f cdv A outer s H E) N W (starts Nn ss) μ (defBody st) o ∧ Fit μ.length o r μ') :
    FnOk P w K mg base (L2.CX P w) (k + 1) f fd ps (spD K R) := by
  refine F.okX Sc (fun vs H Q E h => ?_) (fun cdv A outer s H vs Q E hr h => ?_)
  · obtain ⟨F0, A0, ss, μ, r, μ', hR, _, rv, _⟩ := h
    rw [rv.length]
    exact hlen _ _ _ _ hR
  · obtain ⟨F0, A0, ss, μ, r, μ', hR, rc, rv, hq⟩ := h
    have g : Go (cxOf (L2.CX P w) P w K mg base Nn qual (defScope st) f cdv A outer s H E) ⟨K, H, F0, A0⟩ (fun cls d _ H => E cls d H) k :=
      ⟨takes_of rfl rfl rfl rfl, rfl, rfl, hr, passes_of rfl, Sc.nd⟩
    have h0 : A0.length = μ.length := rc.len
    obtain ⟨o, hd, fit⟩ := body cdv A outer s H E ⟨K, H, F0, A0⟩ _ ss μ r μ' g h0 hR
    refine ⟨_, hd, F0, A0, ⟨rc, (start_slots (N := ⟨K, H, F0, A0⟩) Nn rv).1, (start_slots (N := ⟨K, H, F0, A0⟩) Nn rv).2⟩, ?_⟩
    · cases fit with
      | rt => exact fun v F' A' H' e p rc' rv' => hq v F' A' H' rc' rv'
      | rtT hn => exact fun v F' A' H' e p rc' rv' => hq v F' _ H' (rc'.trim (by show A0.length ≤ _; omega)) rv'
      | nx => exact fun σ' F' A' H' e p R' => hq .non F' A' H' R'.rc .non
      | nxT hn => exact fun σ' F' A' H' e p R' => hq .non F' _ H' (R'.rc.trim (by show A0.length ≤ _; omega)) .non
      | xx => exact fun σ' dx v F' A' H' e p R' h1 h2 => hq dx v F' A' H' R'.rc h1 h2
      | xxT hn => exact fun σ' dx v F' A' H' e p R' h1 h2 => hq dx v F' _ H' (R'.rc.trim (by show A0.length ≤ _; omega)) h1 h2
end Dl
set_option Elab.async false
set_option linter.all false
set_option maxRecDepth 100000
set_option maxHeartbeats 4000000
set_option autoImplicit false
namespace Dl
open PySem PySem.Spec PyProof.Rows L2
/-! ## what is walked -/
/-- an item comes: as it stands, or in a new tuple -/
def ItemAt (K : PySem.W.Frag) (F H : Hp) (x : V) (H' : Hp) (d : D) : Prop :=
  (H' = H ∧ Rep K F x d) ∨ (∃ T vs es, x = .ref T ∧ H T = none ∧ H' = upd H T (.tup vs) ∧ d = .tup es ∧ Reps K F vs es) ∨ ∃ (ks : List Key) (q : Addr), H' = H ∧ d = .key ks ∧ x = .ref q ∧ H q = some (.tup (ks.map kV))
abbrev Yl (K : PySem.W.Frag) (J : It) (F : Hp) (ds : List D) : Prop := Walk J ds.length (fun H => Same F H) (fun i H x H' => ∃ d, ds[i]? = some d ∧ ItemAt K F H x H' d)
theorem Yl.mono {K : PySem.W.Frag} {J : It} {F F' : Hp} {ds : List D} (y : Yl K J F ds) (e : Same F F') : Yl K J F' ds :=
  Walk.mono y (fun H h => e.trans h) fun i H x H' _ _ ⟨d, h1, h2⟩ => ⟨d, h1, by
    rcases h2 with ⟨a, b⟩ | ⟨T, vs, es, a, b, c, d, r⟩ | h
    · exact .inl ⟨a, b.mono e⟩
    · exact .inr (.inl ⟨T, vs, es, a, b, c, d, r.mono e⟩)
    · exact .inr (.inr h)⟩
/-- behind an item -/
theorem Rl.item {N : En} {F : Hp} {A : List Addr} {H H' : Hp} {σ : L2.St} {δ : List (Option S)} {μ : List M} {x : V} {d : D} (R : Rl N F A H σ δ μ) (h : ItemAt N.K F H x H' d) : ∃ F', Same F F' ∧ Rl N F' A H' σ δ μ ∧ Rep N.K F' x d := by
  rcases h with ⟨rfl, r⟩ | ⟨T, vs, es, rfl, nT, rfl, rfl, r⟩ | ⟨ks, q, rfl, rfl, rfl, hq⟩
  · exact ⟨F, Same.refl _, R, r⟩
  · have sm := same_updN (o := .tup vs) (R.rc.fresh nT).2.1
    exact ⟨_, sm, R.to sm (List.prefix_refl _) (R.rc.frozen nT _), .tup (SqT.of upd_same) (r.mono sm)⟩
  · obtain ⟨F', sm, hF, _, r'⟩ := R.rc.adoptK hq
    exact ⟨F', sm, R.to sm (List.prefix_refl _) r', .key hF⟩
def tI (N : En) (W : WX) (δ : List (Option S)) (μ : List M) (ds : List D) (μ' : List M) : TI := fun σ H Rk => ∃ F A, Rl N F A H σ δ μ ∧ ∀ J F' A' H', Same F F' → A <+: A' → Rl N F' A' H' σ δ μ' → Yl N.K J F' ds → Rk J H'
def DI (X : Cx) (N : En) (W : WX) (δ : List (Option S)) (μ : List M) (tg iter : Expr) (ds : List D) (μ' : List M) : Prop := PI X tg iter (tI N W δ μ ds μ')
theorem PI.imp {X : Cx} {tg iter : Expr} {t t' : TI} (h : PI X tg iter t) (w : ∀ σ H Q, t' σ H Q → t σ H Q) : PI X tg iter t' := ⟨fun p s σ H Q I q => h.run p s σ H Q I (w σ H Q q)⟩
theorem rep_lst {K : PySem.W.Frag} {F : Hp} {v : V} {ds : List D} (h : Rep K F v (.lst ds)) : ∃ a vs, v = .ref a ∧ F a = some (.lst vs) ∧ Reps K F vs ds := by
  generalize hd : D.lst ds = d at h
  cases h with
  | lst h1 h2 => cases hd; exact ⟨_, _, rfl, h1, h2⟩
  | _ => cases hd
theorem rep_tup {K : PySem.W.Frag} {F : Hp} {v : V} {ds : List D} (h : Rep K F v (.tup ds)) : ∃ a vs, v = .ref a ∧ SqT K F a vs ∧ Reps K F vs ds := by
  generalize hd : D.tup ds = d at h
  cases h with
  | tup h1 h2 => cases hd; exact ⟨_, _, rfl, h1, h2⟩
  | _ => cases hd
/-- what a datum does to the slots -/
abbrev As := D → List (Option S) → Option (List (Option S))
inductive Loop (X : Cx) (N : En) (W : WX) (f : As) (body : List Stmt) : List D → List (Option S) → List M → Os → Prop
  | nil {δ μ} : Loop X N W f body [] δ μ (.nx δ μ)
  | next {d ds δ μ δt δ1 μ1 o} : f d δ = some δt → DSs X N W δt μ body (.nx δ1 μ1) → Loop X N W f body ds δ1 μ1 o → Loop X N W f body (d :: ds) δ μ o
  | cont {d ds δ μ δt δ1 μ1 o} : f d δ = some δt → DSs X N W δt μ body (.ct δ1 μ1) → Loop X N W f body ds δ1 μ1 o → Loop X N W f body (d :: ds) δ μ o
  | brk {d ds δ μ δt δ1 μ1} : f d δ = some δt → DSs X N W δt μ body (.bk δ1 μ1) → Loop X N W f body (d :: ds) δ μ (.nx δ1 μ1)
  | ret {d ds δ μ δt s μ1} : f d δ = some δt → DSs X N W δt μ body (.rt s μ1) → Loop X N W f body (d :: ds) δ μ (.rt s μ1)
  | exc {d ds δ μ δt C y δ1 μ1} : f d δ = some δt → DSs X N W δt μ body (.xx C y δ1 μ1) → Loop X N W f body (d :: ds) δ μ (.xx C y δ1 μ1)
section
variable {X : Cx} {N : En} {W : WX} {n : Nat} {δ δ' δ1 δ2 : List (Option S)} {μ μ' μ1 μ2 μ3 : List M} {e a b c o tg iter : Expr} {es : List Expr} {ss : List S} {pos p apos : Pos} {d : D} {s s1 s2 : S} {r : Rx} {ds : List D}
theorem yl_list {K : PySem.W.Frag} {F : Hp} {a : Addr} {vs : List V} (h : F a = some (.lst vs)) (r : Reps K F vs ds) : Yl K (Itl K a) F ds := by
  unfold Yl
  rw [← r.length]
  exact Walk.mono (walk_list (xs := vs)) (fun H e => SqL.of (e _ _ h)) fun i H x H' _ _ ⟨e, hx⟩ => by
    obtain ⟨d, h1, h2⟩ := r.get' hx
    exact ⟨d, h1, .inl ⟨e, h2⟩⟩
theorem yl_tup {K : PySem.W.Frag} {F : Hp} {a : Addr} {vs : List V} (h : SqT K F a vs) (r : Reps K F vs ds) : Yl K (Itt K a) F ds := by
  unfold Yl
  rw [← r.length]
  exact Walk.mono (walk_tup (xs := vs)) (fun H e => same_sqT e h) fun i H x H' _ _ ⟨e, hx⟩ => by
    obtain ⟨d, h1, h2⟩ := r.get' hx
    exact ⟨d, h1, .inl ⟨e, h2⟩⟩
theorem di_lst (g : Go X N W n) (h : DE X N W δ μ iter (.v (.p (.lst ds))) μ1) : DI X N W δ μ tg iter ds μ1 :=
  PI.imp (pi_list h) fun σ H Rk ⟨F, A, R, k⟩ => ⟨F, A, R, fun v F1 A1 H1 e1 p1 R1 rv => by
    have hK := g.hK
    rw [← hK]
    obtain ⟨a, vs, rfl, h1, h2⟩ := rep_lst rv
    exact ⟨a, rfl, ⟨vs, SqL.of (R1.rc.sub _ _ h1)⟩, k _ F1 A1 H1 e1 p1 R1 (yl_list h1 h2)⟩⟩
theorem di_tup (g : Go X N W n) (h : DE X N W δ μ iter (.v (.p (.tup ds))) μ1) : DI X N W δ μ tg iter ds μ1 :=
  PI.imp (pi_tup h) fun σ H Rk ⟨F, A, R, k⟩ => ⟨F, A, R, fun v F1 A1 H1 e1 p1 R1 rv => by
    have hK := g.hK
    rw [← hK]
    obtain ⟨a, vs, rfl, h1, h2⟩ := rep_tup rv
    exact ⟨a, rfl, ⟨vs, same_sqT R1.rc.sub h1⟩, k _ F1 A1 H1 e1 p1 R1 (yl_tup h1 h2)⟩⟩
def rangeD (lo : Int) (n : Nat) : List D := (List.range n).map fun i => D.int (lo + (i : Nat))
theorem yl_range {K : PySem.W.Frag} {F : Hp} {lo : Int} {n : Nat} : Yl K (Itr lo n) F (rangeD lo n) := by
  unfold Yl
  rw [show (rangeD lo n).length = n from by simp [rangeD]]
  exact Walk.mono (walk_range (lo := lo) (n := n)) (fun _ _ => trivial) fun i H x H' hi _ ⟨e, hx⟩ => by
    refine ⟨.int (lo + i), ?_, .inl ⟨e, by rw [hx]; exact .int _⟩⟩
    rw [rangeD, List.getElem?_map, List.getElem?_range hi]
    rfl
theorem di_range1 {j : Int} (h : DA X N W δ μ [a] [.p (.int j)] μ1) (hm : X.mg "range" = none) (h1 : -(2 ^ 62) ≤ j ∧ j < 2 ^ 62) (hg : Gl X "range" := by rfl) (hs : starEach [a] X.env = [(false, eval a X.env)] := by rfl) : DI X N W δ μ tg (.Call (.Name "range" p) [a] [] pos) (rangeD 0 j.toNat) μ1 :=
  PI.imp (pi_range1 hg hm h hs) fun σ H Rk ⟨F, A, R, k⟩ => ⟨F, A, R, fun vs F1 A1 H1 e1 p1 R1 rv => by
    cases rv with
    | cons r1 r2 =>
      cases r2
      have r1' : Rep N.K F1 _ (.int j) := r1
      cases r1'
      exact ⟨j, rfl, h1.1, h1.2, k _ F1 A1 H1 e1 p1 R1 yl_range⟩⟩
def chars (z : Str) : List D := z.cps.toList.map fun c => D.str ⟨#[c]⟩
theorem yl_str {K : PySem.W.Frag} {F : Hp} {z : Str} : Yl K (Its z) F (chars z) := by
  unfold Yl
  rw [show (chars z).length = z.cps.size from by simp [chars]]
  exact Walk.mono (walk_str (z := z)) (fun _ _ => trivial) fun i H x H' hi _ ⟨e, c, h1, hx⟩ => by
    refine ⟨.str ⟨#[c]⟩, ?_, .inl ⟨e, by rw [hx]; exact .str _⟩⟩
    rw [chars, List.getElem?_map, Array.getElem?_toList, h1]
    rfl
theorem di_str {z : Str} (h : DE X N W δ μ iter (.v (.p (.str z))) μ1) : DI X N W δ μ tg iter (chars z) μ1 :=
  PI.imp (pi_str h) fun σ H Rk ⟨F, A, R, k⟩ => ⟨F, A, R, fun v F1 A1 H1 e1 p1 R1 rv => by
    have rv' : Rep N.K F1 _ (.str z) := rv
    cases rv'
    exact ⟨z, rfl, k _ F1 A1 H1 e1 p1 R1 yl_str⟩⟩
/-! ## targets -/
def tGd (N : En) (f : As) (ix : List Nat) : TG := fun v σ H Q => ∃ F A δ μ d δ', Rl N F A H σ δ μ ∧ Rep N.K F v d ∧ f d δ = some δ' ∧ ∀ σ', wipe σ' ix = wipe σ ix → Rl N F A H σ' δ' μ → Q σ' H
def DG (X : Cx) (N : En) (tg : Expr) (f : As) (ix : List Nat) : Prop := PG X tg (tGd N f ix)
theorem wipe_get : ∀ {vs : List Nat} {σ : L2.St} {i : Nat}, (wipe σ vs)[i]? = if i ∈ vs then (σ[i]?).map (fun _ => none) else σ[i]?
  | [], σ, i => by simp [wipe]
  | v :: vs, σ, i => by
    unfold wipe
    by_cases h : v = i
    · subst h
      rw [if_pos List.mem_cons_self]
      by_cases hl : v < σ.length
      · rw [List.getElem?_set_self (by rw [wipe_length]; exact hl), List.getElem?_eq_getElem hl]
        rfl
      · rw [List.getElem?_eq_none (by simp [wipe_length]; omega), List.getElem?_eq_none (by omega)]
        rfl
    · rw [List.getElem?_set_ne h, wipe_get]
      by_cases hi : i ∈ vs
      · rw [if_pos hi, if_pos (List.mem_cons_of_mem _ hi)]
      · rw [if_neg hi, if_neg (by
          intro z
          rcases List.mem_cons.mp z with z | z
          · exact h z.symm
          · exact hi z)]
theorem wipe_sub {σ σ' : L2.St} {ix vs : List Nat} (h : ∀ i ∈ ix, i ∈ vs) (e : wipe σ' ix = wipe σ ix) : wipe σ' vs = wipe σ vs := by
  have hl : σ'.length = σ.length := by
    have := congrArg List.length e
    rwa [wipe_length, wipe_length] at this
  apply List.ext_getElem?
  intro i
  rw [wipe_get, wipe_get]
  by_cases hi : i ∈ vs
  · rw [if_pos hi, if_pos hi]
    by_cases hlt : i < σ.length
    · rw [List.getElem?_eq_getElem hlt, List.getElem?_eq_getElem (by omega)]
      rfl
    · rw [List.getElem?_eq_none (by omega), List.getElem?_eq_none (by omega)]
  · rw [if_neg hi, if_neg hi]
    have q := congrArg (fun l : L2.St => l[i]?) e
    simp only [wipe_get] at q
    have hx : i ∉ ix := fun z => hi (h i z)
    rw [if_neg hx, if_neg hx] at q
    exact q
theorem wipe_trans {σ σ1 σ2 : L2.St} {ix jx : List Nat} (a : wipe σ1 ix = wipe σ ix) (b : wipe σ2 jx = wipe σ1 jx) : wipe σ2 (ix ++ jx) = wipe σ (ix ++ jx) :=
  (wipe_sub (fun i h => List.mem_append_right _ h) b).trans (wipe_sub (fun i h => List.mem_append_left _ h) a)
def asName (i : Nat) : As := fun d δ => some (δ.set i (some (.p d)))
def asAll : List As → List D → List (Option S) → Option (List (Option S))
  | [], [], δ => some δ
  | f :: fs, d :: ds, δ => (f d δ).bind fun δ' => asAll fs ds δ'
  | _, _, _ => none
def asTup (fs : List As) : As := fun d δ => match d with
  | .tup ds => asAll fs ds δ
  | _ => none
theorem PG.imp {X : Cx} {tg : Expr} {t t' : TG} (h : PG X tg t) (w : ∀ v σ H Q, t' v σ H Q → t v σ H Q) : PG X tg t' := ⟨fun p s σ H v u Q I r q => h.run p s σ H v u Q I r (w v σ H Q q)⟩
theorem PGs.imp {X : Cx} {ts : List Expr} {t t' : TGs} (h : PGs X ts t) (w : ∀ v σ H Q, t' v σ H Q → t v σ H Q) : PGs X ts t' := ⟨fun p s σ H v u Q I r q => h.run p s σ H v u Q I r (w v σ H Q q)⟩
theorem dg_name (i : Nat) {x : Str} (hN : X.N.Nodup) (hi : X.N[i]? = some x := by rfl) (hx : Loc X.env.scope x := by first | exact Or.inl rfl | exact Or.inr rfl) (hf : X.fn x = true ∨ X.env.scope.names.lookup x = some .local := by first | exact .inl rfl | exact .inr rfl) : DG X N (.Name x pos) (asName i) [i] :=
  PG.imp (pg_name (i := i) hN hi hx hf) fun v σ H Q ⟨F, A, δ, μ, d, δ', R, rv, hf, k⟩ => by
    cases hf
    exact k _ (by show (σ.set i (some v)).set i none = σ.set i none; rw [List.set_set]) (R.set (s := .p d) rv)
def tGds (N : En) (fs : List As) (ix : List Nat) : TGs := fun vs σ H Q => ∃ F A δ μ ds δ', Rl N F A H σ δ μ ∧ Reps N.K F vs ds ∧ asAll fs ds δ = some δ' ∧ ∀ σ', wipe σ' ix = wipe σ ix → Rl N F A H σ' δ' μ → Q σ' H
def DGs (X : Cx) (N : En) (ts : List Expr) (fs : List As) (ix : List Nat) : Prop := PGs X ts (tGds N fs ix)
theorem dgs_nil : DGs X N [] [] [] := PGs.imp pgs_nil fun vs σ H Q ⟨F, A, δ, μ, ds, δ', R, rv, hf, k⟩ => by
  cases rv with
  | nil => cases hf; exact ⟨rfl, k σ rfl R⟩
  | cons _ _ => cases hf
theorem dgs_cons {ts : List Expr} {f : As} {fs : List As} {ix jx : List Nat} (h : DG X N e f ix) (h' : DGs X N ts fs jx) (hs : (assignEach (e :: ts) X.env).map (·.2) = assign e X.env :: (assignEach ts X.env).map (·.2) := by rfl) : DGs X N (e :: ts) (f :: fs) (ix ++ jx) :=
  PGs.imp (pgs_cons h h' hs) fun vs σ H Q ⟨F, A, δ, μ, ds, δ', R, rv, hf, k⟩ => by
    cases rv with
    | nil => cases hf
    | @cons v d vs ds r1 r2 =>
      have hf' : (f d δ).bind (fun δ' => asAll fs ds δ') = some δ' := hf
      cases hfd : f d δ with
      | none => rw [hfd] at hf'; cases hf'
      | some δ1 =>
        rw [hfd] at hf'
        exact ⟨v, vs, rfl, F, A, δ, μ, d, δ1, R, r1, hfd, fun σ1 w1 R1 => ⟨F, A, δ1, μ, ds, δ', R1, r2, hf', fun σ2 w2 R2 => k σ2 (wipe_trans w1 w2) R2⟩⟩
theorem asAll_len : ∀ {fs : List As} {ds : List D} {δ δ' : List (Option S)}, asAll fs ds δ = some δ' → ds.length = fs.length
  | [], [], _, _, _ => rfl
  | [], _ :: _, _, _, h => by cases h
  | _ :: _, [], _, _, h => by cases h
  | f :: fs, d :: ds, δ, δ', h => by
    have hf' : (f d δ).bind (fun δ' => asAll fs ds δ') = some δ' := h
    cases hfd : f d δ with
    | none => rw [hfd] at hf'; cases hf'
    | some δ1 =>
      rw [hfd] at hf'
      rw [List.length_cons, List.length_cons, asAll_len hf']
theorem dg_tup {ts : List Expr} {kk : Nat} {fs : List As} {ix : List Nat} (h : DGs X N ts fs ix) (hK : N.K = X.K) (hc : X.calm = true) (hn : (assignEach ts X.env).length = fs.length := by rfl) (hst : (assignEach ts X.env).findIdx? (·.1) = none := by rfl) : DG X N (.Tuple ts kk pos) (asTup fs) ix :=
  PG.imp (pg_tup hc h hn hst) fun v σ H Q ⟨F, A, δ, μ, d, δ', R, rv, hf, k⟩ => by
    cases d with
    | tup ds =>
      obtain ⟨a, vs, rfl, h1, h2⟩ := rep_tup rv
      refine ⟨a, vs, rfl, ?_, ?_, F, A, δ, μ, ds, δ', R, h2, hf, k⟩
      · rw [← hK]; exact same_sqT R.rc.sub h1
      · rw [h2.length]; exact asAll_len hf
    | _ => cases hf
/-- target = e, by a target's rule -/
theorem ds_asg {f : As} {ix : List Nat} (h : DE X N W δ μ e (.v (.p d)) μ1) (hg : DG X N tg f ix) (hf : f d δ = some δ1) (hs : swapsWithSole [tg] e pos.line X.env = pure false := by rfl) (hw : swappedStores [tg] e X.env = pure none := by rfl)
    (h1 : (assignEach [tg] X.env).map (·.2) = [assign tg X.env] := by rfl) : DS X N W δ μ (.Assign [tg] e pos) (.nx δ1 μ1) :=
  PS.imp (ps_asg h hg hs hw h1) fun K σ H ⟨F, A, R, k⟩ => ⟨F, A, R, fun v F1 A1 H1 e1 p1 R1 rv => ⟨F1, A1, δ, μ1, d, δ1, R1, rv, hf, fun σ' _ R' => k σ' F1 A1 H1 e1 p1 R'⟩⟩
/-! ## for -/
theorem ds_for {body : List Stmt} {f : As} {ix : List Nat} {o : Os} (g : Go X N W n) (hi : DI X N W δ μ tg iter ds μ1) (hg : DG X N tg f ix) (hl : Loop X N W f body ds δ μ1 o) (hs : ∀ x, foldedSetIterable iter X.env x = pure x := by intro _; rfl) : DS X N W δ μ (.For tg iter body [] pos) o := by
  have hb : PSs X body (fun K σ H => ∃ δt μt o1, DSs X N W δt μt body o1 ∧ tDS N W δt μt o1 K σ H) := ⟨fun p s σ H K I ⟨δt, μt, o1, hd, q⟩ => hd.run p s σ H K I q⟩
  refine PS.imp (ps_for g.po g.calm hi hg hb hs) fun K σ H ⟨F, A, R, k⟩ => ⟨F, A, R, fun J F1 A1 H1 e1 p1 R1 y => ?_⟩
  have k1 := k.to e1 p1
  refine ⟨fun i m σ' H' => i ≤ ds.length ∧ m = ds.length - i ∧ ∃ F' A' δ' μ', Same F1 F' ∧ A1 <+: A' ∧ Rl N F' A' H' σ' δ' μ' ∧ Loop X N W f body (ds.drop i) δ' μ' o, ⟨ds.length, Nat.zero_le _, by simp, F1, A1, δ, μ1, Same.refl _, List.prefix_refl _, R1, by simpa using hl⟩, ?_⟩
  rintro i m σ' H' ⟨hi, rfl, F', A', δ', μ', e', p', R', hL⟩
  have k2 := k1.to e' p'
  by_cases hlt : i < ds.length
  · refine .inr ⟨y.goes i H' hlt (e'.trans R'.rc.sub), fun σ2 H2 => ∃ F2 A2 δ2 μ2, Same F1 F2 ∧ A1 <+: A2 ∧ Rl N F2 A2 H2 σ2 δ2 μ2 ∧ Loop X N W f body (ds.drop (i + 1)) δ2 μ2 o, fun σ2 H2 ⟨F2, A2, δ2, μ2, a, b, c, d⟩ => ⟨ds.length - (i + 1), by omega, hlt, rfl, F2, A2, δ2, μ2, a, b, c, d⟩, fun x H2 hy => ?_⟩
    obtain ⟨d, hd, it⟩ := (y.mono e').yields i H' x H2 hlt R'.rc.sub hy
    obtain ⟨F2, e2, R2, rx⟩ := R'.item it
    rw [List.drop_eq_getElem_cons hlt] at hL
    have hd' : ds[i] = d := by
      rw [List.getElem?_eq_getElem hlt] at hd
      exact Option.some.inj hd
    rw [hd'] at hL
    have k3 := k2.to e2 (List.prefix_refl _)
    cases hL with
    | next hf hb hL => exact ⟨F2, A', δ', μ', d, _, R2, rx, hf, fun σ3 _ R3 => ⟨_, _, _, hb, F2, A', R3, fun σ4 F4 A4 H4 e4 p4 R4 => ⟨F4, A4, _, _, (e'.trans e2).trans e4, p'.trans p4, R4, hL⟩⟩⟩
    | cont hf hb hL => exact ⟨F2, A', δ', μ', d, _, R2, rx, hf, fun σ3 _ R3 => ⟨_, _, _, hb, F2, A', R3, fun σ4 F4 A4 H4 e4 p4 R4 => ⟨F4, A4, _, _, (e'.trans e2).trans e4, p'.trans p4, R4, hL⟩⟩⟩
    | brk hf hb => exact ⟨F2, A', δ', μ', d, _, R2, rx, hf, fun σ3 _ R3 => ⟨_, _, _, hb, F2, A', R3, fun σ4 F4 A4 H4 e4 p4 R4 => k3 σ4 F4 A4 H4 e4 p4 R4⟩⟩
    | ret hf hb => exact ⟨F2, A', δ', μ', d, _, R2, rx, hf, fun σ3 _ R3 => ⟨_, _, _, hb, F2, A', R3, k3⟩⟩
    | exc hf hb => exact ⟨F2, A', δ', μ', d, _, R2, rx, hf, fun σ3 _ R3 => ⟨_, _, _, hb, F2, A', R3, k3⟩⟩
  · have e : i = ds.length := by omega
    subst e
    refine .inl ⟨y.stops H' (e'.trans R'.rc.sub), ?_⟩
    rw [List.drop_length] at hL
    cases hL
    exact k2 σ' F' A' H' (Same.refl _) (List.prefix_refl _) R'
end
end Dl
set_option Elab.async false
set_option linter.all false
set_option maxRecDepth 100000
set_option maxHeartbeats 4000000
set_option autoImplicit false
namespace Dl
open PySem PySem.Spec PyProof.Rows L2
/-- an object that is neither frozen nor told is changed -/
theorem Rc.poke {N : En} {F : Hp} {A : List Addr} {H : Hp} {μ : List M} (r : Rc N F A H μ) {p : Addr} (hF : F p = none) (hA : p ∉ A) (h0 : N.H0 p = none) (o : HO) : Rc N F A (upd H p o) μ where
  sub := fun b x e => by
    have hb : b ≠ p := fun z => by rw [z, hF] at e; cases e
    rw [upd_ne hb]; exact r.sub b x e
  base := r.base
  new := r.new
  keep := fun a x e hA => by
    have hb : a ≠ p := fun z => by rw [z, h0] at e; cases e
    rw [upd_ne hb]; exact r.keep a x e hA
  pre := r.pre
  nd := r.nd
  len := r.len
  mus := fun j a m h1 h2 => (r.mus j a m h1 h2).mono (Same.refl _) (List.prefix_refl _) (upd_ne (ne_mem hA h1))
  fr := r.fr
/-- .. is frozen -/
theorem Rc.adopt {N : En} {F : Hp} {A : List Addr} {H : Hp} {μ : List M} (r : Rc N F A H μ) {p : Addr} (hF : F p = none) (hA : p ∉ A) (h0 : N.H0 p = none) {o : HO} (ho : H p = some o) : Rc N (upd F p o) A H μ where
  sub := fun b x e => by
    by_cases hb : b = p
    · subst hb; rw [upd_same] at e; cases e; exact ho
    · rw [upd_ne hb] at e; exact r.sub b x e
  base := r.base.trans (same_updN hF)
  new := fun a x e => by
    by_cases hb : a = p
    · subst hb; exact .inr (.inl h0)
    · rw [upd_ne hb] at e; exact r.new a x e
  keep := r.keep
  pre := r.pre
  nd := r.nd
  len := r.len
  mus := fun j a m h1 h2 => (r.mus j a m h1 h2).mono (same_updN hF) (List.prefix_refl _) rfl
  fr := fun j a m h1 h2 h3 => by
    rw [upd_ne (ne_mem hA h1)]
    exact r.fr j a m h1 h2 h3
def wipeD (δ : List (Option S)) : List Nat → List (Option S)
  | [] => δ
  | v :: vs => (wipeD δ vs).set v none
theorem wipeD_len (δ : List (Option S)) : ∀ vs : List Nat, (wipeD δ vs).length = δ.length
  | [] => rfl
  | v :: vs => by unfold wipeD; rw [List.length_set, wipeD_len δ vs]
theorem wipeD_some {δ : List (Option S)} {i : Nat} {x : S} : ∀ {vs : List Nat}, (wipeD δ vs)[i]? = some (some x) → δ[i]? = some (some x) ∧ i ∉ vs
  | [], h => ⟨h, by simp⟩
  | v :: vs, h => by
    unfold wipeD at h
    by_cases hi : v = i
    · subst hi
      by_cases hv : v < (wipeD δ vs).length
      · rw [List.getElem?_set_self hv] at h; cases h
      · rw [List.getElem?_eq_none (by simpa using hv)] at h; cases h
    · rw [List.getElem?_set_ne hi] at h
      obtain ⟨h1, h2⟩ := wipeD_some h
      exact ⟨h1, by simp only [List.mem_cons, not_or]; exact ⟨fun e => hi e.symm, h2⟩⟩
theorem Rl.wiped {N : En} {F : Hp} {A : List Addr} {H : Hp} {σ : L2.St} {δ : List (Option S)} {μ : List M} (R : Rl N F A H σ δ μ) (vs : List Nat) : Rl N F A H (wipe σ vs) (wipeD δ vs) μ :=
  ⟨R.rc, by rw [wipeD_len, wipe_length]; exact R.len, fun i s h => by
    obtain ⟨h1, h2⟩ := wipeD_some h
    obtain ⟨v, h3, h4⟩ := R.sl i s h1
    refine ⟨v, ?_, h4⟩
    rw [wipe_get, if_neg h2]
    exact h3⟩
abbrev W0 : WX := fun _ _ _ _ => False
abbrev blkX (X : Cx) (scope : Scope) (s : Shared) (H : Hp) (C : Addr) (cl : List (Str × Addr)) (fp : List Addr) : Cx := X.blk s H scope (compEnvC scope cl C X.env) fp
theorem takes00 {X : Cx} : Takes X W0 := fun _ _ x => by
  obtain ⟨_, _, _, _, _, _, _, _, _, _, _, _, _, _, _, _, z⟩ := x
  exact z.elim
theorem Go.blk {X : Cx} {N N' : En} {W : WX} {n : Nat} {scope : Scope} {s : Shared} {H : Hp} {C : Addr} {cl : List (Str × Addr)} {fp : List Addr} (g : Go X N W n) (h : N'.K = N.K) : Go (blkX X scope s H C cl fp) N' W0 n :=
  ⟨takes00, g.calm, h.trans g.hK, g.room, PassesOwn.never, g.nd⟩
inductive CmpL (P : List (Option S) → List M → Option D → List M → Prop) (f : As) (δ : List (Option S)) : List D → List M → List D → List M → Prop
  | nil {μ} : CmpL P f δ [] μ [] μ
  | keep {d ds δt μ y μ1 ys μ2} : f d δ = some δt → P δt μ (some y) μ1 → CmpL P f δ ds μ1 ys μ2 → CmpL P f δ (d :: ds) μ (y :: ys) μ2
  | drop {d ds δt μ μ1 ys μ2} : f d δ = some δt → P δt μ none μ1 → CmpL P f δ ds μ1 ys μ2 → CmpL P f δ (d :: ds) μ ys μ2
theorem CmpL.len {P : List (Option S) → List M → Option D → List M → Prop} {f : As} {δ : List (Option S)} {ds ys : List D} {μ μ' : List M} (h : CmpL P f δ ds μ ys μ') : ys.length ≤ ds.length := by
  induction h with
  | nil => exact Nat.le_refl _
  | keep _ _ _ ih => exact Nat.succ_le_succ ih
  | drop _ _ _ ih => exact Nat.le_succ_of_le ih
section
variable {X : Cx} {N : En} {W : WX} {n : Nat} {δ δ' δ1 δ2 : List (Option S)} {μ μ' μ1 μ2 μ3 : List M} {elt tg iter : Expr} {ifs : List Expr} {pos : Pos} {ds ys : List D} {scope : Scope} {own : List (Str × Nat)} {f : As} {ix : List Nat}
theorem lc_go {J : It} {F1 : Hp} {A1 : List Addr} {H1 : Hp} {σ : L2.St} {tt : TT} {te : TE} {D0 : Addr} {Qd : Hp → Prop} (hds : ds.length < sizeLine) (R1 : Rl N F1 A1 H1 σ δ μ1) (y : Yl N.K J F1 ds) (hD : H1 D0 = none) (hix : ∀ i ∈ ix, i ∈ own.map (·.2))
    (P : List (Option S) → List M → Option D → List M → Prop) (hl : CmpL P f (wipeD δ (own.map (·.2))) ds μ1 ys μ2)
    (hP : ∀ (N' : En) F A σ2 H2 δt μt r μu (Q : Option V → Hp → Prop), N'.K = N.K → Rl N' F A H2 σ2 δt μt → P δt μt r μu →
      (∀ v F' A' H', Same F F' → A <+: A' → Rl N' F' A' H' σ2 δt μu → (match r, v with | some y, some v => Rep N.K F' v y | none, none => True | _, _ => False) → Q v H') →
      tt σ2 H2 fun b H3 => if b = true then te σ2 H3 fun v H4 => Q (some v) H4 else Q none H3)
    (hq : ∀ F' A' H' vs, Same F1 F' → A1 <+: A' → Rc N F' A' H' μ2 → H' D0 = some (.lst vs) → F' D0 = none → D0 ∉ A' → Reps N.K F' vs ys → Qd H') :
    ∃ Wt : Nat → Nat → Hp → Prop, (∃ m, Wt 0 m (upd H1 D0 (.lst []))) ∧ ∀ i m H, Wt i m H →
      (J.stop i H ∧ Qd H) ∨ (J.go i H ∧ ∃ Nx : Hp → Prop, (∀ H', Nx H' → ∃ m', m' < m ∧ Wt (i + 1) m' H') ∧ ∀ x H', J.yld i H x H' → tGd N f ix x (wipe σ (own.map (·.2))) H' fun σ2 H2 => wipe σ2 (own.map (·.2)) = wipe σ (own.map (·.2)) ∧ tt σ2 H2 fun b H3 =>
        if b = true then te σ2 H3 fun y H4 => ∃ acc, H4 D0 = some (.lst acc) ∧ acc.length < sizeLine ∧ Nx (upd H4 D0 (.lst (acc ++ [y]))) else Nx H3) := by
  have h0 := R1.rc.fresh hD
  refine ⟨fun i m H => i ≤ ds.length ∧ m = ds.length - i ∧ ∃ F A μ vs acc rest, Same F1 F ∧ A1 <+: A ∧ Rc N F A H μ ∧ H D0 = some (.lst vs) ∧ F D0 = none ∧ D0 ∉ A ∧ Reps N.K F vs acc ∧ vs.length ≤ i ∧ CmpL P f (wipeD δ (own.map (·.2))) (ds.drop i) μ rest μ2 ∧ acc ++ rest = ys,
    ⟨ds.length, Nat.zero_le _, by simp, F1, A1, μ1, [], [], ys, Same.refl _, List.prefix_refl _, R1.rc.junk hD _, upd_same, h0.2.1, h0.2.2, .nil, Nat.le_refl _, by simpa using hl, rfl⟩, ?_⟩
  rintro i m H ⟨hi, rfl, F, A, μ, vs, acc, rest, e, p, R, hv, hF, hA, hr, hvl, hL, hy⟩
  by_cases hlt : i < ds.length
  · refine .inr ⟨y.goes i H hlt (e.trans R.sub), fun H' => ∃ F A μ vs acc rest, Same F1 F ∧ A1 <+: A ∧ Rc N F A H' μ ∧ H' D0 = some (.lst vs) ∧ F D0 = none ∧ D0 ∉ A ∧ Reps N.K F vs acc ∧ vs.length ≤ i + 1 ∧ CmpL P f (wipeD δ (own.map (·.2))) (ds.drop (i + 1)) μ rest μ2 ∧ acc ++ rest = ys,
      fun H' ⟨F, A, μ, vs, acc, rest, a⟩ => ⟨ds.length - (i + 1), by omega, hlt, rfl, F, A, μ, vs, acc, rest, a⟩, fun x H' hyd => ?_⟩
    obtain ⟨d, hd, it⟩ := (y.mono e).yields i H x H' hlt R.sub hyd
    have Rf : Rl N F A H σ δ μ := R1.to e p R
    have hH' : H' D0 = some (.lst vs) := by
      rcases it with ⟨rfl, _⟩ | ⟨T, ws, es, _, nT, rfl, _, _⟩ | ⟨_, _, rfl, _⟩
      · exact hv
      · rw [upd_ne (ne_of_none hv nT)]; exact hv
      · exact hv
    have hF2 : ∀ F2, Rl N F2 A H' σ δ μ → True := fun _ _ => trivial
    obtain ⟨F2, e2, R2, rx, hF20⟩ : ∃ F', Same F F' ∧ Rl N F' A H' σ δ μ ∧ Rep N.K F' x d ∧ F' D0 = none := by
      rcases it with ⟨rfl, r⟩ | ⟨T, ws, es, rfl, nT, rfl, rfl, r⟩ | ⟨ks, q, rfl, rfl, rfl, hq⟩
      · exact ⟨F, Same.refl _, Rf, r, hF⟩
      · have sm := same_updN (o := .tup ws) (R.fresh nT).2.1
        exact ⟨_, sm, Rf.to sm (List.prefix_refl _) (R.frozen nT _), .tup (SqT.of upd_same) (r.mono sm), by rw [upd_ne (ne_of_none hv nT)]; exact hF⟩
      · obtain ⟨F', sm, hq2, hne, r'⟩ := R.adoptK hq
        exact ⟨F', sm, Rf.to sm (List.prefix_refl _) r', .key hq2, by rw [hne D0 fun z => by rw [z, hq] at hv; cases hv]; exact hF⟩
    rw [List.drop_eq_getElem_cons hlt] at hL
    have hd' : ds[i] = d := by
      rw [List.getElem?_eq_getElem hlt] at hd
      exact Option.some.inj hd
    rw [hd'] at hL
    -- one element
    have key : ∀ (σ2 : L2.St) (δt : List (Option S)) (r : Option D) (μu : List M) (rest' : List D), Rl N F2 A H' σ2 δt μ → P δt μ r μu → CmpL P f (wipeD δ (own.map (·.2))) (ds.drop (i + 1)) μu rest' μ2 →
        (match r with | some y => acc ++ y :: rest' = ys | none => acc ++ rest' = ys) →
        tt σ2 H' fun b H3 => if b = true then te σ2 H3 fun y H4 => ∃ acc, H4 D0 = some (.lst acc) ∧ acc.length < sizeLine ∧ (∃ F A μ vs acc' rest, Same F1 F ∧ A1 <+: A ∧ Rc N F A (upd H4 D0 (.lst (acc ++ [y]))) μ ∧ (upd H4 D0 (.lst (acc ++ [y]))) D0 = some (.lst vs) ∧ F D0 = none ∧ D0 ∉ A ∧ Reps N.K F vs acc' ∧ vs.length ≤ i + 1 ∧ CmpL P f (wipeD δ (own.map (·.2))) (ds.drop (i + 1)) μ rest μ2 ∧ acc' ++ rest = ys)
          else ∃ F A μ vs acc rest, Same F1 F ∧ A1 <+: A ∧ Rc N F A H3 μ ∧ H3 D0 = some (.lst vs) ∧ F D0 = none ∧ D0 ∉ A ∧ Reps N.K F vs acc ∧ vs.length ≤ i + 1 ∧ CmpL P f (wipeD δ (own.map (·.2))) (ds.drop (i + 1)) μ rest μ2 ∧ acc ++ rest = ys := by
      intro σ2 δt r μu rest' R3 hPr hL' hys
      have R3' : Rl ⟨N.K, H', F2, A⟩ F2 A H' σ2 δt μ := ⟨R3.rc.entry, R3.len, R3.sl⟩
      refine hP ⟨N.K, H', F2, A⟩ F2 A σ2 H' δt μ r μu (fun v H4 => match v with
          | some v => ∃ acc, H4 D0 = some (.lst acc) ∧ acc.length < sizeLine ∧ (∃ F A μ vs acc' rest, Same F1 F ∧ A1 <+: A ∧ Rc N F A (upd H4 D0 (.lst (acc ++ [v]))) μ ∧ (upd H4 D0 (.lst (acc ++ [v]))) D0 = some (.lst vs) ∧ F D0 = none ∧ D0 ∉ A ∧ Reps N.K F vs acc' ∧ vs.length ≤ i + 1 ∧ CmpL P f (wipeD δ (own.map (·.2))) (ds.drop (i + 1)) μ rest μ2 ∧ acc' ++ rest = ys)
          | none => ∃ F A μ vs acc rest, Same F1 F ∧ A1 <+: A ∧ Rc N F A H4 μ ∧ H4 D0 = some (.lst vs) ∧ F D0 = none ∧ D0 ∉ A ∧ Reps N.K F vs acc ∧ vs.length ≤ i + 1 ∧ CmpL P f (wipeD δ (own.map (·.2))) (ds.drop (i + 1)) μ rest μ2 ∧ acc ++ rest = ys) rfl R3' hPr fun v F4 A4 H4 e4 p4 R4 rv => ?_
      have b4 : Rc N F4 A4 H4 μu := R3.rc.back R4.rc
      have k4 : H4 D0 = some (.lst vs) := R4.rc.keep D0 _ hH' hA
      have f4 : F4 D0 = none := by
        cases q : F4 D0 with
        | none => rfl
        | some o =>
          rcases R4.rc.new D0 o q with ⟨o', z⟩ | z | ⟨_, xs, z⟩
          · have z' : F2 D0 = some o' := z
            rw [hF20] at z'; cases z'
          · have z' : H' D0 = none := z
            rw [hH'] at z'; cases z'
          · have z' : H' D0 = some (.tup xs) := z
            rw [hH'] at z'; cases z'
      have a4 : D0 ∉ A4 := fun hm => by
        obtain ⟨B, eB, hB⟩ := R4.rc.pre
        rw [eB] at hm
        rcases List.mem_append.mp hm with z | z
        · exact hA z
        · have z' : H' D0 = none := hB _ z
          rw [hH'] at z'; cases z'
      have s4 : Same F1 F4 := (e.trans e2).trans e4
      have p4' : A1 <+: A4 := p.trans p4
      cases r with
      | some yv =>
        cases v with
        | some v =>
          refine ⟨vs, k4, by omega, F4, A4, μu, vs ++ [v], acc ++ [yv], rest', s4, p4', b4.poke f4 a4 h0.1 _, upd_same, f4, a4, ((hr.mono (e2.trans e4))).snoc rv, by simp; omega, hL', ?_⟩
          rw [List.append_assoc]
          exact hys
        | none => exact rv.elim
      | none =>
        cases v with
        | some v => exact rv.elim
        | none => exact ⟨F4, A4, μu, vs, acc, rest', s4, p4', b4, k4, f4, a4, hr.mono (e2.trans e4), by omega, hL', hys⟩
    have Rw := R2.wiped (own.map (·.2))
    cases hL with
    | keep hf hb hL' => exact ⟨F2, A, _, μ, d, _, Rw, rx, hf, fun σ2 w2 R3 => ⟨(wipe_sub hix w2).trans (by
        apply List.ext_getElem?
        intro j
        rw [wipe_get, wipe_get]
        by_cases hj : j ∈ own.map (·.2)
        · rw [if_pos hj, if_pos hj]; cases σ[j]? <;> rfl
        · rw [if_neg hj, if_neg hj]), key σ2 _ (some _) _ _ R3 hb hL' hy⟩⟩
    | drop hf hb hL' => exact ⟨F2, A, _, μ, d, _, Rw, rx, hf, fun σ2 w2 R3 => ⟨(wipe_sub hix w2).trans (by
        apply List.ext_getElem?
        intro j
        rw [wipe_get, wipe_get]
        by_cases hj : j ∈ own.map (·.2)
        · rw [if_pos hj, if_pos hj]; cases σ[j]? <;> rfl
        · rw [if_neg hj, if_neg hj]), key σ2 _ none _ _ R3 hb hL' hy⟩⟩
  · have hi' : i = ds.length := by omega
    subst hi'
    refine .inl ⟨y.stops H (e.trans R.sub), ?_⟩
    rw [List.drop_length] at hL
    cases hL
    rw [List.append_nil] at hy
    subst hy
    exact hq F A H vs e p R hv hF hA hr
end
end Dl
set_option Elab.async false
set_option linter.all false
set_option maxRecDepth 100000
set_option maxHeartbeats 4000000
set_option autoImplicit false
namespace Dl
open PySem PySem.Spec PyProof.Rows L2
section
variable {X : Cx} {N : En} {W : WX} {n : Nat} {δ δ' δ1 δ2 : List (Option S)} {μ μ' μ1 μ2 μ3 : List M} {elt tg iter c : Expr} {ifs : List Expr} {pos : Pos} {ds ys : List D} {scope : Scope} {own : List (Str × Nat)} {f : As} {ix : List Nat}
/-- in every block -/
abbrev DEB (X : Cx) (K : PySem.W.Frag) (n : Nat) (scope : Scope) (elt : Expr) (δ : List (Option S)) (μ : List M) (y : D) (μ1 : List M) : Prop :=
  ∀ s H C cl fp N', N'.K = K → Go (blkX X scope s H C cl fp) N' W0 n → DE (blkX X scope s H C cl fp) N' W0 δ μ elt (.v (.p y)) μ1
abbrev DTB (X : Cx) (K : PySem.W.Frag) (n : Nat) (scope : Scope) (c : Expr) (δ : List (Option S)) (μ : List M) (b : Bool) (μ1 : List M) : Prop :=
  ∀ s H C cl fp N', N'.K = K → Go (blkX X scope s H C cl fp) N' W0 n → DT (blkX X scope s H C cl fp) N' W0 δ μ c b μ1
def teB (X : Cx) (K : PySem.W.Frag) (n : Nat) (scope : Scope) (elt : Expr) : TE := fun σ H Q => ∃ (N' : En) (F : Hp) (A : List Addr) (δt : List (Option S)) (μt : List M) (y : D) (μu : List M), N'.K = K ∧ Rl N' F A H σ δt μt ∧ DEB X K n scope elt δt μt y μu ∧
  ∀ v F' A' H', Same F F' → A <+: A' → Rl N' F' A' H' σ δt μu → Rep K F' v y → Q v H'
def ttB (X : Cx) (K : PySem.W.Frag) (n : Nat) (scope : Scope) (c : Expr) : TT := fun σ H Q => ∃ (N' : En) (F : Hp) (A : List Addr) (δt : List (Option S)) (μt : List M) (b : Bool) (μu : List M), N'.K = K ∧ Rl N' F A H σ δt μt ∧ DTB X K n scope c δt μt b μu ∧
  ∀ F' A' H', Same F F' → A <+: A' → Rl N' F' A' H' σ δt μu → Q b H'
theorem pe_teB (g : Go X N W n) {s : Shared} {H : Hp} {C : Addr} {cl : List (Str × Addr)} {fp : List Addr} : PE (blkX X scope s H C cl fp) elt (teB X N.K n scope elt) :=
  ⟨fun pins s σ H Q I ⟨N', F, A, δt, μt, y, μu, hK, R, hd, k⟩ => (hd _ _ _ _ _ N' hK (g.blk hK)).run pins s σ H Q I ⟨F, A, R, fun v F' A' H' a b c d => k v F' A' H' a b c (by rw [← hK]; exact d)⟩⟩
theorem pt_ttB (g : Go X N W n) {s : Shared} {H : Hp} {C : Addr} {cl : List (Str × Addr)} {fp : List Addr} : PT (blkX X scope s H C cl fp) c (ttB X N.K n scope c) :=
  ⟨fun pins s σ H Q I ⟨N', F, A, δt, μt, y, μu, hK, R, hd, k⟩ => (hd _ _ _ _ _ N' hK (g.blk hK)).run pins s σ H Q I ⟨F, A, R, k⟩⟩
/-- an element without a test -/
def El0 (X : Cx) (K : PySem.W.Frag) (n : Nat) (scope : Scope) (elt : Expr) : List (Option S) → List M → Option D → List M → Prop := fun δt μt r μu => ∃ y, r = some y ∧ DEB X K n scope elt δt μt y μu
/-- an element with one -/
def El1 (X : Cx) (K : PySem.W.Frag) (n : Nat) (scope : Scope) (c elt : Expr) : List (Option S) → List M → Option D → List M → Prop := fun δt μt r μu => ∃ μ', DTB X K n scope c δt μt r.isSome μ' ∧
  match r with
  | some y => DEB X K n scope elt δt μ' y μu
  | none => μu = μ'
theorem lc_read (g : Go X N W n) (P : List (Option S) → List M → Option D → List M → Prop) {tt : TT} {te : TE} (hds : ds.length < sizeLine) (hix : ∀ i ∈ ix, i ∈ own.map (·.2)) (hl : CmpL P f (wipeD δ (own.map (·.2))) ds μ1 ys μ2)
    (hP : ∀ (N' : En) F A σ2 H2 δt μt r μu (Q : Option V → Hp → Prop), N'.K = N.K → Rl N' F A H2 σ2 δt μt → P δt μt r μu →
      (∀ v F' A' H', Same F F' → A <+: A' → Rl N' F' A' H' σ2 δt μu → (match r, v with | some y, some v => Rep N.K F' v y | none, none => True | _, _ => False) → Q v H') →
      tt σ2 H2 fun b H3 => if b = true then te σ2 H3 fun v H4 => Q (some v) H4 else Q none H3)
    {σ : L2.St} {H : Hp} {Q : VK} {F : Hp} {A : List Addr} (R : Rl N F A H σ δ μ)
    (hq : ∀ D0 F' A' H' vs, Same F F' → A <+: A' → Rc N F' A' H' μ2 → H' D0 = some (.lst vs) → F' D0 = none → D0 ∉ A' → N.H0 D0 = none → Reps N.K F' vs ys → Q (.ref D0) H') :
    tLc (tI N W δ μ ds μ1) (tGd N f ix) tt te (own.map (·.2)) σ H Q :=
  ⟨F, A, R, fun J F1 A1 H1 e1 p1 R1 y D0 hD => lc_go hds R1 y hD hix P hl hP fun F' A' H' vs e p r a b c d => hq D0 F' A' H' vs (e1.trans e) (p1.trans p) r a b c (R1.rc.fresh hD).1 d⟩
theorem hP0 (g : Go X N W n) : ∀ (N' : En) F A σ2 H2 δt μt r μu (Q : Option V → Hp → Prop), N'.K = N.K → Rl N' F A H2 σ2 δt μt → El0 X N.K n scope elt δt μt r μu →
      (∀ v F' A' H', Same F F' → A <+: A' → Rl N' F' A' H' σ2 δt μu → (match r, v with | some y, some v => Rep N.K F' v y | none, none => True | _, _ => False) → Q v H') →
      tYes σ2 H2 fun b H3 => if b = true then teB X N.K n scope elt σ2 H3 fun v H4 => Q (some v) H4 else Q none H3 := by
  intro N' F A σ2 H2 δt μt r μu Q hK R ⟨y, e, hd⟩ k
  subst e
  show if true = true then teB X N.K n scope elt σ2 H2 (fun v H4 => Q (some v) H4) else Q none H2
  exact iteT ⟨N', F, A, δt, μt, y, μu, hK, R, hd, fun v F' A' H' a b c d => k (some v) F' A' H' a b c d⟩
theorem hP1 (g : Go X N W n) : ∀ (N' : En) F A σ2 H2 δt μt r μu (Q : Option V → Hp → Prop), N'.K = N.K → Rl N' F A H2 σ2 δt μt → El1 X N.K n scope c elt δt μt r μu →
      (∀ v F' A' H', Same F F' → A <+: A' → Rl N' F' A' H' σ2 δt μu → (match r, v with | some y, some v => Rep N.K F' v y | none, none => True | _, _ => False) → Q v H') →
      ttB X N.K n scope c σ2 H2 fun b H3 => if b = true then teB X N.K n scope elt σ2 H3 fun v H4 => Q (some v) H4 else Q none H3 := by
  intro N' F A σ2 H2 δt μt r μu Q hK R ⟨μ', ht, hd⟩ k
  refine ⟨N', F, A, δt, μt, r.isSome, μ', hK, R, ht, fun F1 A1 H1 e1 p1 R1 => ?_⟩
  cases r with
  | some y => exact iteT ⟨N', F1, A1, δt, μ', y, μu, hK, R1, hd, fun v F' A' H' a b c d => k (some v) F' A' H' (e1.trans a) (p1.trans b) c d⟩
  | none =>
    have e : μu = μ' := hd
    subst e
    exact iteF (k none F1 A1 H1 e1 p1 R1 trivial)
/-- the new list is frozen -/
theorem lc_frz {σ : L2.St} {F : Hp} {A : List Addr} {H : Hp} {Q : VK} (R : Rl N F A H σ δ μ) (k : EndE N W σ δ F A μ2 Q (.v (.p (.lst ys)))) :
    ∀ D0 F' A' H' vs, Same F F' → A <+: A' → Rc N F' A' H' μ2 → H' D0 = some (.lst vs) → F' D0 = none → D0 ∉ A' → N.H0 D0 = none → Reps N.K F' vs ys → Q (.ref D0) H' := by
  intro D0 F' A' H' vs e p r a b c h0 d
  have sm := same_updN (o := .lst vs) b
  exact k (.ref D0) _ A' H' (e.trans sm) p (R.to (e.trans sm) p (r.adopt b c h0 a)) (.lst upd_same (d.mono sm))
theorem de_lc (g : Go X N W n) (own : List (Str × Nat)) (hi : DI X N W δ μ tg iter ds μ1) (hg : ∀ s H C cl fp, DG (blkX X scope s H C cl fp) N tg f ix) (hl : CmpL (El0 X N.K n scope elt) f (wipeD δ (own.map (·.2))) ds μ1 ys μ2)
    (ok : BlkOk X.N X.env.scope scope own := by exact blkOk_by (by decide +kernel)) (hds : ds.length < sizeLine := by first | (show _ < sizeLine; decide) | (simp; decide)) (hix : ∀ i ∈ ix, i ∈ own.map (·.2) := by decide) (hs : ∀ x, foldedSetIterable iter X.env x = pure x := by intro _; rfl) :
    DE X N W δ μ (.ListComp elt [⟨tg, iter, [], 0⟩] scope pos) (.v (.p (.lst ys))) μ2 :=
  PE.imp (pe_lc (own := own) g.calm g.nd hi ok hg (fun _ _ _ _ _ => pts_nil) (fun s H C cl fp => pe_teB g) hs) fun σ H Q ⟨F, A, R, k⟩ => lc_read g _ hds hix hl (hP0 g) R (lc_frz (W := W) R k)
theorem de_lcIf (g : Go X N W n) (own : List (Str × Nat)) (hi : DI X N W δ μ tg iter ds μ1) (hg : ∀ s H C cl fp, DG (blkX X scope s H C cl fp) N tg f ix) (hl : CmpL (El1 X N.K n scope c elt) f (wipeD δ (own.map (·.2))) ds μ1 ys μ2)
    (ok : BlkOk X.N X.env.scope scope own := by exact blkOk_by (by decide +kernel)) (hds : ds.length < sizeLine := by first | (show _ < sizeLine; decide) | (simp; decide)) (hix : ∀ i ∈ ix, i ∈ own.map (·.2) := by decide) (hs : ∀ x, foldedSetIterable iter X.env x = pure x := by intro _; rfl) :
    DE X N W δ μ (.ListComp elt [⟨tg, iter, [c], 0⟩] scope pos) (.v (.p (.lst ys))) μ2 :=
  PE.imp (pe_lc (own := own) g.calm g.nd hi ok hg (fun _ _ _ _ _ => pts_one (pt_ttB g)) (fun s H C cl fp => pe_teB g) hs) fun σ H Q ⟨F, A, R, k⟩ => lc_read g _ hds hix hl (hP1 g) R (lc_frz (W := W) R k)
/-- name = [..] -/
theorem ds_setLc (i : Nat) {x : Str} {py spos : Pos} (g : Go X N W n) (own : List (Str × Nat)) (hi : DI X N W δ μ tg iter ds μ1) (hg : ∀ s H C cl fp, DG (blkX X scope s H C cl fp) N tg f ix) (hl : CmpL (El0 X N.K n scope elt) f (wipeD δ (own.map (·.2))) ds μ1 ys μ2)
    (hsw : swapsWith (.ListComp elt [⟨tg, iter, [], 0⟩] scope pos) (some (.Name x py)) spos.line X.env = pure true := by exact sw_true rfl rfl rfl (by decide +kernel)) (hy : X.N[i]? = some x := by rfl) (hyl : X.env.scope.names.lookup x = some .local := by rfl)
    (ok : BlkOk X.N X.env.scope scope own := by exact blkOk_by (by decide +kernel)) (hds : ds.length < sizeLine := by first | (show _ < sizeLine; decide) | (simp; decide)) (hix : ∀ i ∈ ix, i ∈ own.map (·.2) := by decide) (hs : ∀ x, foldedSetIterable iter X.env x = pure x := by intro _; rfl) :
    DS X N W δ μ (.Assign [.Name x py] (.ListComp elt [⟨tg, iter, [], 0⟩] scope pos) spos) (.nx (δ.set i (some (.p (.lst ys)))) μ2) :=
  PS.imp (ps_setLc (own := own) g.calm g.nd hy hyl hsw hi ok hg (fun _ _ _ _ _ => pts_nil) (fun s H C cl fp => pe_teB g) hs) fun K σ H ⟨F, A, R, k⟩ =>
    lc_read g _ hds hix hl (hP0 g) R (lc_frz (W := W) R (show EndE N W σ δ F A μ2 _ (.v (.p (.lst ys))) from fun v F' A' H' e p R' rv => k _ F' A' H' e p (R'.set rv)))
theorem ds_setLcIf (i : Nat) {x : Str} {py spos : Pos} (g : Go X N W n) (own : List (Str × Nat)) (hi : DI X N W δ μ tg iter ds μ1) (hg : ∀ s H C cl fp, DG (blkX X scope s H C cl fp) N tg f ix) (hl : CmpL (El1 X N.K n scope c elt) f (wipeD δ (own.map (·.2))) ds μ1 ys μ2)
    (hsw : swapsWith (.ListComp elt [⟨tg, iter, [c], 0⟩] scope pos) (some (.Name x py)) spos.line X.env = pure true := by exact sw_true rfl rfl rfl (by decide +kernel)) (hy : X.N[i]? = some x := by rfl) (hyl : X.env.scope.names.lookup x = some .local := by rfl)
    (ok : BlkOk X.N X.env.scope scope own := by exact blkOk_by (by decide +kernel)) (hds : ds.length < sizeLine := by first | (show _ < sizeLine; decide) | (simp; decide)) (hix : ∀ i ∈ ix, i ∈ own.map (·.2) := by decide) (hs : ∀ x, foldedSetIterable iter X.env x = pure x := by intro _; rfl) :
    DS X N W δ μ (.Assign [.Name x py] (.ListComp elt [⟨tg, iter, [c], 0⟩] scope pos) spos) (.nx (δ.set i (some (.p (.lst ys)))) μ2) :=
  PS.imp (ps_setLc (own := own) g.calm g.nd hy hyl hsw hi ok hg (fun _ _ _ _ _ => pts_one (pt_ttB g)) (fun s H C cl fp => pe_teB g) hs) fun K σ H ⟨F, A, R, k⟩ =>
    lc_read g _ hds hix hl (hP1 g) R (lc_frz (W := W) R (show EndE N W σ δ F A μ2 _ (.v (.p (.lst ys))) from fun v F' A' H' e p R' rv => k _ F' A' H' e p (R'.set rv)))
end
end Dl
set_option Elab.async false
set_option linter.all false
set_option maxRecDepth 100000
set_option maxHeartbeats 4000000
set_option autoImplicit false
namespace Dl
open PySem PySem.Spec PyProof.Rows L2
/-! ### what type a datum has -/
section
variable {X : Cx} {N : En} {W : WX} {n : Nat} {δ δ' δ1 δ2 : List (Option S)} {μ μ' μ1 μ2 μ3 : List M} {e a b c o : Expr} {es : List Expr} {ss : List S} {pos p apos : Pos} {d : D} {s s1 s2 : S} {r : Rx} {R : Rel} {k : Nat} {x m f : Str} {dd : List D} {C : Addr}
/-- two expressions, then what is done with both -/
theorem two_then {σ : L2.St} {H : Hp} {pins : List (Addr × Obj)} {sh : Shared} {F : Hp} {A : List Addr} {α : Type} {Q : α → Shared → Prop} {fn : Value → Value → Sem α} (ha : DE X N W δ μ a (.v s1) μ1) (hb : DE X N W δ μ1 b (.v s2) μ2) (I : Inv X pins σ H sh) (R0 : Rl N F A H σ δ μ)
    (h : ∀ v u s3 x y H2 F2 A2, Inv X pins σ H2 s3 → RelV x v → RelV y u → Same F F2 → A <+: A2 → Rl N F2 A2 H2 σ δ μ2 → RepS N.K F2 A2 x s1 → RepS N.K F2 A2 y s2 → wpAny (model X.prog X.w) X.A (fn v u) Q X.xe s3) :
    wpAny (model X.prog X.w) X.A (eval a X.env) (fun v s₁ => wpAny (model X.prog X.w) X.A (eval b X.env) (fun u s₂ => wpAny (model X.prog X.w) X.A (fn v u) Q X.xe s₂) X.xe s₁) X.xe sh :=
  bin ha hb (R := fun x y H2 => ∃ F2 A2, Same F F2 ∧ A <+: A2 ∧ Rl N F2 A2 H2 σ δ μ2 ∧ RepS N.K F2 A2 x s1 ∧ RepS N.K F2 A2 y s2) I
    ⟨F, A, R0, fun x F1 A1 H1 e1 p1 R1 rx => ⟨F1, A1, R1, fun y F2 A2 H2 e2 p2 R2 ry => ⟨F2, A2, e1.trans e2, p1.trans p2, R2, rx.mono e2 p2, ry⟩⟩⟩
    fun v u s3 x y H2 I2 rx ry ⟨F2, A2, e2, p2, R2, h1, h2⟩ => h v u s3 x y H2 F2 A2 I2 rx ry e2 p2 R2 h1 h2
/-! ### == and != by an own __eq__ -/
structure NeOk (K : PySem.W.Frag) (C : Addr) : Prop where
  ne : PySem.W.findIn K (.ref C) "__ne__" = some (some (.builtin "object.__ne__"))
  mro : PySem.W.mroIn K C (.type "object") = some true
end
end Dl
set_option Elab.async false
set_option linter.all false
set_option maxRecDepth 100000
set_option maxHeartbeats 4000000
set_option autoImplicit false
namespace Dl
open PySem PySem.Spec PyProof.Rows L2
section
variable {K : PySem.W.Frag} {F : Hp} {A : List Addr} {v : V}
theorem rs_int {i : Int} (h : RepS K F A v (.p (.int i))) : v = .int i := by cases (show Rep K F v (.int i) from h); rfl
theorem rs_str {i : Str} (h : RepS K F A v (.p (.str i))) : v = .str i := by cases (show Rep K F v (.str i) from h); rfl
theorem rs_bl {i : Bool} (h : RepS K F A v (.p (.bl i))) : v = .bl i := by cases (show Rep K F v (.bl i) from h); rfl
theorem rs_non (h : RepS K F A v (.p .non)) : v = .non := by cases (show Rep K F v .non from h); rfl
theorem rs_adr {n : Addr} (h : RepS K F A v (.p (.adr n))) : v = .ref n := by cases (show Rep K F v (.adr n) from h); rfl
theorem reps_ints : ∀ {vs : List V} {ns : List Int}, Reps K F vs (ns.map D.int) → vs = ns.map V.int
  | _, [], .nil => rfl
  | _, n :: ns, .cons a b => by cases a; rw [reps_ints b]; rfl
theorem reps_bls : ∀ {vs : List V} {ns : List Bool}, Reps K F vs (ns.map D.bl) → vs = ns.map V.bl
  | _, [], .nil => rfl
  | _, n :: ns, .cons a b => by cases a; rw [reps_bls b]; rfl
theorem reps_strs : ∀ {vs : List V} {ns : List Str}, Reps K F vs (ns.map D.str) → vs = ns.map V.str
  | _, [], .nil => rfl
  | _, n :: ns, .cons a b => by cases a; rw [reps_strs b]; rfl
theorem of_strs : ∀ {ns : List Str}, Reps K F (ns.map V.str) (ns.map D.str)
  | [] => .nil
  | n :: ns => .cons (.str n) of_strs
end
section
variable {X : Cx} {N : En} {W : WX} {n : Nat} {δ δ' δ1 δ2 : List (Option S)} {μ μ' μ1 μ2 μ3 : List M} {e a b c o : Expr} {es : List Expr} {ss : List S} {pos p apos : Pos} {d : D} {s s1 s2 : S} {r : Rx}
/-! ### ints -/
theorem o_int {f : Value → Value → Sem Value} {g : Int → Int → Int} (h : OpR X f (rI0 fun i j => .int (g i j))) {i j : Int} : OpOk X N W f μ (.p (.int i)) (.p (.int j)) (.v (.p (.int (g i j)))) μ :=
  ⟨_, h, fun σ δ F A H x y Q R rx ry k => ⟨i, j, rs_int rx, rs_int ry, k.here R (.int _)⟩⟩
theorem o_intC {f : Value → Value → Sem Value} {C : Int → Int → Prop} {g : Int → Int → Int} (h : OpR X f (rI C fun i j => .int (g i j))) {i j : Int} (hc : C i j) : OpOk X N W f μ (.p (.int i)) (.p (.int j)) (.v (.p (.int (g i j)))) μ :=
  ⟨_, h, fun σ δ F A H x y Q R rx ry k => ⟨i, j, rs_int rx, rs_int ry, hc, k.here R (.int _)⟩⟩
theorem o_cmp {f : Value → Value → Sem Value} {g : Int → Int → Bool} (h : OpR X f (rI0 fun i j => .bl (g i j))) {i j : Int} : OpOk X N W f μ (.p (.int i)) (.p (.int j)) (.v (.p (.bl (g i j)))) μ :=
  ⟨_, h, fun σ δ F A H x y Q R rx ry k => ⟨i, j, rs_int rx, rs_int ry, k.here R (.bl _)⟩⟩
theorem o_add {i j : Int} : OpOk X N W (binaryOp .Add) μ (.p (.int i)) (.p (.int j)) (.v (.p (.int (i + j)))) μ := o_int op_add
theorem o_sub {i j : Int} : OpOk X N W (binaryOp .Sub) μ (.p (.int i)) (.p (.int j)) (.v (.p (.int (i - j)))) μ := o_int op_sub
theorem o_mul {i j : Int} (hc : CMul i j) : OpOk X N W (binaryOp .Mult) μ (.p (.int i)) (.p (.int j)) (.v (.p (.int (i * j)))) μ := o_intC op_mul hc
theorem o_div {i j : Int} (hc : CDiv i j) : OpOk X N W (binaryOp .FloorDiv) μ (.p (.int i)) (.p (.int j)) (.v (.p (.int (i / j)))) μ := o_intC op_fdiv hc
theorem o_mod {i j : Int} (hc : 0 < j) : OpOk X N W (binaryOp .Mod) μ (.p (.int i)) (.p (.int j)) (.v (.p (.int (i % j)))) μ := o_intC op_mod hc
theorem op_powW : OpR X (binaryOp .Pow) (rI (fun i j => 0 ≤ j ∧ (Builtin.Int.intBits i : Int) * j ≤ 2 ^ 27) fun i j => .int (i ^ j.toNat)) := opI fun _ _ _ _ _ _ _ hc q => pow_int hc.1 hc.2 q
theorem o_pow {i j : Int} (hc : 0 ≤ j ∧ (Builtin.Int.intBits i : Int) * j ≤ 2 ^ 27) : OpOk X N W (binaryOp .Pow) μ (.p (.int i)) (.p (.int j)) (.v (.p (.int (i ^ j.toNat)))) μ := o_intC op_powW hc
theorem o_lt {i j : Int} : OpOk X N W (compareOp .Lt) μ (.p (.int i)) (.p (.int j)) (.v (.p (.bl (decide (i < j))))) μ := o_cmp op_lt
theorem o_le {i j : Int} : OpOk X N W (compareOp .LtE) μ (.p (.int i)) (.p (.int j)) (.v (.p (.bl (decide (i ≤ j))))) μ := o_cmp op_le
theorem o_gt {i j : Int} : OpOk X N W (compareOp .Gt) μ (.p (.int i)) (.p (.int j)) (.v (.p (.bl (decide (j < i))))) μ := o_cmp op_gt
theorem o_ge {i j : Int} : OpOk X N W (compareOp .GtE) μ (.p (.int i)) (.p (.int j)) (.v (.p (.bl (decide (j ≤ i))))) μ := o_cmp op_ge
theorem o_eqI {i j : Int} : OpOk X N W (compareOp .Eq) μ (.p (.int i)) (.p (.int j)) (.v (.p (.bl (decide (i = j))))) μ :=
  ⟨_, op_eq, fun σ δ F A H x y Q R rx ry k => by
    cases rs_int rx; cases rs_int ry
    exact ⟨rfl, k.here R (by rw [show decide (V.int i = V.int j) = decide (i = j) from by rw [dec_int]; exact Bool.beq_eq_decide_eq ..]; exact .bl _)⟩⟩
theorem o_neI {i j : Int} : OpOk X N W (compareOp .NotEq) μ (.p (.int i)) (.p (.int j)) (.v (.p (.bl (!decide (i = j))))) μ :=
  ⟨_, op_ne, fun σ δ F A H x y Q R rx ry k => by
    cases rs_int rx; cases rs_int ry
    exact ⟨rfl, k.here R (by rw [show decide (V.int i = V.int j) = decide (i = j) from by rw [dec_int]; exact Bool.beq_eq_decide_eq ..]; exact .bl _)⟩⟩
theorem o_eqS {i j : Str} : OpOk X N W (compareOp .Eq) μ (.p (.str i)) (.p (.str j)) (.v (.p (.bl (decide (i = j))))) μ :=
  ⟨_, op_eq, fun σ δ F A H x y Q R rx ry k => by
    cases rs_str rx; cases rs_str ry
    exact ⟨rfl, k.here R (by rw [show decide (V.str i = V.str j) = decide (i = j) from by rw [dec_str]; exact Bool.beq_eq_decide_eq ..]; exact .bl _)⟩⟩
theorem o_neS {i j : Str} : OpOk X N W (compareOp .NotEq) μ (.p (.str i)) (.p (.str j)) (.v (.p (.bl (!decide (i = j))))) μ :=
  ⟨_, op_ne, fun σ δ F A H x y Q R rx ry k => by
    cases rs_str rx; cases rs_str ry
    exact ⟨rfl, k.here R (by rw [show decide (V.str i = V.str j) = decide (i = j) from by rw [dec_str]; exact Bool.beq_eq_decide_eq ..]; exact .bl _)⟩⟩
theorem u_neg {i : Int} : UnOk X N W (unaryOp .USub) μ (.p (.int i)) (.v (.p (.int (-i)))) μ :=
  ⟨_, un_neg, fun σ δ F A H x Q R rx k => ⟨i, rs_int rx, k.here R (.int _)⟩⟩
/-! ### texts -/
theorem o_addS {i j : Str} (hl : i.length + j.length ≤ sizeLine) : OpOk X N W (binaryOp .Add) μ (.p (.str i)) (.p (.str j)) (.v (.p (.str (i ++ j)))) μ :=
  ⟨_, op_add_str, fun σ δ F A H x y Q R rx ry k => ⟨i, j, rs_str rx, rs_str ry, hl, k.here R (.str _)⟩⟩
theorem o_inS {c : Nat} {z : Str} : OpOk X N W (compareOp .In) μ (.p (.str ⟨#[c]⟩)) (.p (.str z)) (.v (.p (.bl (decide (c ∈ z.cps.toList))))) μ :=
  ⟨_, op_in_sign, fun σ δ F A H x y Q R rx ry k => ⟨c, z, rs_str rx, rs_str ry, k.here R (.bl _)⟩⟩
theorem op_mulS1 : OpR X (binaryOp .Mult) (fun x y H Q => ∃ (z : Str) (k : Bool), x = .str z ∧ y = .int (if k then 1 else 0) ∧ Q (.str (if k then z else Str.empty)) H) := by
  intro pins s σ H x y v u Q I rx ry h
  obtain ⟨z, k, rfl, rfl, q⟩ := h
  obtain ⟨t, rfl⟩ := rx
  obtain ⟨t', rfl⟩ := ry
  cases k with
  | false => exact PySem.P.mul_str_none (by decide) (by decide) ⟨.str _, H, I.tok _, ⟨_, rfl⟩, q⟩
  | true =>
    refine PySem.P.mul_str (by decide) (fun _ h => by simp at h) (fun _ h => by simp at h) ?_
    show (if (1 : Int) < 1 then _ else if ((1 : Int) == 1 || z.length == 0) = true then _ else _ : Made).post _ _
    rw [if_neg (by decide), if_pos (by simp)]
    exact ⟨.str z, H, I, ⟨t, rfl⟩, q⟩
theorem o_mulS {z : Str} {k : Bool} : OpOk X N W (binaryOp .Mult) μ (.p (.str z)) (.p (.int (if k then 1 else 0))) (.v (.p (.str (if k then z else Str.empty)))) μ :=
  ⟨_, op_mulS1, fun σ δ F A H x y Q R rx ry q => ⟨z, k, rs_str rx, rs_int ry, q.here R (.str _)⟩⟩
/-! ### builtins -/
theorem one_of {K : PySem.W.Frag} {F : Hp} {A : List Addr} {vs : List V} (h : RepSs K F A vs [s]) : ∃ v, vs = [v] ∧ RepS K F A v s := by
  cases h with
  | cons a b => cases b; exact ⟨_, rfl, a⟩
theorem two_of {K : PySem.W.Frag} {F : Hp} {A : List Addr} {vs : List V} (h : RepSs K F A vs [s1, s2]) : ∃ v w, vs = [v, w] ∧ RepS K F A v s1 ∧ RepS K F A w s2 := by
  cases h with
  | cons a b => cases b with
    | cons b c => cases c; exact ⟨_, _, rfl, a, b⟩
theorem c_int {i : Int} : CallOk X N W (.type "int") μ [.p (.int i)] (.v (.p (.int i))) μ :=
  ⟨_, call_int1, fun σ δ F A H vs Q R rv k => by
    obtain ⟨v, rfl, h⟩ := one_of rv
    exact .inl ⟨i, by rw [rs_int h], k.here R (.int _)⟩⟩
theorem c_intB {i : Bool} : CallOk X N W (.type "int") μ [.p (.bl i)] (.v (.p (.int (if i then 1 else 0)))) μ :=
  ⟨_, call_int1, fun σ δ F A H vs Q R rv k => by
    obtain ⟨v, rfl, h⟩ := one_of rv
    exact .inr ⟨i, by rw [rs_bl h], k.here R (.int _)⟩⟩
theorem c_abs {i : Int} : CallOk X N W (.builtin "abs") μ [.p (.int i)] (.v (.p (.int (if i < 0 then -i else i)))) μ :=
  ⟨_, call_abs, fun σ δ F A H vs Q R rv k => by
    obtain ⟨v, rfl, h⟩ := one_of rv
    exact ⟨i, by rw [rs_int h], k.here R (.int _)⟩⟩
theorem c_max2 (g : Go X N W n) {i j : Int} : CallOk X N W (.builtin "max") μ [.p (.int i), .p (.int j)] (.v (.p (.int (if j > i then j else i)))) μ :=
  ⟨_, call_max2 g.calm, fun σ δ F A H vs Q R rv k => by
    obtain ⟨v, w, rfl, h, h'⟩ := two_of rv
    exact ⟨i, j, by rw [rs_int h, rs_int h'], k.here R (.int _)⟩⟩
theorem c_min2 (g : Go X N W n) {i j : Int} : CallOk X N W (.builtin "min") μ [.p (.int i), .p (.int j)] (.v (.p (.int (if j < i then j else i)))) μ :=
  ⟨_, call_min2 g.calm, fun σ δ F A H vs Q R rv k => by
    obtain ⟨v, w, rfl, h, h'⟩ := two_of rv
    exact ⟨i, j, by rw [rs_int h, rs_int h'], k.here R (.int _)⟩⟩
theorem c_lenS {z : Str} (hl : z.length ≤ sizeLine) : CallOk X N W (.builtin "len") μ [.p (.str z)] (.v (.p (.int z.length))) μ :=
  ⟨_, call_len, fun σ δ F A H vs Q R rv k => by
    obtain ⟨v, rfl, h⟩ := one_of rv
    exact ⟨.str z, z.length, by rw [rs_str h], ⟨hl, rfl⟩, k.here R (.int _)⟩⟩
theorem c_lenT (g : Go X N W n) {ds : List D} : CallOk X N W (.builtin "len") μ [.p (.tup ds)] (.v (.p (.int ds.length))) μ :=
  ⟨_, call_len, fun σ δ F A H vs Q R rv k => by
    obtain ⟨v, rfl, h⟩ := one_of rv
    obtain ⟨a, ws, rfl, h1, h2⟩ := rep_tup h
    exact ⟨.ref a, ds.length, rfl, .inr ⟨ws, by rw [← g.hK]; exact same_sqT R.rc.sub h1, h2.length.symm⟩, k.here R (.int _)⟩⟩
theorem c_lenL (g : Go X N W n) {ds : List D} : CallOk X N W (.builtin "len") μ [.p (.lst ds)] (.v (.p (.int ds.length))) μ :=
  ⟨_, call_len, fun σ δ F A H vs Q R rv k => by
    obtain ⟨v, rfl, h⟩ := one_of rv
    obtain ⟨a, ws, rfl, h1, h2⟩ := rep_lst h
    exact ⟨.ref a, ds.length, rfl, .inl ⟨ws, SqL.of (R.rc.sub _ _ h1), h2.length.symm⟩, k.here R (.int _)⟩⟩
theorem c_lenM {j : Nat} {ds : List D} (hj : μ[j]? = some (.lst ds)) : CallOk X N W (.builtin "len") μ [.l j] (.v (.p (.int ds.length))) μ :=
  ⟨_, call_len, fun σ δ F A H vs Q R rv k => by
    obtain ⟨v, rfl, h⟩ := one_of rv
    obtain ⟨a, rfl, ha⟩ := h
    obtain ⟨ws, h1, h2⟩ := R.rc.mus j a _ ha hj
    exact ⟨.ref a, ds.length, rfl, .inl ⟨ws, SqL.of h1, h2.length.symm⟩, k.here R (.int _)⟩⟩
theorem c_sum (g : Go X N W n) {ns : List Int} : CallOk X N W (.builtin "sum") μ [.p (.lst (ns.map D.int))] (.v (.p (.int ns.sum))) μ :=
  ⟨_, cr_sum g.calm, fun σ δ F A H vs Q R rv k => by
    obtain ⟨v, rfl, h⟩ := one_of rv
    obtain ⟨a, ws, rfl, h1, h2⟩ := rep_lst h
    rw [reps_ints h2] at h1
    exact ⟨a, ns, rfl, SqL.of (R.rc.sub _ _ h1), k.here R (.int _)⟩⟩
theorem c_all (g : Go X N W n) {ns : List Bool} : CallOk X N W (.builtin "all") μ [.p (.lst (ns.map D.bl))] (.v (.p (.bl (ns.all id)))) μ :=
  ⟨_, cr_all g.calm, fun σ δ F A H vs Q R rv k => by
    obtain ⟨v, rfl, h⟩ := one_of rv
    obtain ⟨a, ws, rfl, h1, h2⟩ := rep_lst h
    rw [reps_bls h2] at h1
    exact ⟨a, ns, rfl, SqL.of (R.rc.sub _ _ h1), k.here R (.bl _)⟩⟩
theorem c_any (g : Go X N W n) {ns : List Bool} : CallOk X N W (.builtin "any") μ [.p (.lst (ns.map D.bl))] (.v (.p (.bl (ns.any id)))) μ :=
  ⟨_, cr_any g.calm, fun σ δ F A H vs Q R rv k => by
    obtain ⟨v, rfl, h⟩ := one_of rv
    obtain ⟨a, ws, rfl, h1, h2⟩ := rep_lst h
    rw [reps_bls h2] at h1
    exact ⟨a, ns, rfl, SqL.of (R.rc.sub _ _ h1), k.here R (.bl _)⟩⟩
/-! ### methods of texts -/
theorem m_removeprefix {z y : Str} (hl : z.length ≤ sizeLine) : MtOk X N W "str" "str.removeprefix" μ μ (.p (.str z)) [.p (.str y)] (.v (.p (.str (Txt.removeprefix z y)))) μ :=
  ⟨_, mt_removeprefix, fun σ δ F A H x R rx => by rw [rs_str rx]; rfl, fun σ δ F A H x vs Q R rx rv k => by
    obtain ⟨v, rfl, h⟩ := one_of rv
    exact ⟨z, y, rs_str rx, by rw [rs_str h], hl, k.here R (.str _)⟩⟩
theorem m_startswith {z y : Str} : MtOk X N W "str" "str.startswith" μ μ (.p (.str z)) [.p (.str y)] (.v (.p (.bl (Txt.startswith z y)))) μ :=
  ⟨_, mt_startswith, fun σ δ F A H x R rx => by rw [rs_str rx]; rfl, fun σ δ F A H x vs Q R rx rv k => by
    obtain ⟨v, rfl, h⟩ := one_of rv
    exact ⟨z, y, rs_str rx, by rw [rs_str h], k.here R (.bl _)⟩⟩
theorem m_join {z : Str} {ys : List Str} (hl : (ys.map (·.length)).sum + ys.length * z.length ≤ 16777216) : MtOk X N W "str" "str.join" μ μ1 (.p (.str z)) [.p (.lst (ys.map D.str))] (.v (.p (.str (Txt.join z ys)))) μ1 :=
  ⟨_, mt_join, fun σ δ F A H x R rx => by rw [rs_str rx]; rfl, fun σ δ F A H x vs Q R rx rv k => by
    obtain ⟨v, rfl, h⟩ := one_of rv
    obtain ⟨a, ws, rfl, h1, h2⟩ := rep_lst h
    rw [reps_strs h2] at h1
    exact ⟨z, a, ys, rs_str rx, rfl, .inl (SqL.of (R.rc.sub _ _ h1)), hl, k.here R (.str _)⟩⟩
/-! ### items -/
theorem atI_rep {K : PySem.W.Frag} {F : Hp} {vs : List V} {ds : List D} {i : Int} (r : Reps K F vs ds) (h : atI ds i = some d) : ∃ v, atI vs i = some v ∧ Rep K F v d := by
  unfold atI at h ⊢
  rw [r.length]
  obtain ⟨j, h1, h2⟩ := Option.bind_eq_some_iff.mp h
  obtain ⟨v, h3, h4⟩ := r.get h2
  exact ⟨v, by rw [h1]; exact h3, h4⟩
theorem i_lst (g : Go X N W n) {ds : List D} {i : Int} (h : atI ds i = some d) : IxOk X N W μ (.p (.lst ds)) (.p (.int i)) (.v (.p d)) μ :=
  ⟨_, ix_list, fun σ δ F A H x y Q R rx ry k => by
    obtain ⟨a, ws, rfl, h1, h2⟩ := rep_lst rx
    obtain ⟨v, h3, h4⟩ := atI_rep h2 h
    exact ⟨a, ws, i, v, rfl, rs_int ry, SqL.of (R.rc.sub _ _ h1), h3, k.here R h4⟩⟩
theorem i_tup (g : Go X N W n) {ds : List D} {i : Int} (h : atI ds i = some d) : IxOk X N W μ (.p (.tup ds)) (.p (.int i)) (.v (.p d)) μ :=
  ⟨_, ix_tup, fun σ δ F A H x y Q R rx ry k => by
    obtain ⟨a, ws, rfl, h1, h2⟩ := rep_tup rx
    obtain ⟨v, h3, h4⟩ := atI_rep h2 h
    exact ⟨a, ws, i, v, rfl, rs_int ry, by rw [← g.hK]; exact same_sqT R.rc.sub h1, h3, k.here R h4⟩⟩
theorem i_lstM {j : Nat} {ds : List D} {i : Int} (hj : μ[j]? = some (.lst ds)) (h : atI ds i = some d) : IxOk X N W μ (.l j) (.p (.int i)) (.v (.p d)) μ :=
  ⟨_, ix_list, fun σ δ F A H x y Q R rx ry k => by
    obtain ⟨a, rfl, ha⟩ := rx
    obtain ⟨ws, h1, h2⟩ := R.rc.mus j a _ ha hj
    obtain ⟨v, h3, h4⟩ := atI_rep h2 h
    exact ⟨a, ws, i, v, rfl, rs_int ry, SqL.of h1, h3, k.here R h4⟩⟩
theorem i_str {z : Str} {i : Int} {c : Nat} (hl : z.length ≤ sizeLine) (h : atI z.cps.toList i = some c) : IxOk X N W μ (.p (.str z)) (.p (.int i)) (.v (.p (.str ⟨#[c]⟩))) μ :=
  ⟨_, ix_str, fun σ δ F A H x y Q R rx ry k => ⟨z, i, c, rs_str rx, rs_int ry, hl, h, k.here R (.str _)⟩⟩
/-! ### lists that change -/
theorem ds_setM {j : Nat} {ds : List D} {i : Int} {k : Nat} (hv : DE X N W δ μ e (.v (.p d)) μ1) (ho : DE X N W δ μ1 o (.v (.l j)) μ1) (hb : DE X N W δ μ1 b (.v (.p (.int i))) μ1) (hj : μ1[j]? = some (.lst ds)) (hk : ixN ds.length i = some k)
    (hs : swapsWithSole [.Subscript o b p] e pos.line X.env = pure false := by rfl) (hw : swappedStores [.Subscript o b p] e X.env = pure none := by rfl)
    (h1 : (assignEach [.Subscript o b p] X.env).map (·.2) = [assign (.Subscript o b p) X.env] := by rfl)
    (ha : ∀ v, assign (.Subscript o b p) X.env v = (do
      let ov ← holding [v] (eval o X.env)
      let iv ← holding [v, ov] (eval b X.env)
      standAt p
      holding [v, ov, iv] (setItem ov iv v)
      release [v, ov, iv] []) := by intro _; rfl) : DS X N W δ μ (.Assign [.Subscript o b p] e pos) (.nx δ (μ1.set j (.lst (ds.set k d)))) :=
  PS.imp (ps_asg hv (pg_sub ho hb set_list ha) hs hw h1) fun K σ H ⟨F, A, R, q⟩ => ⟨F, A, R, fun v F1 A1 H1 e1 p1 R1 rv => ⟨F1, A1, R1, fun ov F2 A2 H2 e2 p2 R2 ro => ⟨F2, A2, R2, fun iv F3 A3 H3 e3 p3 R3 ri => by
    obtain ⟨a, rfl, ha⟩ := ro
    have rv3 : Rep N.K F3 v d := Rep.mono (e2.trans e3) rv
    have ha3 := getElem?_pre p3 ha
    obtain ⟨ws, h1, h2⟩ := R3.rc.mus j a _ ha3 hj
    refine ⟨a, ws, i, k, rfl, rs_int ri, h1, by rw [h2.length]; exact hk, ?_⟩
    exact q σ F3 A3 _ ((e1.trans e2).trans e3) ((p1.trans p2).trans p3) (R3.to (Same.refl _) (List.prefix_refl _) (R3.rc.write ha3 hj trivial ⟨_, upd_same, h2.set rv3 k⟩))⟩⟩⟩
end
end Dl
set_option Elab.async false
set_option linter.all false
set_option maxRecDepth 100000
set_option maxHeartbeats 4000000
set_option autoImplicit false
namespace Dl
open PySem PySem.Spec PyProof.Rows L2
section
variable {prog : Program} {w : World} {A : Around} {E : Value → Shared → Prop} {s : Shared}
theorem nextOf_ascii {it : Addr} {x : Str} {t : Tok} {i c : Nat} {Q : Value → Shared → Prop} (hit : s.heap.IsStrIter it "str_ascii_iterator" x t i) (hx : x.cps[i]? = some c)
    (hQ : ∀ h', h'.IsStrIter it "str_ascii_iterator" x t (i + 1) → Heap.SameBut it s.heap h' → Q (.str ⟨#[c]⟩ s.toks) { s with heap := h', toks := s.toks + 1 }) :
    wpAny (model prog w) A (Builtin.SmallTypes.nextOf (.ref it)) Q E s := by
  obtain ⟨o, ho, hc, hd⟩ := id hit
  unfold Builtin.SmallTypes.nextOf
  refine wpAny_bind (wpAny_callSpecial?_slot (name := Str.ofString "__next__") hit.typeIs F.slot_str_ascii_iterator_next
    (wpAny_call_entry F.slot_str_ascii_iterator_next hit.typeIs F.entry_str_ascii_iterator_next ?_ (F.args_str_ascii_iterator_next_1 _)))
  show wpAny _ _ (field (.ref it) 0 >>= _) _ _ s
  refine wpAny_bind (wpAny_field ho hd (x := .str x t) rfl ?_)
  show wpAny _ _ (field (.ref it) 1 >>= _) _ _ s
  refine wpAny_bind (wpAny_field ho hd (x := .int i 0) rfl ?_)
  simp only [Int.toNat_natCast, hx]
  refine wpAny_bind (wpAny_setField ho hd (by simp) (wpAny_bind (wpAny_mkStr (wpAny_pure ⟨_, rfl, wpAny_pure (hQ _ ?_ (Heap.SameBut.update ..))⟩) (by show 1 ≤ sizeLine; decide))))
  exact ⟨_, Heap.get?_update_self _ ho (Obj.isFreed_of_fields (Obj.data_mapFields hd _)), (Obj.cls_mapFields ..).trans hc, by
    rw [Obj.data_mapFields hd]; simp [rawInt]⟩
theorem nextOf_wide {it : Addr} {x : Str} {t : Tok} {i c : Nat} {Q : Value → Shared → Prop} (hit : s.heap.IsStrIter it "str_iterator" x t i) (hx : x.cps[i]? = some c)
    (hQ : ∀ h', h'.IsStrIter it "str_iterator" x t (i + 1) → Heap.SameBut it s.heap h' → Q (.str ⟨#[c]⟩ s.toks) { s with heap := h', toks := s.toks + 1 }) :
    wpAny (model prog w) A (Builtin.SmallTypes.nextOf (.ref it)) Q E s := by
  obtain ⟨o, ho, hc, hd⟩ := id hit
  unfold Builtin.SmallTypes.nextOf
  refine wpAny_bind (wpAny_callSpecial?_slot (name := Str.ofString "__next__") hit.typeIs F.slot_str_iterator_next
    (wpAny_call_entry F.slot_str_iterator_next hit.typeIs F.entry_str_iterator_next ?_ (F.args_str_iterator_next_1 _)))
  show wpAny _ _ (field (.ref it) 0 >>= _) _ _ s
  refine wpAny_bind (wpAny_field ho hd (x := .str x t) rfl ?_)
  show wpAny _ _ (field (.ref it) 1 >>= _) _ _ s
  refine wpAny_bind (wpAny_field ho hd (x := .int i 0) rfl ?_)
  simp only [Int.toNat_natCast, hx]
  refine wpAny_bind (wpAny_setField ho hd (by simp) (wpAny_bind (wpAny_mkStr (wpAny_pure ⟨_, rfl, wpAny_pure (hQ _ ?_ (Heap.SameBut.update ..))⟩) (by show 1 ≤ sizeLine; decide))))
  exact ⟨_, Heap.get?_update_self _ ho (Obj.isFreed_of_fields (Obj.data_mapFields hd _)), (Obj.cls_mapFields ..).trans hc, by
    rw [Obj.data_mapFields hd]; simp [rawInt]⟩
theorem nextOf_ascii_end {it : Addr} {x : Str} {t : Tok} {i : Nat} {Q : Value → Shared → Prop} (hh : A.handled = none) (hit : s.heap.IsStrIter it "str_ascii_iterator" x t i) (hx : x.cps[i]? = none)
    (hE : ∀ h' e, Heap.ExtBut it s.heap h' → (∃ o, h'.get? e = some o ∧ o.cls = .type "StopIteration") → E (.ref e) { s with heap := h' }) : wpAny (model prog w) A (Builtin.SmallTypes.nextOf (.ref it)) Q E s := by
  obtain ⟨o, ho, hc, hd⟩ := id hit
  unfold Builtin.SmallTypes.nextOf
  refine wpAny_bind (wpAny_callSpecial?_slot (name := Str.ofString "__next__") hit.typeIs F.slot_str_ascii_iterator_next
    (wpAny_call_entry F.slot_str_ascii_iterator_next hit.typeIs F.entry_str_ascii_iterator_next ?_ (F.args_str_ascii_iterator_next_1 _)))
  show wpAny _ _ (field (.ref it) 0 >>= _) _ _ s
  refine wpAny_bind (wpAny_field ho hd (x := .str x t) rfl ?_)
  show wpAny _ _ (field (.ref it) 1 >>= _) _ _ s
  refine wpAny_bind (wpAny_field ho hd (x := .int i 0) rfl ?_)
  simp only [Int.toNat_natCast, hx]
  refine wpAny_bind (wpAny_rule (wpAny_bind (wpAny_setField ho hd (by simp) (wpAny_bind (wpAny_letGo ?_)))))
  show wpAny _ _ (newExc (.type "StopIteration") [] >>= _) _ _ _
  refine wpAny_bind ?_
  simp only [newExc, newTuple]
  refine wpAny_bind (wpAny_newObj_type ?_ (by size_fits))
  refine wpAny_bind (m := firstArgMember _ _) (wpAny_of_eq (a := Value.none) (by first | rfl | (simp only [firstArgMember]; rfl)) ?_)
  refine wpAny_newObj_type ?_ (by size_fits)
  simp only [raiseNew]
  refine wpAny_bind (wpAny_handled ?_)
  rw [show A.in1.handled = none from hh]
  refine wpAny_bind (wpAny_pure (wpAny_throw ?_))
  exact hE _ _ (((Heap.SameBut.update ..).extBut.push _).push _) ⟨_, Heap.get?_push_size _ rfl, rfl⟩
theorem nextOf_wide_end {it : Addr} {x : Str} {t : Tok} {i : Nat} {Q : Value → Shared → Prop} (hh : A.handled = none) (hit : s.heap.IsStrIter it "str_iterator" x t i) (hx : x.cps[i]? = none)
    (hE : ∀ h' e, Heap.ExtBut it s.heap h' → (∃ o, h'.get? e = some o ∧ o.cls = .type "StopIteration") → E (.ref e) { s with heap := h' }) : wpAny (model prog w) A (Builtin.SmallTypes.nextOf (.ref it)) Q E s := by
  obtain ⟨o, ho, hc, hd⟩ := id hit
  unfold Builtin.SmallTypes.nextOf
  refine wpAny_bind (wpAny_callSpecial?_slot (name := Str.ofString "__next__") hit.typeIs F.slot_str_iterator_next
    (wpAny_call_entry F.slot_str_iterator_next hit.typeIs F.entry_str_iterator_next ?_ (F.args_str_iterator_next_1 _)))
  show wpAny _ _ (field (.ref it) 0 >>= _) _ _ s
  refine wpAny_bind (wpAny_field ho hd (x := .str x t) rfl ?_)
  show wpAny _ _ (field (.ref it) 1 >>= _) _ _ s
  refine wpAny_bind (wpAny_field ho hd (x := .int i 0) rfl ?_)
  simp only [Int.toNat_natCast, hx]
  refine wpAny_bind (wpAny_rule (wpAny_bind (wpAny_setField ho hd (by simp) (wpAny_bind (wpAny_letGo ?_)))))
  show wpAny _ _ (newExc (.type "StopIteration") [] >>= _) _ _ _
  refine wpAny_bind ?_
  simp only [newExc, newTuple]
  refine wpAny_bind (wpAny_newObj_type ?_ (by size_fits))
  refine wpAny_bind (m := firstArgMember _ _) (wpAny_of_eq (a := Value.none) (by first | rfl | (simp only [firstArgMember]; rfl)) ?_)
  refine wpAny_newObj_type ?_ (by size_fits)
  simp only [raiseNew]
  refine wpAny_bind (wpAny_handled ?_)
  rw [show A.in1.handled = none from hh]
  refine wpAny_bind (wpAny_pure (wpAny_throw ?_))
  exact hE _ _ (((Heap.SameBut.update ..).extBut.push _).push _) ⟨_, Heap.get?_push_size _ rfl, rfl⟩
end
/-- an iterator that a zip draws from: at it; what it leans on stands at dep; its i-th value -/
structure ItC (it : Addr) (dep : List Addr) (len : Nat) (val : Nat → Value → Prop) (tn : Nat → Heap → Prop) : Prop where
  obj : ∀ i h, tn i h → ∃ o, h.get? it = some o ∧ ∀ v, o.data ≠ .cell v
  keep : ∀ i h h', tn i h → (∀ b o, b = it ∨ b ∈ dep → h.get? b = some o → h'.get? b = some o) → tn i h'
  item : ∀ (prog : Program) (w : World) (A : Around) (E : Value → Shared → Prop) (s : Shared) (Q : Value → Shared → Prop) (i : Nat), i < len → tn i s.heap → (∀ x h' tk, val i x → tn (i + 1) h' → Heap.SameBut it s.heap h' → Q x { s with heap := h', toks := tk }) →
    wpAny (model prog w) A (Builtin.SmallTypes.nextOf (.ref it)) Q E s
  stop : ∀ (prog : Program) (w : World) (A : Around) (E : Value → Shared → Prop) (s : Shared) (Q : Value → Shared → Prop), A.handled = none → tn len s.heap → (∀ h' e, Heap.ExtBut it s.heap h' → (∃ o, h'.get? e = some o ∧ o.cls = .type "StopIteration") → E (.ref e) { s with heap := h' }) →
    wpAny (model prog w) A (Builtin.SmallTypes.nextOf (.ref it)) Q E s
theorem itc_list {it l : Addr} {its : List Value} : ItC it [l] its.length (fun i x => its[i]? = some x) (fun i h => h.IsListIter it l i ∧ h.IsList l its.toArray) where
  obj := fun i h ⟨⟨o, e, _, d⟩, _⟩ => ⟨o, e, fun v z => by rw [d] at z; cases z⟩
  keep := fun i h h' ⟨a, b⟩ k => ⟨a.at fun o e => k it o (.inl rfl) e, by
    obtain ⟨o, e, r⟩ := b
    exact ⟨o, k l o (.inr (by simp)) e, r⟩⟩
  item := fun prog w A E s Q i hi ⟨a, b⟩ hq => wpAny_nextOf_list_item a b (x := its[i]) (by simp [hi]) fun h' a' sb => hq _ h' s.toks (by simp [hi]) ⟨a', by
    obtain ⟨o, e, r⟩ := b
    have ne : l ≠ it := fun z => by
      obtain ⟨o', e', c', _⟩ := a
      rw [← z, e] at e'; cases e'
      obtain ⟨c, _⟩ := r
      rw [c] at c'
      exact absurd c' (by decide)
    exact ⟨o, (sb.2 l ne).trans e, r⟩⟩ sb
  stop := fun prog w A E s Q hh ⟨a, b⟩ he => wpAny_nextOf_list_end hh a b (by simp) he
theorem itc_tup {it l : Addr} {its : List Value} : ItC it [l] its.length (fun i x => its[i]? = some x) (fun i h => h.IsTupleIter it l i ∧ h.IsTuple l its.toArray) where
  obj := fun i h ⟨⟨o, e, _, d⟩, _⟩ => ⟨o, e, fun v z => by rw [d] at z; cases z⟩
  keep := fun i h h' ⟨a, b⟩ k => ⟨a.at fun o e => k it o (.inl rfl) e, by
    obtain ⟨o, e, r⟩ := b
    exact ⟨o, k l o (.inr (by simp)) e, r⟩⟩
  item := fun prog w A E s Q i hi ⟨a, b⟩ hq => RZ.nextOf_tuple_item a b (x := its[i]) (by simp [hi]) fun h' a' sb => hq _ h' s.toks (by simp [hi]) ⟨a', by
    obtain ⟨o, e, r⟩ := b
    have ne : l ≠ it := fun z => by
      obtain ⟨o', e', c', _⟩ := a
      rw [← z, e] at e'; cases e'
      obtain ⟨c, _⟩ := r
      rw [c] at c'
      exact absurd c' (by decide)
    exact ⟨o, (sb.2 l ne).trans e, r⟩⟩ sb
  stop := fun prog w A E s Q hh ⟨a, b⟩ he => RZ.nextOf_tuple_end hh a b (by simp) he
theorem itc_str {it : Addr} {z : Str} {t : Tok} {ty : String} (hty : ty = "str_ascii_iterator" ∨ ty = "str_iterator") : ItC it [] z.cps.size (fun i x => ∃ c u, z.cps[i]? = some c ∧ x = .str ⟨#[c]⟩ u) (fun i h => h.IsStrIter it ty z t i) where
  obj := fun i h ⟨o, e, _, d⟩ => ⟨o, e, fun v z => by rw [d] at z; cases z⟩
  keep := fun i h h' st k => let ⟨o, ho, r⟩ := st; ⟨o, k it o (.inl rfl) ho, r⟩
  item := fun prog w A E s Q i hi st hq => by
    rcases hty with e | e
    · subst e; exact nextOf_ascii st (c := z.cps[i]) (by simp [hi]) fun h' a' sb => hq _ h' _ ⟨_, _, by simp [hi], rfl⟩ a' sb
    · subst e; exact nextOf_wide st (c := z.cps[i]) (by simp [hi]) fun h' a' sb => hq _ h' _ ⟨_, _, by simp [hi], rfl⟩ a' sb
  stop := fun prog w A E s Q hh st he => by
    rcases hty with e | e
    · subst e; exact nextOf_ascii_end hh st (by simp) he
    · subst e; exact nextOf_wide_end hh st (by simp) he
/-- all of a zip's own objects and what it leans on stand apart -/
structure ZAp (z TI TO i1 i2 : Addr) (d1 d2 : List Addr) : Prop where
  TIz : TI ≠ z
  TOz : TO ≠ z
  i1z : i1 ≠ z
  i2z : i2 ≠ z
  TITO : TI ≠ TO
  TIi1 : TI ≠ i1
  TIi2 : TI ≠ i2
  TOi1 : TO ≠ i1
  TOi2 : TO ≠ i2
  i12 : i1 ≠ i2
  dz : ∀ b ∈ d1 ++ d2, b ≠ z ∧ b ≠ TO ∧ b ≠ i1 ∧ b ≠ i2
section
variable {prog : Program} {w : World} {A : Around} {E : Value → Shared → Prop} {s : Shared} {z TI TO i1 i2 : Addr} {d1 d2 : List Addr} {n1 n2 : Nat} {v1 v2 : Nat → Value → Prop} {t1 t2 : Nat → Heap → Prop} {a b : Value} {k : Nat}
theorem zip_itemG {Q : Value → Shared → Prop} (D : ZAp z TI TO i1 i2 d1 d2) (C1 : ItC i1 d1 n1 v1 t1) (C2 : ItC i2 d2 n2 v2 t2)
    (hz : IsZip s.heap z TI TO .none) (hTI : IsPair s.heap TI (.ref i1) (.ref i2)) (hTO : IsPair s.heap TO a b) (h1 : t1 k s.heap) (h2 : t2 k s.heap) (l1 : k < n1) (l2 : k < n2)
    (hQ : ∀ h' tk x y, v1 k x → v2 k y → IsZip h' z TI TO (rawInt s.heap.objs.size) → IsPair h' TO x y → t1 (k + 1) h' → t2 (k + 1) h' → IsPair h' s.heap.objs.size x y → h'.objs.size = s.heap.objs.size + 1 →
      (∀ c o, c ≠ z → c ≠ TO → c ≠ i1 → c ≠ i2 → s.heap.get? c = some o → h'.get? c = some o) → Q (.ref s.heap.objs.size) { s with heap := h', toks := tk }) :
    wpAny (model prog w) A (Builtin.«zip.__next__» ⟨[.ref z], []⟩) (fun fin s' => ∃ v, fin = .done (.ret v) ∧ Q v s') E s := by
  have dd1 : ∀ b ∈ d1, b ≠ z ∧ b ≠ TO ∧ b ≠ i1 ∧ b ≠ i2 := fun b h => D.dz b (List.mem_append_left _ h)
  have dd2 : ∀ b ∈ d2, b ≠ z ∧ b ≠ TO ∧ b ≠ i1 ∧ b ≠ i2 := fun b h => D.dz b (List.mem_append_right _ h)
  have K1 : ∀ {i h h' c}, t1 i h → Heap.ExtBut c h h' → c = z ∨ c = TO ∨ c = i2 → t1 i h' := fun {i h h' c} st hs hc => C1.keep i h h' st fun b o hb e => hs b o (by
    rcases hb with rfl | hb
    · rcases hc with rfl | rfl | rfl
      · exact D.i1z
      · exact D.TOi1.symm
      · exact D.i12
    · rcases hc with rfl | rfl | rfl
      · exact (dd1 b hb).1
      · exact (dd1 b hb).2.1
      · exact (dd1 b hb).2.2.2) e
  have K2 : ∀ {i h h' c}, t2 i h → Heap.ExtBut c h h' → c = z ∨ c = TO ∨ c = i1 → t2 i h' := fun {i h h' c} st hs hc => C2.keep i h h' st fun b o hb e => hs b o (by
    rcases hb with rfl | hb
    · rcases hc with rfl | rfl | rfl
      · exact D.i2z
      · exact D.TOi2.symm
      · exact D.i12.symm
    · rcases hc with rfl | rfl | rfl
      · exact (dd2 b hb).1
      · exact (dd2 b hb).2.1
      · exact (dd2 b hb).2.2.1) e
  show wpAny _ _ (field (.ref z) 2 >>= _) _ _ _
  refine wpAny_bind (wpAny_field hz rfl (x := .bool false) rfl ?_)
  show wpAny _ _ (field (.ref z) 3 >>= _) _ _ _
  refine wpAny_bind (wpAny_field hz rfl (x := .ref TI) rfl ?_)
  refine wpAny_bind (wpAny_seqItems hTI rfl ?_)
  show wpAny _ _ (Builtin.SmallTypes.ownedTupleIsFree (.ref z) >>= _) _ _ _
  refine wpAny_bind ?_
  unfold Builtin.SmallTypes.ownedTupleIsFree
  refine wpAny_bind (wpAny_field hz rfl (x := .none) rfl (wpAny_pure ?_))
  simp only [if_true]
  refine wpAny_bind (wpAny_rule ?_)
  refine wpAny_bind (wpAny_field hz rfl (x := .ref TO) rfl ?_)
  refine wpAny_bind (wpAny_setField_rec hz (by simp) fun h₁ hz₁ hs₁ => ?_)
  replace hz₁ : IsZip h₁ z TI TO .ellipsis := hz₁
  refine wpAny_bind ?_
  simp only [List.zipIdx_cons, List.zipIdx_nil, List.forIn_cons, List.forIn_nil]
  refine wpAny_bind (wpAny_bind (wpAny_onRaise ?_))
  show wpAny _ _ (Builtin.SmallTypes.nextOf (.ref i1) >>= _) _ _ _
  refine wpAny_bind (C1.item prog w _ _ { s with heap := h₁ } _ k l1 (K1 h1 hs₁.extBut (.inl rfl)) fun x h₂ tk₂ hx h1₂ hs₂ => wpAny_pure ?_)
  have hTO₂ : IsPair h₂ TO a b := hs₂.extBut _ _ D.TOi1 (hs₁.extBut _ _ D.TOz hTO)
  refine wpAny_bind (wpAny_seqItems hTO₂ rfl ?_)
  refine wpAny_bind (wpAny_updateSeq_pair hTO₂ fun h₃ hTO₃ hs₃ => ?_)
  replace hTO₃ : IsPair h₃ TO x b := hTO₃
  refine wpAny_bind (wpAny_letGo (wpAny_pure ?_))
  refine wpAny_bind (wpAny_bind (wpAny_onRaise ?_))
  show wpAny _ _ (Builtin.SmallTypes.nextOf (.ref i2) >>= _) _ _ _
  refine wpAny_bind (C2.item prog w _ _ { s with heap := h₃, toks := tk₂ } _ k l2 (K2 (K2 (K2 h2 hs₁.extBut (.inl rfl)) hs₂.extBut (.inr (.inr rfl))) hs₃.extBut (.inr (.inl rfl))) fun y h₄ tk₄ hy h2₄ hs₄ => wpAny_pure ?_)
  have hTO₄ : IsPair h₄ TO x b := hs₄.extBut _ _ D.TOi2 hTO₃
  refine wpAny_bind (wpAny_seqItems hTO₄ rfl ?_)
  refine wpAny_bind (wpAny_updateSeq_pair hTO₄ fun h₅ hTO₅ hs₅ => ?_)
  replace hTO₅ : IsPair h₅ TO x y := hTO₅
  refine wpAny_bind (wpAny_letGo (wpAny_pure (wpAny_pure ?_)))
  refine wpAny_bind (wpAny_seqItems hTO₅ rfl ?_)
  refine wpAny_bind (wpAny_newTuple ?_)
  have hsz : h₅.objs.size = s.heap.objs.size := by rw [hs₅.1, hs₄.1, hs₃.1, hs₂.1, hs₁.1]
  have hz₅ : IsZip h₅ z TI TO .ellipsis := hs₅.extBut _ _ D.TOz.symm (hs₄.extBut _ _ D.i2z.symm (hs₃.extBut _ _ D.TOz.symm (hs₂.extBut _ _ D.i1z.symm hz₁)))
  have hk₅ : ∀ c o, c ≠ z → c ≠ TO → c ≠ i1 → c ≠ i2 → s.heap.get? c = some o → h₅.get? c = some o := fun c o c1 c2 c3 c4 e =>
    hs₅.extBut _ _ c2 (hs₄.extBut _ _ c4 (hs₃.extBut _ _ c2 (hs₂.extBut _ _ c3 (hs₁.extBut _ _ c1 e))))
  have h1₅ : t1 (k + 1) h₅ := K1 (K1 (K1 h1₂ hs₃.extBut (.inr (.inl rfl))) hs₄.extBut (.inr (.inr rfl))) hs₅.extBut (.inr (.inl rfl))
  have h2₅ : t2 (k + 1) h₅ := K2 h2₄ hs₅.extBut (.inr (.inl rfl))
  have hzlt : z < h₅.objs.size := Heap.lt_size hz₅
  show wpAny _ _ (Builtin.SmallTypes.ownedTupleHandOut (.ref z) (.ref h₅.objs.size) >>= _) _ _ _
  refine wpAny_bind ?_
  unfold Builtin.SmallTypes.ownedTupleHandOut
  have hz₆ : IsZip (h₅.push { cls := .type "tuple", data := .seq #[x, y] }) z TI TO .ellipsis := Heap.get?_push_of_some _ hz₅
  refine wpAny_bind (wpAny_setField_rec hz₆ (by simp) fun h₇ hz₇ hs₇ => ?_)
  replace hz₇ : IsZip h₇ z TI TO (rawInt h₅.objs.size) := hz₇
  refine wpAny_setField_rec hz₇ (by simp) fun h₈ hz₈ hs₈ => ?_
  replace hz₈ : IsZip h₈ z TI TO (rawInt h₅.objs.size) := hz₈
  have up : ∀ c o, c ≠ z → h₅.get? c = some o → h₈.get? c = some o := fun c o c1 e => hs₈.extBut _ _ c1 (hs₇.extBut _ _ c1 (Heap.get?_push_of_some _ e))
  have hT₈ : IsPair h₈ h₅.objs.size x y := hs₈.extBut _ _ (Nat.ne_of_gt hzlt) (hs₇.extBut _ _ (Nat.ne_of_gt hzlt) (Heap.get?_push_size _ rfl))
  have hz8 : h₈.objs.size = h₅.objs.size + 1 := by rw [hs₈.1, hs₇.1, Heap.size_push]
  rw [hsz] at hz₈ hT₈ hz8
  refine wpAny_pure ⟨_, rfl, ?_⟩
  show Q (.ref h₅.objs.size) _
  rw [hsz]
  exact hQ h₈ tk₄ x y hx hy hz₈ (up _ _ D.TOz hTO₅) (K1 h1₅ (c := z) (fun c o c1 e => up c o c1 e) (.inl rfl)) (K2 h2₅ (c := z) (fun c o c1 e => up c o c1 e) (.inl rfl)) hT₈ hz8 fun c o c1 c2 c3 c4 e => up c o c1 (hk₅ c o c1 c2 c3 c4 e)
theorem zip_endG {Q : Fin → Shared → Prop} (hh : A.handled = none) (D : ZAp z TI TO i1 i2 d1 d2) (C1 : ItC i1 d1 n1 v1 t1) (C2 : ItC i2 d2 n2 v2 t2)
    (hz : IsZip s.heap z TI TO .none) (hTI : IsPair s.heap TI (.ref i1) (.ref i2)) (hTO : IsPair s.heap TO a b) (h1 : t1 k s.heap) (h2 : t2 k s.heap) (hend : k = n1 ∨ (k < n1 ∧ k = n2))
    (hE : ∀ h' tk e, (∀ c o, c ≠ z → c ≠ TO → c ≠ i1 → c ≠ i2 → s.heap.get? c = some o → h'.get? c = some o) → (∃ o, h'.get? e = some o ∧ o.cls = .type "StopIteration") → E (.ref e) { s with heap := h', toks := tk }) :
    wpAny (model prog w) A (Builtin.«zip.__next__» ⟨[.ref z], []⟩) Q E s := by
  have dd1 : ∀ b ∈ d1, b ≠ z ∧ b ≠ TO ∧ b ≠ i1 ∧ b ≠ i2 := fun b h => D.dz b (List.mem_append_left _ h)
  have dd2 : ∀ b ∈ d2, b ≠ z ∧ b ≠ TO ∧ b ≠ i1 ∧ b ≠ i2 := fun b h => D.dz b (List.mem_append_right _ h)
  have K1 : ∀ {i h h' c}, t1 i h → Heap.ExtBut c h h' → c = z ∨ c = TO ∨ c = i2 → t1 i h' := fun {i h h' c} st hs hc => C1.keep i h h' st fun b o hb e => hs b o (by
    rcases hb with rfl | hb
    · rcases hc with rfl | rfl | rfl
      · exact D.i1z
      · exact D.TOi1.symm
      · exact D.i12
    · rcases hc with rfl | rfl | rfl
      · exact (dd1 b hb).1
      · exact (dd1 b hb).2.1
      · exact (dd1 b hb).2.2.2) e
  have K2 : ∀ {i h h' c}, t2 i h → Heap.ExtBut c h h' → c = z ∨ c = TO ∨ c = i1 → t2 i h' := fun {i h h' c} st hs hc => C2.keep i h h' st fun b o hb e => hs b o (by
    rcases hb with rfl | hb
    · rcases hc with rfl | rfl | rfl
      · exact D.i2z
      · exact D.TOi2.symm
      · exact D.i12.symm
    · rcases hc with rfl | rfl | rfl
      · exact (dd2 b hb).1
      · exact (dd2 b hb).2.1
      · exact (dd2 b hb).2.2.1) e
  show wpAny _ _ (field (.ref z) 2 >>= _) _ _ _
  refine wpAny_bind (wpAny_field hz rfl (x := .bool false) rfl ?_)
  show wpAny _ _ (field (.ref z) 3 >>= _) _ _ _
  refine wpAny_bind (wpAny_field hz rfl (x := .ref TI) rfl ?_)
  refine wpAny_bind (wpAny_seqItems hTI rfl ?_)
  show wpAny _ _ (Builtin.SmallTypes.ownedTupleIsFree (.ref z) >>= _) _ _ _
  refine wpAny_bind ?_
  unfold Builtin.SmallTypes.ownedTupleIsFree
  refine wpAny_bind (wpAny_field hz rfl (x := .none) rfl (wpAny_pure ?_))
  simp only [if_true]
  refine wpAny_bind (wpAny_rule ?_)
  refine wpAny_bind (wpAny_field hz rfl (x := .ref TO) rfl ?_)
  refine wpAny_bind (wpAny_setField_rec hz (by simp) fun h₁ hz₁ hs₁ => ?_)
  replace hz₁ : IsZip h₁ z TI TO .ellipsis := hz₁
  refine wpAny_bind ?_
  simp only [List.zipIdx_cons, List.zipIdx_nil, List.forIn_cons, List.forIn_nil]
  refine wpAny_bind (wpAny_bind (wpAny_onRaise ?_))
  show wpAny _ _ (Builtin.SmallTypes.nextOf (.ref i1) >>= _) _ _ _
  rcases hend with hk | ⟨l1, hk⟩
  · subst hk
    refine wpAny_bind (C1.stop prog w _ _ { s with heap := h₁ } _ hh (K1 h1 hs₁.extBut (.inl rfl)) fun h₂ e hs₂ he => ?_)
    obtain ⟨oe, hoe, hce⟩ := he
    have hz₂ : IsZip h₂ z TI TO .ellipsis := hs₂ _ _ D.i1z.symm hz₁
    have hez : e ≠ z := fun x => by subst x; rw [hz₂] at hoe; cases hoe; simp at hce
    refine wpAny_setField_rec hz₂ (by simp) fun h₃ _ hs₃ => hE h₃ s.toks e (fun c o c1 _ c3 _ x => hs₃.extBut _ _ c1 (hs₂ _ _ c3 (hs₁.extBut _ _ c1 x))) ⟨oe, hs₃.extBut _ _ hez hoe, hce⟩
  · subst hk
    refine wpAny_bind (C1.item prog w _ _ { s with heap := h₁ } _ _ l1 (K1 h1 hs₁.extBut (.inl rfl)) fun x h₂ tk₂ hx h1₂ hs₂ => wpAny_pure ?_)
    have hTO₂ : IsPair h₂ TO a b := hs₂.extBut _ _ D.TOi1 (hs₁.extBut _ _ D.TOz hTO)
    refine wpAny_bind (wpAny_seqItems hTO₂ rfl ?_)
    refine wpAny_bind (wpAny_updateSeq_pair hTO₂ fun h₃ hTO₃ hs₃ => ?_)
    refine wpAny_bind (wpAny_letGo (wpAny_pure ?_))
    refine wpAny_bind (wpAny_bind (wpAny_onRaise ?_))
    show wpAny _ _ (Builtin.SmallTypes.nextOf (.ref i2) >>= _) _ _ _
    refine wpAny_bind (C2.stop prog w _ _ { s with heap := h₃, toks := tk₂ } _ hh (K2 (K2 (K2 h2 hs₁.extBut (.inl rfl)) hs₂.extBut (.inr (.inr rfl))) hs₃.extBut (.inr (.inl rfl))) fun h₄ e hs₄ he => ?_)
    obtain ⟨oe, hoe, hce⟩ := he
    have hz₄ : IsZip h₄ z TI TO .ellipsis := hs₄ _ _ D.i2z.symm (hs₃.extBut _ _ D.TOz.symm (hs₂.extBut _ _ D.i1z.symm hz₁))
    have hez : e ≠ z := fun x => by subst x; rw [hz₄] at hoe; cases hoe; simp at hce
    refine wpAny_setField_rec hz₄ (by simp) fun h₅ _ hs₅ => hE h₅ tk₂ e (fun c o c1 c2 c3 c4 x => hs₅.extBut _ _ c1 (hs₄ _ _ c4 (hs₃.extBut _ _ c2 (hs₂.extBut _ _ c3 (hs₁.extBut _ _ c1 x))))) ⟨oe, hs₅.extBut _ _ hez hoe, hce⟩
theorem pyNext_zipG {Q : Option Value → Shared → Prop} (D : ZAp z TI TO i1 i2 d1 d2) (C1 : ItC i1 d1 n1 v1 t1) (C2 : ItC i2 d2 n2 v2 t2)
    (hz : IsZip s.heap z TI TO .none) (hTI : IsPair s.heap TI (.ref i1) (.ref i2)) (hTO : IsPair s.heap TO a b) (h1 : t1 k s.heap) (h2 : t2 k s.heap) (l1 : k < n1) (l2 : k < n2)
    (hQ : ∀ h' tk x y, v1 k x → v2 k y → IsZip h' z TI TO (rawInt s.heap.objs.size) → IsPair h' TO x y → t1 (k + 1) h' → t2 (k + 1) h' → IsPair h' s.heap.objs.size x y → h'.objs.size = s.heap.objs.size + 1 →
      (∀ c o, c ≠ z → c ≠ TO → c ≠ i1 → c ≠ i2 → s.heap.get? c = some o → h'.get? c = some o) → Q (some (.ref s.heap.objs.size)) { s with heap := h', toks := tk }) :
    wpAny (model prog w) A (pyNext (.ref z)) Q E s := by
  have hT : s.TypeIs (.ref z) "zip" := ⟨_, hz, rfl⟩
  unfold pyNext
  exact wpAny_bind (wpAny_attempt (wpAny_callSpecial?_slot (name := Str.ofString "__next__") hT F.slot_zip_next
    (wpAny_call_entry F.slot_zip_next hT F.entry_zip_next
      (zip_itemG D C1 C2 hz hTI hTO h1 h2 l1 l2 fun h' tk x y hx hy a1 a2 a3 a4 a5 a6 a7 => wpAny_pure (hQ h' tk x y hx hy a1 a2 a3 a4 a5 a6 a7)) (F.args_zip_next_1 _))))
theorem pyNext_zipG_end {Q : Option Value → Shared → Prop} (hh : A.handled = none) (D : ZAp z TI TO i1 i2 d1 d2) (C1 : ItC i1 d1 n1 v1 t1) (C2 : ItC i2 d2 n2 v2 t2)
    (hz : IsZip s.heap z TI TO .none) (hTI : IsPair s.heap TI (.ref i1) (.ref i2)) (hTO : IsPair s.heap TO a b) (h1 : t1 k s.heap) (h2 : t2 k s.heap) (hend : k = n1 ∨ (k < n1 ∧ k = n2))
    (hQ : ∀ h' tk, (∀ c o, c ≠ z → c ≠ TO → c ≠ i1 → c ≠ i2 → s.heap.get? c = some o → h'.get? c = some o) → Q none { s with heap := h', toks := tk }) : wpAny (model prog w) A (pyNext (.ref z)) Q E s := by
  have hT : s.TypeIs (.ref z) "zip" := ⟨_, hz, rfl⟩
  unfold pyNext
  refine wpAny_bind (wpAny_attempt (wpAny_callSpecial?_slot (name := Str.ofString "__next__") hT F.slot_zip_next
    (wpAny_call_entry F.slot_zip_next hT F.entry_zip_next (zip_endG hh D C1 C2 hz hTI hTO h1 h2 hend fun h' tk e hk he => ?_) (F.args_zip_next_1 _))))
  obtain ⟨o, ho, hc⟩ := he
  refine wpAny_bind (wpAny_isInstance (T := "StopIteration") (b := true) ⟨o, ho, hc⟩ isSubtype_stop ?_)
  exact wpAny_pure (hQ _ _ hk)
/-! ### a zip is made -/
/-- pyIter of u: one new object -/
structure Mki (u : Value) (o : Obj) (c : Heap → Prop) : Prop where
  run : ∀ (prog : Program) (w : World) (A : Around) (E : Value → Shared → Prop) (s : Shared) (Q : Value → Shared → Prop), c s.heap → Q (.ref s.heap.objs.size) { s with heap := s.heap.push o } → wpAny (model prog w) A (pyIter u) Q E s
  push : ∀ h o', c h → c (h.push o')
  nf : o.isFreed = false
theorem mki_str {x : Str} {t : Tok} : ∃ ty, (ty = "str_ascii_iterator" ∨ ty = "str_iterator") ∧ Mki (.str x t) { cls := .type ty, data := .fields #[.str x t, .int 0 0] } (fun _ => True) := by
  cases ha : x.cps.all (· < 128)
  · exact ⟨"str_iterator", .inr rfl, ⟨fun prog w A E s Q _ h => wpAny_pyIter_wide ha h, fun _ _ _ => trivial, rfl⟩⟩
  · exact ⟨"str_ascii_iterator", .inl rfl, ⟨fun prog w A E s Q _ h => wpAny_pyIter_ascii ha h, fun _ _ _ => trivial, rfl⟩⟩
theorem mki_list {l : Addr} {items : Array Value} : Mki (.ref l) { cls := .type "list_iterator", data := .fields #[.ref l, .int 0 0] } (fun h => h.IsList l items) :=
  ⟨fun prog w A E s Q c h => wpAny_pyIter_list c h, fun h o c => c.push o, rfl⟩
theorem mki_tup {l : Addr} {items : Array Value} : Mki (.ref l) { cls := .type "tuple_iterator", data := .fields #[.ref l, .int 0 0] } (fun h => h.IsTuple l items) :=
  ⟨fun prog w A E s Q c h => wpAny_pyIter_tuple c h, fun h o c => by
    obtain ⟨ob, e, r⟩ := c
    exact ⟨ob, Heap.get?_push_of_some _ e, r⟩, rfl⟩
abbrev zH2 (h : Heap) (o1 o2 : Obj) : Heap := (h.push o1).push o2
abbrev zH3 (h : Heap) (o1 o2 : Obj) : Heap := (zH2 h o1 o2).push { cls := .type "tuple", data := .seq #[.ref h.objs.size, .ref (h.push o1).objs.size] }
abbrev zH4 (h : Heap) (o1 o2 : Obj) : Heap := (zH3 h o1 o2).push { cls := .type "tuple", data := .seq #[.none, .none] }
abbrev zH5 (h : Heap) (o1 o2 : Obj) : Heap := (zH4 h o1 o2).push { cls := .type "zip", data := .fields #[.none, .bool false, .bool false, .ref (zH2 h o1 o2).objs.size, .ref (zH3 h o1 o2).objs.size] }
theorem meets_zipG {u1 u2 : Value} {o1 o2 : Obj} {c1 c2 : Heap → Prop} (m1 : Mki u1 o1 c1) (m2 : Mki u2 o2 c2) :
    Meets (Builtin.«zip.__new__» ⟨[.type "zip", u1, u2], []⟩) (fun _ R s => c1 s.heap ∧ c2 s.heap ∧ R (.ok (.ret (.ref (zH4 s.heap o1 o2).objs.size))) { s with heap := zH5 s.heap o1 o2 }) :=
  .of_wp fun prog w A R s h => by
    obtain ⟨hp, g, d, tk, os⟩ := s
    obtain ⟨hl1, hl2, h⟩ := h
    have hsub := sub_zip
    have hL2 : c2 (hp.push o1) := m2.push _ _ hl2
    wp_walk using m1.run _ _ _ _ _ _ hl1, m2.run _ _ _ _ _ _ hL2
    exact ⟨_, rfl, h⟩
end
end Dl
set_option Elab.async false
set_option linter.all false
set_option maxRecDepth 100000
set_option maxHeartbeats 4000000
set_option autoImplicit false
namespace Dl
open PySem PySem.Spec PyProof.Rows L2
theorem dep_ne {X : Cx} {pins : List (Addr × Obj)} {σ : L2.St} {H : Hp} {sh : Shared} {l b : Addr} {vs : List V} (I : Inv X pins σ H sh) (h : SqT X.K H l vs) (f : FpOk X pins H b) : l ≠ b := by
  rintro rfl
  rcases h with h | ⟨o, its, n, hk, _⟩
  · rcases h with h | ⟨o, h⟩ <;> (rw [f.1] at h; cases h)
  · have e := I.mod.kin l o hk
    have e0 := (I.ok.bs l o e).1
    rcases f.2.2.2.1 with q | q
    · exact I.ok.noex l o e q
    · exact absurd (Nat.lt_of_lt_of_le (Heap.lt_size e0) q) (Nat.lt_irrefl _)
/-- one side of a zip: the iterator at it, over the items ds -/
structure Src (K : PySem.W.Frag) (F : Hp) (it : Addr) (ds : List D) (st : Nat → Heap → Prop) : Prop where
  obj : ∀ i h, st i h → ∃ o, h.get? it = some o ∧ ∀ v, o.data ≠ .cell v
  keep : ∀ i h h', st i h → (∀ o, h.get? it = some o → h'.get? it = some o) → st i h'
  here : ∀ (X : Cx) (pins : List (Addr × Obj)) (σ : L2.St) (H : Hp) (s : Shared), X.K = K → Inv X pins σ H s → Same F H → ∃ (dep : List Addr) (val : Nat → Value → Prop) (c : Heap → Prop), c s.heap ∧ ItC it dep ds.length val (fun i h => st i h ∧ c h) ∧
    (∀ b ∈ dep, ∀ b', FpOk X pins H b' → b ≠ b') ∧ ∀ i x, val i x → ∃ v d, RelV v x ∧ ds[i]? = some d ∧ Rep K F v d
theorem src_str {K : PySem.W.Frag} {F : Hp} {it : Addr} {z : Str} {t : Tok} {ty : String} (hty : ty = "str_ascii_iterator" ∨ ty = "str_iterator") : Src K F it (chars z) (fun i h => h.IsStrIter it ty z t i) where
  obj := (itc_str hty).obj
  keep := fun i h h' st k => let ⟨o, ho, r⟩ := st; ⟨o, k o ho, r⟩
  here := fun X pins σ H s hK I sm => by
    have C := itc_str (it := it) (z := z) (t := t) hty
    refine ⟨[], fun i x => ∃ c u, z.cps[i]? = some c ∧ x = .str ⟨#[c]⟩ u, fun _ => True, trivial, ⟨fun i h st => C.obj i h st.1, fun i h h' st k => ⟨C.keep i h h' st.1 k, trivial⟩, ?_, ?_⟩, (fun b hb => nomatch hb), fun i x ⟨c, u, h1, h2⟩ => ⟨.str ⟨#[c]⟩, .str ⟨#[c]⟩, ⟨u, h2⟩, ?_, .str _⟩⟩
    · intro prog w A E s Q i hi st hq
      exact C.item prog w A E s Q i (by simpa [chars] using hi) st.1 fun x h' tk hv st' sb => hq x h' tk hv ⟨st', trivial⟩ sb
    · intro prog w A E s Q hh st he
      refine C.stop prog w A E s Q hh ?_ he
      have := st.1
      rwa [show (chars z).length = z.cps.size from by simp [chars]] at this
    · rw [chars, List.getElem?_map, Array.getElem?_toList, h1]; rfl
theorem src_tup {K : PySem.W.Frag} {F : Hp} {it l : Addr} {vs : List V} {ds : List D} (h1 : SqT K F l vs) (h2 : Reps K F vs ds) : Src K F it ds (fun i h => h.IsTupleIter it l i) where
  obj := fun i h ⟨o, e, _, d⟩ => ⟨o, e, fun v z => by rw [d] at z; cases z⟩
  keep := fun i h h' st k => st.at fun o e => k o e
  here := fun X pins σ H s hK I sm => by
    subst hK
    have h3 := same_sqT sm h1
    obtain ⟨its, rv, p, _⟩ := I.tuple h3
    have hl : its.length = ds.length := by rw [← h2.length, ← rv.length]
    have C := itc_tup (it := it) (l := l) (its := its)
    refine ⟨[l], fun i x => its[i]? = some x, fun h => h.IsTuple l its.toArray, p, ?_, fun b hb b' hf => ?_, fun i x hx => ?_⟩
    · rw [← hl]; exact C
    · rw [List.mem_singleton] at hb; subst hb; exact dep_ne I h3 hf
    · have hi := (List.getElem?_eq_some_iff.mp hx).1
      have hv : i < vs.length := by rw [rv.length]; exact hi
      obtain ⟨u, hu, ru⟩ := rv.get (List.getElem?_eq_getElem hv)
      rw [hx] at hu; cases hu
      obtain ⟨d, hd, rd⟩ := h2.get' (List.getElem?_eq_getElem hv)
      exact ⟨vs[i], d, ru, hd, rd⟩
theorem src_lst {K : PySem.W.Frag} {F : Hp} {it l : Addr} {vs : List V} {ds : List D} (h1 : F l = some (.lst vs)) (h2 : Reps K F vs ds) : Src K F it ds (fun i h => h.IsListIter it l i) where
  obj := fun i h ⟨o, e, _, d⟩ => ⟨o, e, fun v z => by rw [d] at z; cases z⟩
  keep := fun i h h' st k => st.at fun o e => k o e
  here := fun X pins σ H s hK I sm => by
    subst hK
    have h3 := sm _ _ h1
    obtain ⟨its, rv, p, _⟩ := I.list (SqL.of h3)
    have hl : its.length = ds.length := by rw [← h2.length, ← rv.length]
    have C := itc_list (it := it) (l := l) (its := its)
    refine ⟨[l], fun i x => its[i]? = some x, fun h => h.IsList l its.toArray, p.isList, ?_, fun b hb b' hf => ?_, fun i x hx => ?_⟩
    · rw [← hl]; exact C
    · rw [List.mem_singleton] at hb; subst hb
      rintro rfl
      rw [hf.1] at h3; cases h3
    · have hi := (List.getElem?_eq_some_iff.mp hx).1
      have hv : i < vs.length := by rw [rv.length]; exact hi
      obtain ⟨u, hu, ru⟩ := rv.get (List.getElem?_eq_getElem hv)
      rw [hx] at hu; cases hu
      obtain ⟨d, hd, rd⟩ := h2.get' (List.getElem?_eq_getElem hv)
      exact ⟨vs[i], d, ru, hd, rd⟩
/-- pairs of the items of both -/
def ItzG (K : PySem.W.Frag) (F : Hp) (ds es : List D) : It :=
  ⟨fun i H => Same F H ∧ i < ds.length ∧ i < es.length,
   fun i H v H' => ∃ T x y d e, v = .ref T ∧ H T = none ∧ H' = upd H T (.tup [x, y]) ∧ ds[i]? = some d ∧ es[i]? = some e ∧ Rep K F x d ∧ Rep K F y e,
   fun i H => Same F H ∧ (i = ds.length ∨ (i < ds.length ∧ i = es.length))⟩
theorem turn_zipG {P : Program} {w : World} {K : PySem.W.Frag} {F : Hp} {ds es : List D} {elts : List Expr} {kk : Nat} {tpos : Pos} {z TI TO i1 i2 : Addr} {st1 st2 : Nat → Heap → Prop} (hTIz : TI ≠ z) (hTOz : TO ≠ z) (hi1z : i1 ≠ z) (hi2z : i2 ≠ z) (hTITO : TI ≠ TO) (hTIi1 : TI ≠ i1) (hTIi2 : TI ≠ i2) (hTOi1 : TO ≠ i1) (hTOi2 : TO ≠ i2) (hi12 : i1 ≠ i2)
    (S1 : Src K F i1 ds st1) (S2 : Src K F i2 es st2) :
    Turn P w K (.Tuple elts kk tpos) (ItzG K F ds es) [z, TI, TO, i1, i2] z (fun i h => IsZip h z TI TO .none ∧ IsPair h TI (.ref i1) (.ref i2) ∧ (∃ x y, IsPair h TO x y) ∧ st1 i h ∧ st2 i h) where
  mem := by simp
  obj := fun i h st c hc => by
    obtain ⟨hz, hTI, ⟨x, y, hTO⟩, h1, h2⟩ := st
    have e' : c = z ∨ c = TI ∨ c = TO ∨ c = i1 ∨ c = i2 := by simpa using hc
    rcases e' with q | q | q | q | q
    · rw [q]; exact ⟨_, hz, fun v q => nomatch q⟩
    · rw [q]; exact ⟨_, hTI, fun v q => nomatch q⟩
    · rw [q]; exact ⟨_, hTO, fun v q => nomatch q⟩
    · rw [q]; exact S1.obj i h h1
    · rw [q]; exact S2.obj i h h2
  keep := fun i h h' st k => by
    obtain ⟨hz, hTI, ⟨x, y, hTO⟩, h1, h2⟩ := st
    exact ⟨k z (by simp) _ hz, k TI (by simp) _ hTI, ⟨x, y, k TO (by simp) _ hTO⟩, S1.keep i h h' h1 fun o q => k i1 (by simp) o q, S2.keep i h h' h2 fun o q => k i2 (by simp) o q⟩
  item := by
    intro X hP hw hK hc i pins s σ H E I hf st hg
    subst hP hw hK
    obtain ⟨hz, hTI, ⟨x0, y0, hTO⟩, h1, h2⟩ := st
    obtain ⟨sm, l1, l2⟩ := hg
    obtain ⟨dep1, val1, c1, hc1, C1, n1, r1⟩ := S1.here X pins σ H s rfl I sm
    obtain ⟨dep2, val2, c2, hc2, C2, n2, r2⟩ := S2.here X pins σ H s rfl I sm
    have Dz : ZAp z TI TO i1 i2 dep1 dep2 := ⟨hTIz, hTOz, hi1z, hi2z, hTITO, hTIi1, hTIi2, hTOi1, hTOi2, hi12, fun b hb => by
      have key : ∀ b', FpOk X pins H b' → b ≠ b' := fun b' hf' => (List.mem_append.mp hb).elim (fun q => n1 b q b' hf') fun q => n2 b q b' hf'
      exact ⟨key z (hf z (by simp)), key TO (hf TO (by simp)), key i1 (hf i1 (by simp)), key i2 (hf i2 (by simp))⟩⟩
    have hzl : z < s.heap.objs.size := Heap.lt_size hz
    refine pyNext_zipG Dz C1 C2 hz hTI hTO ⟨h1, hc1⟩ ⟨h2, hc2⟩ l1 l2 fun h' tk x y hx hy z' TO' h1' h2' hT hsz hk => ?_
    obtain ⟨v1, d1, rv1, hd1, rp1⟩ := r1 i x hx
    obtain ⟨v2, d2, rv2, hd2, rp2⟩ := r2 i y hy
    refine ⟨_, rfl, wpAny_letOwnedTupleGo_zip (s := { s with heap := h', toks := tk }) z' fun h'' z'' sb => ?_⟩
    have hT2 : h''.get? s.heap.objs.size = some { cls := .type "tuple", data := .seq #[x, y] } := (sb.2 _ (Nat.ne_of_gt hzl)).trans hT
    have new : ObjOk X.prog X.w (upd H s.heap.objs.size (.tup [v1, v2])) h'' s.heap.objs.size (.tup [v1, v2]) :=
      ⟨by show 2 ≤ sizeLine; decide, [x, y], .cons rv1 (.cons rv2 .nil), ⟨_, hT2, rfl, _, rfl⟩⟩
    have I1 : Inv X pins σ (upd H s.heap.objs.size (.tup [v1, v2])) { s with heap := h'', toks := tk } :=
      I.turnedNew (t' := tk) (ch := [z, TI, TO, i1, i2]) (fun c o hb q => (sb.2 c (fun q' => hb (by simp [q']))).trans (hk c o (fun q' => hb (by simp [q'])) (fun q' => hb (by simp [q'])) (fun q' => hb (by simp [q'])) (fun q' => hb (by simp [q'])) q)) hf (Nat.le_refl _) new
    refine ⟨.ref s.heap.objs.size, _, I1, rfl, ⟨_, v1, v2, d1, d2, rfl, I.hok.fresh (Nat.le_refl _), rfl, hd1, hd2, rp1, rp2⟩, ⟨z'', ?_, ⟨x, y, ?_⟩, ?_, ?_⟩, fun c hcm => ?_⟩
    · exact (sb.2 _ hTIz).trans (hk _ _ hTIz hTITO hTIi1 hTIi2 hTI)
    · exact (sb.2 _ hTOz).trans TO'
    · exact S1.keep _ _ _ h1'.1 fun o q => (sb.2 _ hi1z).trans q
    · exact S2.keep _ _ _ h2'.1 fun o q => (sb.2 _ hi2z).trans q
    · have hlt : c < s.heap.objs.size := by
        have e' : c = z ∨ c = TI ∨ c = TO ∨ c = i1 ∨ c = i2 := by simpa using hcm
        rcases e' with q | q | q | q | q
        · rw [q]; exact hzl
        · rw [q]; exact Heap.lt_size hTI
        · rw [q]; exact Heap.lt_size hTO
        · rw [q]; obtain ⟨_, e1, _⟩ := S1.obj i _ h1; exact Heap.lt_size e1
        · rw [q]; obtain ⟨_, e2, _⟩ := S2.obj i _ h2; exact Heap.lt_size e2
      rw [upd_ne (Nat.ne_of_lt hlt)]
      exact (hf c hcm).1
  done := by
    intro X hP hw hK hc i pins s σ H E I hf st hg
    subst hP hw hK
    obtain ⟨hz, hTI, ⟨x0, y0, hTO⟩, h1, h2⟩ := st
    obtain ⟨sm, hend⟩ := hg
    obtain ⟨dep1, val1, c1, hc1, C1, n1, r1⟩ := S1.here X pins σ H s rfl I sm
    obtain ⟨dep2, val2, c2, hc2, C2, n2, r2⟩ := S2.here X pins σ H s rfl I sm
    have Dz : ZAp z TI TO i1 i2 dep1 dep2 := ⟨hTIz, hTOz, hi1z, hi2z, hTITO, hTIi1, hTIi2, hTOi1, hTOi2, hi12, fun b hb => by
      have key : ∀ b', FpOk X pins H b' → b ≠ b' := fun b' hf' => (List.mem_append.mp hb).elim (fun q => n1 b q b' hf') fun q => n2 b q b' hf'
      exact ⟨key z (hf z (by simp)), key TO (hf TO (by simp)), key i1 (hf i1 (by simp)), key i2 (hf i2 (by simp))⟩⟩
    exact pyNext_zipG_end (I.ok.hd hc) Dz C1 C2 hz hTI hTO ⟨h1, hc1⟩ ⟨h2, hc2⟩ hend fun h' tk hk => ⟨rfl, I.turnedL (t' := tk) (ch := [z, TI, TO, i1, i2]) (fun c o hb q =>
      hk c o (fun q' => hb (by simp [q'])) (fun q' => hb (by simp [q'])) (fun q' => hb (by simp [q'])) (fun q' => hb (by simp [q'])) q) hf⟩
  self := fun A i s Q E st h => wpAny_pyIter_zip st.1 h
/-- what may stand in a zip: its items -/
inductive ZSrc : D → List D → Prop
  | str (z) : ZSrc (.str z) (chars z)
  | tup (ds) : ZSrc (.tup ds) ds
  | lst (ds) : ZSrc (.lst ds) ds
theorem zsrc_here {X : Cx} {pins : List (Addr × Obj)} {σ : L2.St} {H F : Hp} {sh : Shared} {d : D} {ds : List D} {v : V} {u : Value} (zs : ZSrc d ds) (I : Inv X pins σ H sh) (sm : Same F H) (rp : Rep X.K F v d) (ru : RelV v u) :
    ∃ (o : Obj) (c : Heap → Prop), Mki u o c ∧ c sh.heap ∧ ∀ it : Addr, ∃ st, Src X.K F it ds st ∧ ∀ h : Heap, h.get? it = some o → st 0 h := by
  cases zs with
  | str z =>
    cases rp
    obtain ⟨t, rfl⟩ := ru
    obtain ⟨ty, hty, m⟩ := mki_str (x := z) (t := t)
    exact ⟨_, _, m, trivial, fun it => ⟨_, src_str hty, fun h e => ⟨_, e, rfl, rfl⟩⟩⟩
  | tup ds =>
    obtain ⟨a, vs, rfl, h1, h2⟩ := rep_tup rp
    cases ru
    obtain ⟨its, _, p, _⟩ := I.tuple (same_sqT sm h1)
    exact ⟨_, _, mki_tup (l := a) (items := its.toArray), p, fun it => ⟨_, src_tup h1 h2, fun h e => ⟨_, e, rfl, rfl⟩⟩⟩
  | lst ds =>
    obtain ⟨a, vs, rfl, h1, h2⟩ := rep_lst rp
    cases ru
    obtain ⟨its, _, p, _⟩ := I.list (SqL.of (sm _ _ h1))
    exact ⟨_, _, mki_list (l := a) (items := its.toArray), p.isList, fun it => ⟨_, src_lst h1 h2, fun h e => ⟨_, e, rfl, rfl⟩⟩⟩
theorem yl_zip {K : PySem.W.Frag} {F : Hp} {ds es : List D} : Yl K (ItzG K F ds es) F (ds.zipWith (fun a b => .tup [a, b]) es) := by
  refine ⟨fun i H hi h => ⟨h, ?_⟩, fun H h => ⟨h, ?_⟩, fun i H x H' hi h y => ?_⟩
  · rw [List.length_zipWith] at hi; omega
  · rw [List.length_zipWith]; omega
  · obtain ⟨T, a, b, d, e, h1, h2, h3, h4, h5, h6, h7⟩ := y
    exact ⟨.tup [d, e], by rw [List.getElem?_zipWith, h4, h5], .inr (.inl ⟨T, [a, b], [d, e], h1, h2, h3, rfl, .cons h6 (.cons h7 .nil)⟩)⟩
theorem nn {a b c : Nat} (h : b ≠ c) : (a + b : Nat) ≠ a + c := fun z => h (Nat.add_left_cancel z)
theorem n0 {a c : Nat} (h : 0 ≠ c) : (a : Nat) ≠ a + c := fun z => h (Nat.add_left_cancel (n := a) (by rw [Nat.add_zero]; exact z))
theorem call_zipG {prog : Program} {w : World} {A : Around} {E : Value → Shared → Prop} {s : Shared} {u1 u2 : Value} {o1 o2 : Obj} {c1 c2 : Heap → Prop} (m1 : Mki u1 o1 c1) (m2 : Mki u2 o2 c2) {Q : Value → Shared → Prop} (hl1 : c1 s.heap) (hl2 : c2 s.heap)
    (h : ∀ h', IsZip h' (s.heap.objs.size + 4) (s.heap.objs.size + 2) (s.heap.objs.size + 3) .none → IsPair h' (s.heap.objs.size + 2) (.ref s.heap.objs.size) (.ref (s.heap.objs.size + 1)) →
      IsPair h' (s.heap.objs.size + 3) .none .none → (o1.isFreed = false → h'.get? s.heap.objs.size = some o1) → (o2.isFreed = false → h'.get? (s.heap.objs.size + 1) = some o2) → h'.objs.size = s.heap.objs.size + 5 →
      (∀ c o, s.heap.get? c = some o → h'.get? c = some o) → Q (.ref (s.heap.objs.size + 4)) { s with heap := h' }) :
    wpAny (model prog w) A (call (.type "zip") [u1, u2]) Q E s := by
  refine callType_new F.called_zip (by decide) (F.typeCall_zip_2 _ _) (F.newCall_zip_2 _ _) (fun obj => F.args_object_init_3 obj _ _) F.entry_zip_new
    (meets_zipG m1 m2) ⟨hl1, hl2, ?_⟩
  have z1 : (s.heap.push o1).objs.size = s.heap.objs.size + 1 := Heap.size_push ..
  have z2 : (zH2 s.heap o1 o2).objs.size = s.heap.objs.size + 2 := by rw [Heap.size_push, z1]
  have z3 : (zH3 s.heap o1 o2).objs.size = s.heap.objs.size + 3 := by rw [Heap.size_push, z2]
  have z4 : (zH4 s.heap o1 o2).objs.size = s.heap.objs.size + 4 := by rw [Heap.size_push, z3]
  have z5 : (zH5 s.heap o1 o2).objs.size = s.heap.objs.size + 5 := by rw [Heap.size_push, z4]
  have g5 : (zH5 s.heap o1 o2).get? (zH4 s.heap o1 o2).objs.size = some _ := Heap.get?_push_size _ rfl
  have g4 : (zH5 s.heap o1 o2).get? (zH3 s.heap o1 o2).objs.size = some _ := Heap.get?_push_of_some _ (Heap.get?_push_size _ rfl)
  have g3 : (zH5 s.heap o1 o2).get? (zH2 s.heap o1 o2).objs.size = some _ := Heap.get?_push_of_some _ (Heap.get?_push_of_some _ (Heap.get?_push_size _ rfl))
  have g2 : o2.isFreed = false → (zH5 s.heap o1 o2).get? (s.heap.push o1).objs.size = some _ := fun hf => Heap.get?_push_of_some _ (Heap.get?_push_of_some _ (Heap.get?_push_of_some _ (Heap.get?_push_size _ hf)))
  have g1 : o1.isFreed = false → (zH5 s.heap o1 o2).get? s.heap.objs.size = some _ := fun hf => Heap.get?_push_of_some _ (Heap.get?_push_of_some _ (Heap.get?_push_of_some _ (Heap.get?_push_of_some _ (Heap.get?_push_size _ hf))))
  show _ ∧ _
  rw [z2, z3, z4] at g5
  rw [z1, z2] at g3
  rw [z3] at g4
  rw [z1] at g2
  rw [z4]
  exact ⟨⟨_, g5, rfl⟩, h _ g5 g3 g4 g1 g2 z5 fun c o x => Heap.get?_push_of_some _ (Heap.get?_push_of_some _ (Heap.get?_push_of_some _ (Heap.get?_push_of_some _ (Heap.get?_push_of_some _ x))))⟩
section
variable {X : Cx} {N : En} {W : WX} {n : Nat} {δ : List (Option S)} {μ μ1 : List M} {e e2 : Expr} {d1 d2 : D} {ds es : List D} {elts : List Expr} {kk : Nat} {p pos tpos : Pos}
theorem di_zip (g : Go X N W n) (ha : DA X N W δ μ [e, e2] [.p d1, .p d2] μ1) (z1 : ZSrc d1 ds) (z2 : ZSrc d2 es) (hm : X.mg "zip" = none) (hg : Gl X "zip" := by rfl)
    (hs : starEach [e, e2] X.env = (false, eval e X.env) :: starEach [e2] X.env := by rfl) (hpl : (backTo pos (starEach [e2] X.env)).any (·.1) = false := by rfl) :
    DI X N W δ μ (.Tuple elts kk tpos) (.Call (.Name "zip" p) [e, e2] [] pos) (ds.zipWith (fun a b => .tup [a, b]) es) μ1 := by
  refine ⟨fun pins s σ H Rk I ⟨F, A, R0, k⟩ => ?_⟩
  refine Call_ (ld_blt I hg hm PyProof.Rows.boot_zip (PyProof.Rows.callWith_type1 (thn (ha.run pos pins s σ H (fun vs H' => ∃ F' A', Same F F' ∧ A <+: A' ∧ Rl N F' A' H' σ δ μ1 ∧ RepSs N.K F' A' vs [.p d1, .p d2]) I ⟨F, A, R0, fun vs F' A' H' h1 h2 h3 h4 => ⟨F', A', h1, h2, h3, h4⟩⟩) fun us s1 ⟨vs, H1, I1, r1, F1, A1, e1, p1, R1, rv⟩ => ?_) hs hpl))
  obtain ⟨v, u, rfl, rp1, rp2⟩ := two_of rv
  have hK := g.hK
  rw [hK] at rp1 rp2
  cases r1 with
  | cons ru1 rr =>
    cases rr with
    | cons ru2 rr =>
      cases rr
      obtain ⟨o1, c1, m1, h1, q1⟩ := zsrc_here z1 I1 R1.rc.sub (show Rep X.K F1 v d1 from rp1) ru1
      obtain ⟨o2, c2, m2, h2, q2⟩ := zsrc_here z2 I1 R1.rc.sub (show Rep X.K F1 u d2 from rp2) ru2
      refine call_zipG m1 m2 h1 h2 fun h' hz hTI hTO f1 f2 hsz hk => wpAny_pyIter_zip hz ?_
      have I2 : Inv X pins σ H1 { s1 with heap := h' } := I1.kept (t' := s1.toks) hk
      obtain ⟨st1, S1, b1⟩ := q1 s1.heap.objs.size
      obtain ⟨st2, S2, b2⟩ := q2 (s1.heap.objs.size + 1)
      have g1 := f1 m1.nf
      have g2 := f2 m2.nf
      have st10 := b1 h' g1
      have st20 := b2 h' g2
      have T := turn_zipG (P := X.prog) (w := X.w) (K := X.K) (F := F1) (ds := ds) (es := es) (elts := elts) (kk := kk) (tpos := tpos) (z := s1.heap.objs.size + 4) (TI := s1.heap.objs.size + 2) (TO := s1.heap.objs.size + 3) (i1 := s1.heap.objs.size) (i2 := s1.heap.objs.size + 1)
        (nn (by decide)) (nn (by decide)) (n0 (by decide)) (nn (by decide)) (nn (by decide)) (n0 (by decide)).symm (nn (by decide)) (n0 (by decide)).symm (nn (by decide)) (n0 (by decide)) S1 S2
      refine ⟨s1.heap.objs.size + 4, [s1.heap.objs.size + 4, s1.heap.objs.size + 2, s1.heap.objs.size + 3, s1.heap.objs.size, s1.heap.objs.size + 1], _, _, H1, rfl, I2, T, ⟨hz, hTI, ⟨_, _, hTO⟩, st10, st20⟩, fun c hcm => ?_, ?_⟩
      · have e' : c = s1.heap.objs.size + 4 ∨ c = s1.heap.objs.size + 2 ∨ c = s1.heap.objs.size + 3 ∨ c = s1.heap.objs.size ∨ c = s1.heap.objs.size + 1 := by simpa using hcm
        have hle : s1.heap.objs.size ≤ c := by
          rcases e' with z | z | z | z | z
          · rw [z]; exact Nat.le_add_right _ _
          · rw [z]; exact Nat.le_add_right _ _
          · rw [z]; exact Nat.le_add_right _ _
          · rw [z]; exact Nat.le_refl _
          · rw [z]; exact Nat.le_add_right _ _
        exact I1.fpOk hle (I1.hok.fresh hle)
      · have y := yl_zip (K := X.K) (F := F1) (ds := ds) (es := es)
        rw [← hK] at y ⊢
        exact k _ F1 A1 H1 e1 p1 R1 y
end
end Dl
set_option Elab.async false
set_option linter.all false
set_option maxRecDepth 100000
set_option maxHeartbeats 4000000
set_option autoImplicit false
namespace Dl
open PySem PySem.Spec PyProof.Rows L2
/-! ## isinstance -/
structure ClsI (K : PySem.W.Frag) (C : Addr) : Prop where
  cl : Cls K C
  ha : PySem.W.findIn K (.ref C) "__class__" = some (some (.builtin "object.__class__"))
  hn : PySem.W.specialIn K (.builtin "object.__class__") "__get__" = some (some (.builtin "getset_descriptor.__get__"))
  ht : PySem.W.takesIn K (.builtin "object.__class__") = some true
  hm : PySem.W.mroIn K C (.type "object") = some true
inductive TyI (K : PySem.W.Frag) : D → Value → Prop
  | non : TyI K .non (.type "NoneType")
  | bl (b) : TyI K (.bl b) (.type "bool")
  | int (i) : TyI K (.int i) (.type "int")
  | str (z) : TyI K (.str z) (.type "str")
  | tup (ds) : TyI K (.tup ds) (.type "tuple")
  | lst (ds) : TyI K (.lst ds) (.type "list")
  | dic (ks ds) : TyI K (.dic ks ds) (.type "dict")
  | ins (C ns ds) : ClsI K C → TyI K (.ins C ns ds) (.ref C)
inductive ClsD : D → Value → Prop
  | ty (n) : ClsD (.ty n) (.type n)
  | adr (C) : ClsD (.adr C) (.ref C)
theorem tyX_of {K : PySem.W.Frag} {F H : Hp} {v : V} {d : D} {t : Value} (sm : Same F H) (ty : TyI K d t) (rp : Rep K F v d) : TyX K H v t := by
  cases ty with
  | non => cases rp; exact .base .non
  | bl b => cases rp; exact .base (.bl b)
  | int b => cases rp; exact .base (.int b)
  | str b => cases rp; exact .base (.str b)
  | tup ds =>
    obtain ⟨a, vs, rfl, h1, _⟩ := rep_tup rp
    rcases same_sqT sm h1 with (h | ⟨o, h⟩) | ⟨o, its, n, hk, hc, _⟩
    · exact .base (.tup h)
    · exact .fTuple h
    · exact .kTuple hk hc
  | lst ds =>
    obtain ⟨a, vs, rfl, h1, _⟩ := rep_lst rp
    exact .base (.lst (sm _ _ h1))
  | dic ks ds =>
    generalize hd : D.dic ks ds = d' at rp
    cases rp with
    | dic h1 h2 => exact .base (.dK (sm _ _ h1))
    | _ => cases hd
  | ins C ns ds c =>
    obtain ⟨a, dx, fs, rfl, h1, _⟩ := rep_ins rp
    exact .base (.ins (sm _ _ h1) c.cl c.ha c.hn c.ht c.hm)
section
variable {X : Cx} {N : En} {W : WX} {n : Nat} {δ δ' δ1 δ2 : List (Option S)} {μ μ' μ1 μ2 μ3 : List M} {e a b c o : Expr} {es : List Expr} {ss : List S} {pos p apos : Pos} {d : D} {s s1 s2 : S} {r : Rx} {R : Rel} {k : Nat} {x m f : Str} {dd : List D} {C : Addr}
theorem c_isi (g : Go X N W n) {d c : D} {t u : Value} {q : Bool} (ty : TyI X.K d t) (cl : ClsD c u) (h : PySem.W.kitOne X.K t u = some q) : CallOk X N W (.builtin "isinstance") μ [.p d, .p c] (.v (.p (.bl q))) μ :=
  ⟨_, call_isi, fun σ δ F A H vs Q R rv k => by
    obtain ⟨v, w, rfl, h1, h2⟩ := two_of rv
    have hK := g.hK
    have h1' : Rep X.K F v d := by rw [← hK]; exact h1
    have h2' : Rep X.K F w c := by rw [← hK]; exact h2
    refine ⟨v, w, t, u, q, rfl, ?_, tyX_of R.rc.sub ty h1', h, k.here R (.bl _)⟩
    cases cl with
    | ty n => cases h2'; exact .ty n
    | adr C => cases h2'; exact .own C⟩
/-- a builtin type by its name -/
theorem de_ty {x : Str} {T : String} (hm : X.mg x = none) (hv : bootBuiltins x = some (.type T)) (hg : Gl X x := by rfl) (hn : x ≠ "__name__" := by decide) (hd : (x == ("__debug__" : Str)) = false := by decide) : DE X N W δ μ (.Name x pos) (.v (.p (.ty T))) μ :=
  de_c (pe_bltn (v := .ty T) hg hm hv rfl hn hd) fun _ _ => .ty T
/-! ## chains -/
theorem de_chn {op op' : CmpOp} {s3 : S} {k k' : Bool} (ha : DE X N W δ μ a (.v s1) μ1) (hb : DE X N W δ μ1 b (.v s2) μ2) (h : OpOk X N W (compareOp op) μ2 s1 s2 (.v (.p (.bl k))) μ2)
    (hc : k = true → DE X N W δ μ2 c (.v s3) μ2) (h' : k = true → OpOk X N W (compareOp op') μ2 s2 s3 (.v (.p (.bl k'))) μ2) (hm : lastMarks [op, op'] [b, c] = false := by with_unfolding_all rfl) : DE X N W δ μ (.Compare a [op, op'] [b, c] pos) (.v (.p (.bl (k && k')))) μ2 := by
  obtain ⟨rr, ho, hr⟩ := h
  cases k with
  | false =>
    refine PE.imp (pe_chain (op' := op') (r' := fun _ _ _ _ => False) ho (fun _ _ _ _ _ _ _ _ _ _ _ _ z => z.elim) ha hb (pe_no (X := X) (e := c)) hm) fun σ H Q ⟨F, A, R, q⟩ => ⟨F, A, R, fun x F1 A1 H1 e1 p1 R1 rx => ⟨F1, A1, R1, fun y F2 A2 H2 e2 p2 R2 ry => hr σ δ F2 A2 H2 x y _ R2 (rx.mono e2 p2) ry fun v F3 A3 H3 e3 p3 R3 rv => ?_⟩⟩
    have rv' : Rep N.K F3 v (.bl false) := rv
    cases rv'
    exact ⟨false, rfl, iteF (q _ F3 A3 H3 ((e1.trans e2).trans e3) ((p1.trans p2).trans p3) R3 (.bl _))⟩
  | true =>
    obtain ⟨rr', ho', hr'⟩ := h' rfl
    refine PE.imp (pe_chain ho ho' ha hb (hc rfl) hm) fun σ H Q ⟨F, A, R, q⟩ => ⟨F, A, R, fun x F1 A1 H1 e1 p1 R1 rx => ⟨F1, A1, R1, fun y F2 A2 H2 e2 p2 R2 ry => hr σ δ F2 A2 H2 x y _ R2 (rx.mono e2 p2) ry fun v F3 A3 H3 e3 p3 R3 rv => ?_⟩⟩
    have rv' : Rep N.K F3 v (.bl true) := rv
    cases rv'
    exact ⟨true, rfl, iteT ⟨F3, A3, R3, fun z F4 A4 H4 e4 p4 R4 rz => hr' σ δ F4 A4 H4 y z Q R4 ((ry.mono e3 p3).mono e4 p4) rz (EndE.to (((e1.trans e2).trans e3).trans e4) (((p1.trans p2).trans p3).trans p4) q)⟩⟩
theorem dt_chn {op op' : CmpOp} {s3 : S} {k k' : Bool} (ha : DE X N W δ μ a (.v s1) μ1) (hb : DE X N W δ μ1 b (.v s2) μ2) (h : OpOk X N W (compareOp op) μ2 s1 s2 (.v (.p (.bl k))) μ2)
    (hc : k = true → DE X N W δ μ2 c (.v s3) μ2) (h' : k = true → OpOk X N W (compareOp op') μ2 s2 s3 (.v (.p (.bl k'))) μ2) (hm : lastMarks [op, op'] [b, c] = false := by with_unfolding_all rfl) : DT X N W δ μ (.Compare a [op, op'] [b, c] pos) (k && k') μ2 := by
  obtain ⟨rr, ho, hr⟩ := h
  cases k with
  | false =>
    refine PT.imp (pt_chain (op' := op') (r' := fun _ _ _ _ => False) ho (fun _ _ _ _ _ _ _ _ _ _ _ _ z => z.elim) ha hb (pe_no (X := X) (e := c)) hm) fun σ H Q ⟨F, A, R, q⟩ => ⟨F, A, R, fun x F1 A1 H1 e1 p1 R1 rx => ⟨F1, A1, R1, fun y F2 A2 H2 e2 p2 R2 ry => hr σ δ F2 A2 H2 x y _ R2 (rx.mono e2 p2) ry fun v F3 A3 H3 e3 p3 R3 rv => ?_⟩⟩
    have rv' : Rep N.K F3 v (.bl false) := rv
    cases rv'
    exact ⟨false, rfl, iteF ⟨false, rfl, q F3 A3 H3 ((e1.trans e2).trans e3) ((p1.trans p2).trans p3) R3⟩⟩
  | true =>
    obtain ⟨rr', ho', hr'⟩ := h' rfl
    refine PT.imp (pt_chain ho ho' ha hb (hc rfl) hm) fun σ H Q ⟨F, A, R, q⟩ => ⟨F, A, R, fun x F1 A1 H1 e1 p1 R1 rx => ⟨F1, A1, R1, fun y F2 A2 H2 e2 p2 R2 ry => hr σ δ F2 A2 H2 x y _ R2 (rx.mono e2 p2) ry fun v F3 A3 H3 e3 p3 R3 rv => ?_⟩⟩
    have rv' : Rep N.K F3 v (.bl true) := rv
    cases rv'
    exact ⟨true, rfl, iteT ⟨F3, A3, R3, fun z F4 A4 H4 e4 p4 R4 rz => hr' σ δ F4 A4 H4 y z _ R4 ((ry.mono e3 p3).mono e4 p4) rz (EndE.bool fun F' A' H' e' p' R' => q F' A' H' ((((e1.trans e2).trans e3).trans e4).trans e') ((((p1.trans p2).trans p3).trans p4).trans p') R')⟩⟩
/-! ## written dicts with text keys -/
theorem de_kdIx {es : Array DictEntry} {m : Nat} {z : Str} {ad : Addr} {u : Value} (Dk : KDict X.K X.w ad es m) (ha : DE X N W δ μ a (.v (.p (.adr ad))) μ1) (hb : DE X N W δ μ1 b (.v (.p (.str z))) μ2) (h : PySem.W.nsIn X.K ad z = some (some u)) {v : V} (ru : RelV v u) (rp : ∀ K F, Rep K F v d) (hs : PlainIx b := by exact fun _ _ => rfl) :
    DE X N W δ μ (.Subscript a b pos) (.v (.p d)) μ2 := by
  refine ⟨fun pins s σ H Q I ⟨F, A, R0, q⟩ => ?_⟩
  refine Subscript_ (two_then ha hb I R0 (fn := fun v u => subscriptTail a b v u) fun v' u' s3 x y H2 F2 A2 I2 rx ry e2 p2 R2 h1 h2 => ?_)
  cases rs_adr h1
  cases rs_str h2
  cases rx
  obtain ⟨t, rfl⟩ := ry
  refine tail_any (kd_type Dk I2) PySem.F.slot_dict_getitem.lookup (op_item_kd Dk pins s3 σ H2 (.ref ad) (.str z) (.ref ad) (.str z t) Q I2 rfl ⟨t, rfl⟩ ⟨z, u, v, rfl, rfl, h, ru, q v F2 A2 H2 e2 p2 R2 (rp _ _)⟩) (by first | exact hs _ _ | with_unfolding_all rfl)
theorem de_kdGet {es : Array DictEntry} {m : Nat} {z : Str} {ad : Addr} {dflt : D} {u : Option Value} {e1 e2 : Expr} (Dk : KDict X.K X.w ad es m) (ho : DE X N W δ μ o (.v (.p (.adr ad))) μ1) (h1 : DE X N W δ μ1 e1 (.v (.p (.str z))) μ2) (h2 : DE X N W δ μ2 e2 (.v (.p dflt)) μ3) (h : PySem.W.nsIn X.K ad z = some u)
    (hd : match u with | some u => ∃ v, RelV v u ∧ ∀ K F, Rep K F v d | none => d = dflt) (mm : M2 X o "get" apos e1 e2 pos) : DE X N W δ μ (.Call (.Attribute o "get" apos) [e1, e2] [] pos) (.v (.p d)) μ3 := by
  refine ⟨fun pins s σ H Q I ⟨F, A, R0, q⟩ => ?_⟩
  refine wpAny_Call_method mm.base mm.few mm.line PySem.F.plainAttrs_dict PySem.F.slot_dict_get PySem.F.type_dict_get (thn (ho.run pins s σ H (fun v H' => ∃ F' A', Same F F' ∧ A <+: A' ∧ Rl N F' A' H' σ δ μ1 ∧ RepS N.K F' A' v (.p (.adr ad))) I ⟨F, A, R0, fun v F' A' H' h1 h2 h3 h4 => ⟨F', A', h1, h2, h3, h4⟩⟩) fun uo s1 ⟨x, H1, I1, rx, F1, A1, e1', p1', R1, h4⟩ => ?_)
  cases rs_adr h4
  obtain rfl : uo = Value.ref ad := rx
  refine ⟨kd_type Dk I1, fun b q => ?_, ?_⟩
  · cases q
    exact ⟨_, I1.kIn _ _ Dk.at_, rfl⟩
  rw [mm.trees]
  refine Calls.callWith_builtin rfl (Calls.evalArgs_plain (Calls.spliced_cons (thn (h1.run pins s1 σ H1 (fun v H' => ∃ F' A', Same F1 F' ∧ A1 <+: A' ∧ Rl N F' A' H' σ δ μ2 ∧ RepS N.K F' A' v (.p (.str z))) I1 ⟨F1, A1, R1, fun v F' A' H' h1 h2 h3 h4 => ⟨F', A', h1, h2, h3, h4⟩⟩) fun iv s2 ⟨y, H2, I2, ry, F2, A2, e2', p2', R2, h5⟩ =>
    Calls.spliced_cons (thn (h2.run pins s2 σ H2 (fun v H' => ∃ F' A', Same F2 F' ∧ A2 <+: A' ∧ Rl N F' A' H' σ δ μ3 ∧ RepS N.K F' A' v (.p dflt)) I2 ⟨F2, A2, R2, fun v F' A' H' h1 h2 h3 h4 => ⟨F', A', h1, h2, h3, h4⟩⟩) fun fv s3 ⟨w, H3, I3, rw', F3, A3, e3', p3', R3, h6⟩ => Calls.spliced_nil ?_))))
  cases rs_str h5
  obtain ⟨t, rfl⟩ := ry
  have mo := PySem.W.mapOf_K (prog := X.prog) (w := X.w) I3.kIn Dk.at_ Dk.lit
  refine call_meetsIn PySem.F.slot_dict_get (kd_type Dk I3) PySem.F.entry_dict_get (PySem.F.args_dict_get_3 _ _ _) (meets_dict_get_default (PySem.strKind X.prog X.w) ad (PySem.strKind_is X.prog X.w z t) Dk.low fv) ⟨_, mo, ?_⟩
  rw [PySem.W.find_K Dk.at_ h]
  cases u with
  | some u0 =>
    obtain ⟨v0, r0, rp⟩ := hd
    exact ⟨v0, H3, I3.tok _, r0, q v0 F3 A3 H3 ((e1'.trans e2').trans e3') ((p1'.trans p2').trans p3') R3 (rp _ _)⟩
  | none =>
    have hd' : d = dflt := hd
    subst hd'
    exact ⟨w, H3, I3.tok _, rw', q w F3 A3 H3 ((e1'.trans e2').trans e3') ((p1'.trans p2').trans p3') R3 h6⟩
end
end Dl
set_option Elab.async false
set_option linter.all false
set_option maxRecDepth 100000
set_option maxHeartbeats 4000000
set_option autoImplicit false
namespace Dl
open PySem PySem.Spec PyProof.Rows L2
/-! ## own errors that keep their only argument -/
section
variable {X : Cx} {N : En} {W : WX} {n : Nat} {δ δ' δ1 δ2 : List (Option S)} {μ μ' μ1 μ2 μ3 : List M} {e a b c o : Expr} {es : List Expr} {ss : List S} {pos p apos : Pos} {d : D} {s s1 s2 : S} {r : Rx} {R : Rel} {k : Nat} {x m f : Str} {dd : List D} {C : Addr}
/-! ## statements with an expression that raises -/
/-! ## lists that change, by their methods -/
theorem m_append {j : Nat} {ds : List D} (hj : μ[j]? = some (.lst ds)) (hj0 : μ1[j]? = some (.lst ds)) (hl : ds.length < sizeLine) : MtOk X N W "list" "list.append" μ μ1 (.l j) [.p d] (.v (.p .non)) (μ1.set j (.lst (ds ++ [d]))) :=
  ⟨_, mt_append, fun σ δ F A H x R rx => by
    obtain ⟨a, rfl, ha⟩ := rx
    obtain ⟨ws, h1, h2⟩ := R.rc.mus j a _ ha hj
    exact .inl ⟨rfl, ws, SqL.of h1⟩, fun σ δ F A H x vs Q R rx rv k => by
    obtain ⟨v, rfl, h⟩ := one_of rv
    obtain ⟨a, rfl, ha⟩ := rx
    obtain ⟨ws, h1, h2⟩ := R.rc.mus j a _ ha hj0
    refine ⟨a, ws, v, rfl, rfl, h1, by rw [h2.length]; exact hl, ?_⟩
    exact k .non F A _ (Same.refl _) (List.prefix_refl _) (R.to (Same.refl _) (List.prefix_refl _) (R.rc.write ha hj0 trivial ⟨_, upd_same, h2.snoc h⟩)) .non⟩
theorem Reps.eraseIdx {K : PySem.W.Frag} {F : Hp} : ∀ {vs : List V} {ds : List D} (i : Nat), Reps K F vs ds → Reps K F (vs.eraseIdx i) (ds.eraseIdx i)
  | _, _, _, .nil => .nil
  | _, _, 0, .cons _ t => t
  | _, _, i + 1, .cons r t => .cons r (Reps.eraseIdx i t)
theorem m_popAt {j : Nat} {ds : List D} {i : Int} {q : Nat} (hj : μ[j]? = some (.lst ds)) (hj0 : μ1[j]? = some (.lst ds)) (hi : -(2 ^ 63) ≤ i ∧ i < 2 ^ 63) (hq : seqIndex? i ds.length = some q) (hd : ds[q]? = some d) : MtOk X N W "list" "list.pop" μ μ1 (.l j) [.p (.int i)] (.v (.p d)) (μ1.set j (.lst (ds.eraseIdx q))) :=
  ⟨_, mt_popAt, fun σ δ F A H x R rx => by
    obtain ⟨a, rfl, ha⟩ := rx
    obtain ⟨ws, h1, h2⟩ := R.rc.mus j a _ ha hj
    exact .inl ⟨rfl, ws, SqL.of h1⟩, fun σ δ F A H x vs Q R rx rv k => by
    obtain ⟨v, rfl, h⟩ := one_of rv
    obtain ⟨a, rfl, ha⟩ := rx
    obtain ⟨ws, h1, h2⟩ := R.rc.mus j a _ ha hj0
    obtain ⟨y, h3, h4⟩ := h2.get hd
    refine ⟨a, ws, i, q, y, rfl, by rw [rs_int h], h1, hi.1, hi.2, by rw [h2.length]; exact hq, h3, ?_⟩
    exact k y F A _ (Same.refl _) (List.prefix_refl _) (R.to (Same.refl _) (List.prefix_refl _) (R.rc.write ha hj0 trivial ⟨_, upd_same, h2.eraseIdx q⟩)) h4⟩
/-! ## lists and tuples put together -/
theorem o_catL {ds es : List D} (hl : ds.length + es.length ≤ sizeLine) : OpOk X N W (binaryOp .Add) μ (.p (.lst ds)) (.p (.lst es)) (.v (.p (.lst (ds ++ es)))) μ :=
  ⟨_, op_cat, fun σ δ F A H x y Q R rx ry k => by
    obtain ⟨a, ws, rfl, h1, h2⟩ := rep_lst rx
    obtain ⟨b, us, rfl, h3, h4⟩ := rep_lst ry
    refine ⟨a, b, ws, us, rfl, rfl, R.rc.sub _ _ h1, R.rc.sub _ _ h3, by rw [h2.length, h4.length]; exact hl, fun p np => ?_⟩
    have sm := same_updN (o := .lst (ws ++ us)) (R.rc.fresh np).2.1
    exact k (.ref p) _ A _ sm (List.prefix_refl _) (R.to sm (List.prefix_refl _) (R.rc.frozen np _)) (.lst upd_same ((h2.append h4).mono sm))⟩
theorem o_catM {j : Nat} {ds es : List D} (hj : μ[j]? = some (.lst ds)) (hl : ds.length + es.length ≤ sizeLine) : OpOk X N W (binaryOp .Add) μ (.l j) (.p (.lst es)) (.v (.p (.lst (ds ++ es)))) μ :=
  ⟨_, op_cat, fun σ δ F A H x y Q R rx ry k => by
    obtain ⟨a, rfl, ha⟩ := rx
    obtain ⟨ws, h1, h2⟩ := R.rc.mus j a _ ha hj
    obtain ⟨b, us, rfl, h3, h4⟩ := rep_lst ry
    refine ⟨a, b, ws, us, rfl, rfl, h1, R.rc.sub _ _ h3, by rw [h2.length, h4.length]; exact hl, fun p np => ?_⟩
    have sm := same_updN (o := .lst (ws ++ us)) (R.rc.fresh np).2.1
    exact k (.ref p) _ A _ sm (List.prefix_refl _) (R.to sm (List.prefix_refl _) (R.rc.frozen np _)) (.lst upd_same ((h2.append h4).mono sm))⟩
/-- a list is frozen from here on -/
theorem dss_freeze {j : Nat} {ds : List D} {rest : List Stmt} {o : Os} (hj : μ[j]? = some (.lst ds)) (hA : N.A0.length ≤ j) (i : Nat) (hi : δ[i]? = some (some (.l j))) (h : DSs X N W (δ.set i (some (.p (.lst ds)))) (μ.set j .gone) rest o) : DSs X N W δ μ rest o :=
  PSs.imp h fun K σ H ⟨F, A, R, k⟩ => by
    obtain ⟨v, hv, a, rfl, ha⟩ := R.sl i _ hi
    obtain ⟨ws, h1, h2⟩ := R.rc.mus j a _ ha hj
    obtain ⟨r1, sm⟩ := R.rc.freeze ha hj trivial hA h1
    refine ⟨_, A, ⟨r1, by simp [R.len], fun i' s' e => ?_⟩, k.to sm (List.prefix_refl _)⟩
    by_cases hi' : i' = i
    · subst hi'
      have hl : i' < δ.length := (List.getElem?_eq_some_iff.mp hi).1
      rw [List.getElem?_set_self hl] at e
      cases e
      exact ⟨.ref a, hv, .lst upd_same (h2.mono sm)⟩
    · rw [List.getElem?_set_ne (Ne.symm hi')] at e
      obtain ⟨w, h3, h4⟩ := R.sl i' s' e
      exact ⟨w, h3, h4.mono sm (List.prefix_refl _)⟩
end
/-! ## the one __init__ -/
end Dl
set_option Elab.async false
set_option linter.all false
set_option maxRecDepth 100000
set_option maxHeartbeats 4000000
set_option autoImplicit false
namespace Dl
open PySem PySem.Spec PyProof.Rows L2
/-! ## len of own objects; a text n times; list(range(n)) -/
section
variable {X : Cx} {N : En} {W : WX} {n : Nat} {δ δ' δ1 δ2 : List (Option S)} {μ μ' μ1 μ2 μ3 : List M} {e a b c o : Expr} {es : List Expr} {ss : List S} {pos p apos : Pos} {d : D} {s s1 s2 : S} {r : Rx} {R : Rel} {k : Nat} {x m f : Str} {dd : List D} {C : Addr}
theorem op_mulSn {c : Nat} : OpR X (binaryOp .Mult) (fun x y H Q => ∃ (k : Nat), x = .str ⟨#[c]⟩ ∧ y = .int (k : Int) ∧ 1 ≤ k ∧ k ≤ 4 ∧ Q (.str ⟨(List.replicate k c).toArray⟩) H) := by
  intro pins s σ H x y v u Q I rx ry h
  obtain ⟨k, rfl, rfl, h1, h2, q⟩ := h
  obtain ⟨t, rfl⟩ := rx
  obtain ⟨t', rfl⟩ := ry
  match k, h1, h2, q with
  | 1, _, _, q =>
    refine PySem.P.mul_str (by decide) (fun _ h => by simp at h) (fun _ h => by simp at h) ?_
    show (if (1 : Int) < 1 then _ else if ((1 : Int) == 1 || _ == 0) = true then _ else _ : Made).post _ _
    rw [if_neg (by decide), if_pos (by simp)]
    exact ⟨.str ⟨#[c]⟩, H, I, ⟨t, rfl⟩, q⟩
  | 2, _, _, q =>
    refine PySem.P.mul_str (by decide) (fun _ h => by show ¬ ((1 : Nat) : Int) > _; decide) (fun _ h => by with_unfolding_all rfl) ?_
    exact ⟨by show (2 : Nat) ≤ _; decide, .str _, H, I.tok _, ⟨_, rfl⟩, q⟩
  | 3, _, _, q =>
    refine PySem.P.mul_str (by decide) (fun _ h => by show ¬ ((1 : Nat) : Int) > _; decide) (fun _ h => by with_unfolding_all rfl) ?_
    exact ⟨by show (3 : Nat) ≤ _; decide, .str _, H, I.tok _, ⟨_, rfl⟩, q⟩
  | 4, _, _, q =>
    refine PySem.P.mul_str (by decide) (fun _ h => by show ¬ ((1 : Nat) : Int) > _; decide) (fun _ h => by with_unfolding_all rfl) ?_
    exact ⟨by show (4 : Nat) ≤ _; decide, .str _, H, I.tok _, ⟨_, rfl⟩, q⟩
theorem o_mulSn {c k : Nat} (h : 1 ≤ k ∧ k ≤ 4) : OpOk X N W (binaryOp .Mult) μ (.p (.str ⟨#[c]⟩)) (.p (.int (k : Int))) (.v (.p (.str ⟨(List.replicate k c).toArray⟩))) μ :=
  ⟨_, op_mulSn, fun σ δ F A H x y Q R rx ry q => ⟨k, rs_str rx, rs_int ry, h.1, h.2, q.here R (.str _)⟩⟩
theorem de_listRg {i : Int} {p2 pos2 : Pos} (g : Go X N W n) (ha : DE X N W δ μ a (.v (.p (.int i))) μ1) (hm : X.mg "list" = none) (hm2 : X.mg "range" = none) (hi : 0 ≤ i ∧ i ≤ 16777216) (hg : Gl X "list" := by rfl) (hg2 : Gl X "range" := by rfl)
    (hs : starEach [a] X.env = (false, eval a X.env) :: starEach [] X.env := by rfl) (hs2 : starEach [.Call (.Name "range" p2) [a] [] pos2] X.env = (false, eval (.Call (.Name "range" p2) [a] [] pos2) X.env) :: starEach [] X.env := by rfl) :
    DE X N W δ μ (.Call (.Name "list" p) [.Call (.Name "range" p2) [a] [] pos2] [] pos) (.v (.p (.lst (rangeD 0 i.toNat)))) μ1 :=
  PE.imp (pe_listRg g.calm hg hm (prg_1 hg2 hm2 ha hs) hs2) fun σ H Q ⟨F, A, R0, k⟩ => ⟨F, A, R0, fun x F1 A1 H1 e1 p1 R1 rx => by
    have ex : x = .int i := rs_int rx
    subst ex
    refine ⟨i, rfl, RgOk.of_le (by omega) (by omega) (by omega) (by omega), fun q nq => ?_⟩
    have sm := same_updN (o := .lst (rgV 0 i)) (R1.rc.fresh nq).2.1
    refine k (.ref q) _ A1 _ (e1.trans sm) p1 (R1.to sm (List.prefix_refl _) (R1.rc.frozen nq _)) (.lst upd_same (Reps.mono sm ?_))
    unfold rgV rangeD
    rw [Int.sub_zero]
    generalize List.range i.toNat = l
    induction l with
    | nil => exact .nil
    | cons y ys ih => exact .cons (.int _) ih⟩
end
end Dl
set_option Elab.async false
set_option linter.all false
set_option maxRecDepth 100000
set_option maxHeartbeats 4000000
set_option autoImplicit false
namespace Dl
open PySem PySem.Spec PyProof.Rows L2
section
variable {X : Cx} {N : En} {W : WX} {n : Nat} {δ δ' δ1 δ2 : List (Option S)} {μ μ' μ1 μ2 μ3 : List M} {e a b c o : Expr} {es : List Expr} {ss : List S} {pos p apos : Pos} {d d' : D} {s s1 s2 : S} {r r' : Rx} {R : Rel} {k k' : Bool} {x m f : Str} {dd : List D} {C : Addr}
theorem dt_of (h : DT X N W δ μ e k μ1) (q : k = k') : DT X N W δ μ e k' μ1 := q ▸ h
theorem de_of (h : DE X N W δ μ e (.v (.p d)) μ1) (q : d = d') : DE X N W δ μ e (.v (.p d')) μ1 := q ▸ h
theorem dss_ifT {A B rest : List Stmt} {o oa : Os} (h : DT X N W δ μ c true μ1) (ha : DSs X N W δ μ1 A oa) (ca : Cont X N W rest oa o) : DSs X N W δ μ (.If c A B pos :: rest) o :=
  dss_cons (ds_if h (fun _ => ha) nofun) ca
theorem dss_ifF {A B rest : List Stmt} {o oa : Os} (h : DT X N W δ μ c false μ1) (ha : DSs X N W δ μ1 B oa) (ca : Cont X N W rest oa o) : DSs X N W δ μ (.If c A B pos :: rest) o :=
  dss_cons (ds_if h nofun (fun _ => ha)) ca
theorem dss_skip {A rest : List Stmt} {o : Os} (h : DT X N W δ μ c false μ1) (ca : DSs X N W δ μ1 rest o) : DSs X N W δ μ (.If c A [] pos :: rest) o :=
  dss_ifF h dss_nil ca
theorem dss_ret (h : DE X N W δ μ e (.v s) μ1) {rest : List Stmt} : DSs X N W δ μ (.Return (some e) pos :: rest) (.rt s μ1) := dss_cons (ds_ret h) cr
theorem di_of {tg iter : Expr} {ds ds' : List D} (h : DI X N W δ μ tg iter ds μ1) (q : ds = ds') : DI X N W δ μ tg iter ds' μ1 := q ▸ h
theorem of_maps {α : Type} {nn : Nat} {scope : Scope} {elt : Expr} {f : As} {gd fy : α → D} : ∀ {l : List α}, (∀ a ∈ l, ∃ δt, f (gd a) δ = some δt ∧ DEB X N.K nn scope elt δt μ (fy a) μ) → CmpL (El0 X N.K nn scope elt) f δ (l.map gd) μ (l.map fy) μ
  | [], _ => .nil
  | a :: l, h => by
    obtain ⟨δt, h1, h2⟩ := h a List.mem_cons_self
    exact .keep h1 ⟨_, rfl, h2⟩ (of_maps fun d hd => h d (List.mem_cons_of_mem _ hd))
theorem c_allm {α : Type} {l : List α} {q : α → Bool} (g : Go X N W n) : CallOk X N W (.builtin "all") μ [.p (.lst (l.map fun a => .bl (q a)))] (.v (.p (.bl (l.all q)))) μ := by
  have h := c_all (μ := μ) g (ns := l.map q)
  rw [List.map_map, List.all_map] at h
  exact h
theorem c_summ {α : Type} {l : List α} {q : α → Int} (g : Go X N W n) : CallOk X N W (.builtin "sum") μ [.p (.lst (l.map fun a => .int (q a)))] (.v (.p (.int (l.map q).sum))) μ := by
  have h := c_sum (μ := μ) g (ns := l.map q)
  rw [List.map_map] at h
  exact h
theorem join_one {α : Type} {q : α → Nat} : ∀ l : List α, Str.join (Str.ofString "") (l.map fun a => (⟨#[q a]⟩ : Str)) = ⟨(l.map q).toArray⟩
  | [] => rfl
  | [_] => rfl
  | a :: b :: r => by
    show (⟨#[q a]⟩ : Str) ++ Str.ofString "" ++ Str.join (Str.ofString "") (List.map (fun a => (⟨#[q a]⟩ : Str)) (b :: r)) = _
    rw [join_one (b :: r)]
    show Str.append (Str.append _ _) _ = _
    have e0 : (Str.ofString "").cps = #[] := rfl
    simp [Str.append, e0]
theorem m_joinm {α : Type} {l : List α} {q : α → Nat} (hl : l.length ≤ 100) : MtOk X N W "str" "str.join" μ μ1 (.p (.str (Str.ofString ""))) [.p (.lst (l.map fun a => .str ⟨#[q a]⟩))] (.v (.p (.str ⟨(l.map q).toArray⟩))) μ1 := by
  have h := m_join (X := X) (N := N) (W := W) (μ := μ) (μ1 := μ1) (z := Str.ofString "") (ys := l.map fun a => (⟨#[q a]⟩ : Str)) (by
    have e0 : (Str.ofString "").length = 0 := rfl
    rw [e0, Nat.mul_zero, Nat.add_zero, List.map_map]
    have : ∀ l : List α, (l.map ((fun x : Str => x.length) ∘ fun a => (⟨#[q a]⟩ : Str))).sum = l.length := by
      intro l
      induction l with
      | nil => rfl
      | cons a l ih => rw [List.map_cons, List.sum_cons, ih, List.length_cons]; show 1 + _ = _; omega
    rw [this]; omega)
  rw [List.map_map] at h
  have e : Txt.join (Str.ofString "") (l.map fun a => (⟨#[q a]⟩ : Str)) = ⟨(l.map q).toArray⟩ := by
    rw [TL.join_eq]
    exact join_one l
  rw [e] at h
  exact h
end
/-! ## words, in plain terms -/
def st (L : List Nat) : Str := ⟨L.toArray⟩
def IXYZ : List Nat := [73, 88, 89, 90]
def third (a b : Nat) : Nat := if a = b then 73 else if a = 73 then b else if b = 73 then a else if a + b = 177 then 90 else if a + b = 178 then 89 else 88
def qt (a b : Nat) : Int := if (a = 88 ∧ b = 89) ∨ (a = 89 ∧ b = 90) ∨ (a = 90 ∧ b = 88) then 1 else if (a = 89 ∧ b = 88) ∨ (a = 90 ∧ b = 89) ∨ (a = 88 ∧ b = 90) then -1 else 0
def mk (a b : List Nat) : List Nat := List.zipWith third a b
def qs (a b : List Nat) : Int := (List.zipWith qt a b).sum
structure okL (L : List Nat) : Prop where
  one : 1 ≤ L.length
  four : L.length ≤ 4
  all : ∀ c ∈ L, c ∈ IXYZ
def sgn (L : List Nat) (s : Int) : Str := st (if s < 0 then 45 :: L else L)
def wd (C : Addr) (L : List Nat) (s : Int) : D := .ins C ["letters", "sign"] [.str (st L), .int s]
theorem st_len (L : List Nat) : (st L).length = L.length := by simp [st, Str.length]
theorem chars_st (L : List Nat) : chars (st L) = L.map fun c => D.str ⟨#[c]⟩ := by simp [chars, st]
theorem st_inj {L M : List Nat} : st L = st M ↔ L = M := by
  constructor
  · intro h
    have := congrArg (fun z : Str => z.cps.toList) h
    simpa [st] using this
  · rintro rfl; rfl
theorem st_app (L M : List Nat) : st L ++ st M = st (L ++ M) := by
  show Str.append _ _ = _
  simp [Str.append, st]
theorem size4 {n : Nat} (h : n ≤ 100) : n ≤ sizeLine := by rw [sizeLine_eq]; omega
theorem size4' {n : Nat} (h : n ≤ 100) : n < sizeLine := by rw [sizeLine_eq]; omega
theorem th_ok {a b : Nat} (ha : a ∈ IXYZ) (hb : b ∈ IXYZ) : third a b ∈ IXYZ := by
  simp only [IXYZ, List.mem_cons, List.not_mem_nil, or_false] at ha hb ⊢
  rcases ha with rfl | rfl | rfl | rfl <;> rcases hb with rfl | rfl | rfl | rfl <;> decide
theorem mk_len {a b : List Nat} (h : a.length = b.length) : (mk a b).length = a.length := by simp [mk, h]
theorem mk_all : ∀ {a b : List Nat}, (∀ c ∈ a, c ∈ IXYZ) → (∀ c ∈ b, c ∈ IXYZ) → ∀ c ∈ mk a b, c ∈ IXYZ
  | [], _, _, _, c, h => by simp [mk] at h
  | _ :: _, [], _, _, c, h => by simp [mk] at h
  | x :: xs, y :: ys, h1, h2, c, h => by
    simp only [mk, List.zipWith_cons_cons, List.mem_cons] at h
    rcases h with rfl | h
    · exact th_ok (h1 x (by simp)) (h2 y (by simp))
    · exact mk_all (fun c hc => h1 c (by simp [hc])) (fun c hc => h2 c (by simp [hc])) c h
theorem mk_ok {a b : List Nat} (ha : okL a) (hb : okL b) (h : a.length = b.length) : okL (mk a b) :=
  ⟨by rw [mk_len h]; exact ha.one, by rw [mk_len h]; exact ha.four, mk_all ha.all hb.all⟩
end Dl
set_option Elab.async false
set_option linter.all false
set_option maxRecDepth 100000
set_option maxHeartbeats 4000000
set_option autoImplicit false
namespace Dl
/-! ## letters by threes -/
theorem t1 : ∀ a ∈ IXYZ, third 73 a = a ∧ qt 73 a = 0 := by decide
theorem t2 : ∀ a ∈ IXYZ, ∀ b ∈ IXYZ, third (third a b) b = a ∧ qt (third a b) b = -qt a b := by decide
theorem t3 : ∀ a ∈ IXYZ, ∀ b ∈ IXYZ, ∀ c ∈ IXYZ, third (third a b) c = third a (third b c) ∧ (qt a b + qt (third a b) c - qt b c - qt a (third b c)) % 4 = 0 ∧ (qt (third a b) c - qt a c - qt b c) % 2 = 0 := by decide +kernel
/-! ## signs -/
def sg (q : Int) : Int := if q % 4 = 0 then 1 else -1
end Dl
set_option Elab.async false
set_option linter.all false
set_option maxRecDepth 100000
set_option maxHeartbeats 4000000
set_option autoImplicit false
namespace Dl
open PySem PySem.Spec PyProof.Rows L2
/-! ## the script itself -/
theorem rep_sc {K : PySem.W.Frag} {F : Hp} {v : V} {ns : List Int} (h : Rep K F v (.sc ns)) : ∃ a, v = .ref a ∧ SqL K F a (ns.map V.int) := by
  generalize hd : D.sc ns = d at h
  cases h with
  | sc h1 => cases hd; exact ⟨_, rfl, h1⟩
  | _ => cases hd
section
variable {X : Cx} {N : En} {W : WX} {n : Nat} {δ : List (Option S)} {μ : List M} {ns : List Int}
theorem c_lenSc (g : Go X N W n) : CallOk X N W (.builtin "len") μ [.p (.sc ns)] (.v (.p (.int ns.length))) μ :=
  ⟨_, call_len_seq, fun σ δ F A H vs Q R rv k => by
    obtain ⟨v, rfl, h⟩ := one_of rv
    have h' : Rep N.K F v (.sc ns) := h
    obtain ⟨a, rfl, h1⟩ := rep_sc h'
    refine ⟨a, ns.map V.int, rfl, .inl (by rw [← g.hK]; exact same_sqL R.rc.sub h1), ?_⟩
    rw [List.length_map]
    exact k.here R (.int _)⟩
theorem i_sc (g : Go X N W n) {i : Nat} {c : Int} (h : ns[i]? = some c) : IxOk X N W μ (.p (.sc ns)) (.p (.int (i : Int))) (.v (.p (.int c))) μ :=
  ⟨_, ix_list, fun σ δ F A H x y Q R rx ry k => by
    have rx' : Rep N.K F x (.sc ns) := rx
    obtain ⟨a, rfl, h1⟩ := rep_sc rx'
    exact ⟨a, ns.map V.int, (i : Int), .int c, rfl, rs_int ry, by rw [← g.hK]; exact same_sqL R.rc.sub h1, atI_nat (by rw [List.getElem?_map, h]; rfl), k.here R (.int _)⟩⟩
end
end Dl
set_option Elab.async false
set_option linter.all false
set_option maxRecDepth 100000
set_option maxHeartbeats 4000000
set_option autoImplicit false
namespace Dl
open PySem PySem.Spec PyProof.Rows L2
/-! ## == and != of own objects, as tests -/
end Dl
set_option Elab.async false
set_option linter.all false
set_option maxRecDepth 100000
set_option maxHeartbeats 4000000
set_option autoImplicit false
namespace Dl
open PySem PySem.Spec PyProof.Rows L2
/-! ## an exception that is caught and kept -/
end Dl
set_option Elab.async false
set_option linter.all false
set_option maxRecDepth 100000
set_option maxHeartbeats 4000000
set_option autoImplicit false
namespace Dl
open PySem PySem.Spec PyProof.Rows L2
/-! ## a lambda without parameters, handed to a def -/
end Dl
set_option Elab.async false
set_option linter.all false
set_option maxRecDepth 100000
set_option maxHeartbeats 4000000
set_option autoImplicit false
namespace Dl
open PySem PySem.Spec PyProof.Rows L2
end Dl
set_option Elab.async false
set_option linter.all false
set_option maxRecDepth 100000
set_option maxHeartbeats 4000000
set_option autoImplicit false
namespace Dl
open PySem PySem.Spec PyProof.Rows L2
/-! ## a def whose code object is named: a maker of lambdas -/
/-! ## what was heard: (None, what came back) or (the error, None) -/
theorem EndE.imp {N : En} {W W' : WX} {σ : L2.St} {δ : List (Option S)} {F : Hp} {A : List Addr} {μ : List M} {Q Q' : VK} {r : Rx} (k : EndE N W σ δ F A μ Q r) (hW : ∀ c d σ H, W c d σ H → W' c d σ H) (hQ : ∀ v H, Q v H → Q' v H) : EndE N W' σ δ F A μ Q' r := by
  cases r with
  | v s => exact fun v F' A' H' e p R' rv => hQ _ _ (k v F' A' H' e p R' rv)
  | x C d => exact fun dx v F' A' H' e p R' h1 h2 => hW _ _ _ _ (k dx v F' A' H' e p R' h1 h2)
end Dl
set_option Elab.async false
set_option linter.all false
set_option maxRecDepth 100000
set_option maxHeartbeats 4000000
set_option autoImplicit false
namespace Dl
open PySem PySem.Spec PyProof.Rows L2
/-! ## kept exceptions: their class, their value -/
structure XC (K : PySem.W.Frag) (C : Addr) : Prop where
  hga : PySem.W.findIn K (.ref C) "__getattribute__" = some (some (.builtin "BaseException.__getattribute__"))
  hgt : PySem.W.findIn K (.ref C) "__getattr__" = some none
  hsub : PySem.W.subIn K (.ref C) (.type "BaseException") = some true
  hd : PySem.W.hasDictIn K C = true
  ha : PySem.W.findIn K (.ref C) "__class__" = some (some (.builtin "object.__class__"))
  hn : PySem.W.specialIn K (.builtin "object.__class__") "__get__" = some (some (.builtin "getset_descriptor.__get__"))
  htk : PySem.W.takesIn K (.builtin "object.__class__") = some true
  hm : PySem.W.mroIn K C (.type "object") = some true
  nv : PySem.W.findIn K (.ref C) "value" = some none
theorem XC.cl {K : PySem.W.Frag} {C : Addr} (c : XC K C) : (PySem.W.clsIn K C).isSome = true := by
  have h := c.hd
  unfold PySem.W.hasDictIn at h
  cases e : PySem.W.clsIn K C with
  | none => rw [e] at h; cases h
  | some x => rfl
/-! ## == at depth -/
mutual
inductive PyD : D → PyData → Prop
  | non : PyD .non .none
  | bl (b) : PyD (.bl b) (.bool b)
  | int (i) : PyD (.int i) (.int i)
  | str (z) : PyD (.str z) (.str z)
  | tup {ds ps} : PyDs ds ps → PyD (.tup ds) (.tuple ps)
  | lst {ds ps} : PyDs ds ps → PyD (.lst ds) (.list ps)
inductive PyDs : List D → List PyData → Prop
  | nil : PyDs [] []
  | cons {d q ds qs} : PyD d q → PyDs ds qs → PyDs (d :: ds) (q :: qs)
end
mutual
theorem PyD.dp {K : PySem.W.Frag} {F H : Hp} (sm : Same F H) : ∀ {d : D} {q : PyData} {v : V}, PyD d q → Rep K F v d → Dp K H v q
  | _, _, _, .non, h => by cases h; exact .non
  | _, _, _, .bl b, h => by cases h; exact .bl b
  | _, _, _, .int i, h => by cases h; exact .int i
  | _, _, _, .str z, h => by cases h; exact .str z
  | _, _, _, .tup hs, h => by
    obtain ⟨a, ws, rfl, h1, h2⟩ := rep_tup h
    exact .tup (same_sqT sm h1) (PyDs.dp sm hs h2)
  | _, _, _, .lst hs, h => by
    obtain ⟨a, ws, rfl, h1, h2⟩ := rep_lst h
    exact .lst (SqL.of (sm _ _ h1)) (PyDs.dp sm hs h2)
theorem PyDs.dp {K : PySem.W.Frag} {F H : Hp} (sm : Same F H) : ∀ {ds : List D} {qs : List PyData} {vs : List V}, PyDs ds qs → Reps K F vs ds → DpAll K H vs qs
  | _, _, _, .nil, h => by cases h; exact .nil
  | _, _, _, .cons h1 h2, h => by
    cases h with
    | cons r1 r2 => exact .cons (PyD.dp sm h1 r1) (PyDs.dp sm h2 r2)
end
section
variable {X : Cx} {N : En} {W : WX} {n : Nat} {δ δ' δ1 δ2 : List (Option S)} {μ μ' μ1 μ2 μ3 : List M} {e a b c o : Expr} {es : List Expr} {ss : List S} {pos p apos : Pos} {d : D} {s s1 s2 : S} {r : Rx} {R : Rel} {k : Nat} {x m f : Str} {dd : List D} {C : Addr}
/-! ## is None -/
def isNon : D → Bool
  | .non => true
  | _ => false
theorem rep_isNon {K : PySem.W.Frag} {F : Hp} {v : V} (h : Rep K F v d) : decide (v = .non) = isNon d := by
  cases h <;> first | rfl | simp [isNon]
theorem o_isN : OpOk X N W (compareOp .Is) μ (.p d) (.p .non) (.v (.p (.bl (isNon d)))) μ :=
  ⟨_, op_isN, fun σ δ F A H x y Q R rx ry k => ⟨rs_non ry, by rw [rep_isNon (show Rep N.K F x d from rx)]; exact k.here R (.bl _)⟩⟩
theorem o_notN : OpOk X N W (compareOp .IsNot) μ (.p d) (.p .non) (.v (.p (.bl (!isNon d)))) μ :=
  ⟨_, op_notN, fun σ δ F A H x y Q R rx ry k => ⟨rs_non ry, by rw [rep_isNon (show Rep N.K F x d from rx)]; exact k.here R (.bl _)⟩⟩
/-! ## tuples and lists -/
theorem c_tupL {ds : List D} : CallOk X N W (.type "tuple") μ [.p (.lst ds)] (.v (.p (.tup ds))) μ :=
  ⟨_, call_tuple_of, fun σ δ F A H vs Q R rv k => by
    obtain ⟨v, rfl, h⟩ := one_of rv
    obtain ⟨a, ws, rfl, h1, h2⟩ := rep_lst (show Rep N.K F v (.lst ds) from h)
    refine ⟨a, ws, rfl, .inl ⟨SqL.of (R.rc.sub _ _ h1), fun p np => ?_⟩⟩
    have sm := same_updN (o := .tup ws) (R.rc.fresh np).2.1
    exact k (.ref p) _ A _ sm (List.prefix_refl _) (R.to sm (List.prefix_refl _) (R.rc.frozen np _)) (.tup (.inl (.inl upd_same)) (h2.mono sm))⟩
theorem o_eqD (g : Go X N W n) {d1 d2 : D} {p1 p2 : PyData} {q : Bool} (h1 : PyD d1 p1) (h2 : PyD d2 p2) (s1 : SeqAt.shaped p1 = true) (s2 : SeqAt.shaped p2 = true) (hq : PyData.eqv p1 p2 = q) : OpOk X N W (compareOp .Eq) μ (.p d1) (.p d2) (.v (.p (.bl q))) μ :=
  ⟨_, op_eqD (by have := g.room.un; omega), fun σ δ F A H x y Q R rx ry k => ⟨p1, p2, by rw [← g.hK]; exact h1.dp R.rc.sub rx, by rw [← g.hK]; exact h2.dp R.rc.sub ry, s1, s2, by rw [hq]; exact k.here R (.bl _)⟩⟩
end
end Dl
set_option Elab.async false
set_option linter.all false
set_option maxRecDepth 100000
set_option maxHeartbeats 4000000
set_option autoImplicit false
namespace Dl
open PySem PySem.Spec PyProof.Rows L2
/-! ## a text cut: x[:i], x[i:] -/
end Dl
set_option Elab.async false
set_option linter.all false
set_option maxRecDepth 100000
set_option maxHeartbeats 4000000
set_option autoImplicit false
namespace Dl
open PySem PySem.Spec PyProof.Rows L2
/-! ## enumerate(list) -/
def enumD : Nat → List D → List D
  | _, [] => []
  | k, d :: ds => .tup [.int (k : Int), d] :: enumD (k + 1) ds
theorem enumD_len : ∀ {ds : List D} {k : Nat}, (enumD k ds).length = ds.length
  | [], _ => rfl
  | _ :: ds, k => congrArg Nat.succ (enumD_len (ds := ds))
theorem enumD_at : ∀ {ds : List D} {k i : Nat} {d : D}, ds[i]? = some d → (enumD k ds)[i]? = some (.tup [.int ((k + i : Nat) : Int), d])
  | [], _, i, _, h => by simp at h
  | d0 :: ds, k, 0, d, h => by
    have : d0 = d := by simpa using h
    subst this
    rfl
  | d0 :: ds, k, i + 1, d, h => by
    have h' : ds[i]? = some d := by simpa using h
    have := enumD_at (k := k + 1) h'
    rw [show k + 1 + i = k + (i + 1) by omega] at this
    simpa [enumD] using this
section
variable {X : Cx} {N : En} {W : WX} {n : Nat} {δ : List (Option S)} {μ μ1 μ2 μ3 : List M} {e a b o iter tg : Expr} {es : List Expr} {pos p p2 tpos : Pos} {ds : List D} {elts : List Expr} {kk : Nat} {d : D}
theorem yl_enum {K : PySem.W.Frag} {F : Hp} {a : Addr} {vs : List V} (h : F a = some (.lst vs)) (r : Reps K F vs ds) : Yl K (Ite K a) F (enumD 0 ds) := by
  unfold Yl
  rw [enumD_len, ← r.length]
  refine Walk.mono (walk_enum (xs := vs)) (fun H e => SqL.of (e _ _ h)) fun i H x H' _ _ ⟨T, u, v, h1, h2, h3, h4, h5⟩ => ?_
  obtain ⟨d, h6, h7⟩ := r.get' h5
  have h4' : V.int (i : Nat) = u := by simpa using h4
  subst h4'
  refine ⟨_, enumD_at h6, .inr (.inl ⟨T, _, _, h1, h2, h3, rfl, .cons ?_ (.cons h7 .nil)⟩)⟩
  rw [Nat.zero_add]
  exact .int _
theorem di_enum (g : Go X N W n) (ha : DA X N W δ μ [e] [.p (.lst ds)] μ1) (hm : X.mg "enumerate" = none) (hg : Gl X "enumerate" := by rfl) (hs : starEach [e] X.env = [(false, eval e X.env)] := by rfl) :
    DI X N W δ μ (.Tuple elts kk tpos) (.Call (.Name "enumerate" p) [e] [] pos) (enumD 0 ds) μ1 :=
  PI.imp (pi_enum hg hm ha hs) fun σ H Rk ⟨F, A, R, k⟩ => ⟨F, A, R, fun vs F1 A1 H1 e1 p1 R1 rv => by
    cases rv with
    | cons r1 r2 =>
      cases r2
      have hK := g.hK
      rw [← hK]
      obtain ⟨a, ws, rfl, h1, h2⟩ := rep_lst (show Rep N.K F1 _ (.lst ds) from r1)
      exact ⟨a, ws, rfl, SqL.of (R1.rc.sub _ _ h1), k _ F1 A1 H1 e1 p1 R1 (yl_enum h1 h2)⟩⟩
/-! ## a list taken apart -/
def asLst (fs : List As) : As := fun d δ => match d with
  | .lst ds => asAll fs ds δ
  | _ => none
theorem dg_lst {ts : List Expr} {kk : Nat} {fs : List As} {ix : List Nat} (h : DGs X N ts fs ix) (hK : N.K = X.K) (hc : X.calm = true) (hn : (assignEach ts X.env).length = fs.length := by rfl) (hst : (assignEach ts X.env).findIdx? (·.1) = none := by rfl) : DG X N (.Tuple ts kk pos) (asLst fs) ix :=
  PG.imp (pg_unl hc h hn hst) fun v σ H Q ⟨F, A, δ, μ, d, δ', R, rv, hf, k⟩ => by
    cases d with
    | lst ds =>
      obtain ⟨a, vs, rfl, h1, h2⟩ := rep_lst rv
      refine ⟨a, vs, rfl, SqL.of (R.rc.sub _ _ h1), ?_, F, A, δ, μ, ds, δ', R, h2, hf, k⟩
      rw [h2.length]
      exact asAll_len hf
    | _ => cases hf
/-! ## a dict of the module with text keys -/
theorem rep_adr {K : PySem.W.Frag} {F : Hp} {v : V} {a : Addr} (h : Rep K F v (.adr a)) : v = .ref a := by
  generalize hd : D.adr a = d at h
  cases h with
  | adr a => cases hd; rfl
  | _ => cases hd
theorem o_inKd {dt : Addr} {ents : Array DictEntry} {m : Nat} {z : Str} {r : Option Value} (D : KDict X.K X.w dt ents m) (h : PySem.W.nsIn X.K dt z = some r) : OpOk X N W (compareOp .In) μ (.p (.str z)) (.p (.adr dt)) (.v (.p (.bl r.isSome))) μ :=
  ⟨_, op_in_kd D, fun σ δ F A H x y Q R rx ry k => by
    cases (show Rep N.K F x (.str z) from rx)
    exact ⟨z, r, rfl, rep_adr ry, h, k.here R (.bl _)⟩⟩
theorem o_notInKd {dt : Addr} {ents : Array DictEntry} {m : Nat} {z : Str} {r : Option Value} (D : KDict X.K X.w dt ents m) (h : PySem.W.nsIn X.K dt z = some r) : OpOk X N W (compareOp .NotIn) μ (.p (.str z)) (.p (.adr dt)) (.v (.p (.bl (!r.isSome)))) μ :=
  ⟨_, op_notIn_kd D, fun σ δ F A H x y Q R rx ry k => by
    cases (show Rep N.K F x (.str z) from rx)
    exact ⟨z, r, rfl, rep_adr ry, h, k.here R (.bl _)⟩⟩
theorem reps_all {K : PySem.W.Frag} {F : Hp} {A : List Addr} : ∀ {vs : List V} {ds : List D}, Reps K F vs ds → RepSs K F A vs (ds.map S.p)
  | _, _, .nil => .nil
  | _, _, .cons h t => .cons h (reps_all t)
/-! ## [*xs, ..] -/
theorem dp_star {ds es' : List D} {es : List Expr} (h : DE X N W δ μ e (.v (.p (.lst ds))) μ1) (h' : DP X N W δ μ1 es es' μ2) (hK : N.K = X.K) (hs : starEach (.Starred e p :: es) X.env = (true, eval e X.env) :: starEach es X.env := by rfl) : DP X N W δ μ (.Starred e p :: es) (ds ++ es') μ2 :=
  PA.imp (StX.pa_star h h' hs) fun σ H Q ⟨F, A, R, k⟩ => ⟨F, A, R, fun v F1 A1 H1 e1 p1 R1 rv => by
    obtain ⟨a, vs, rfl, h1, h2⟩ := rep_lst rv
    have hK' := hK
    rw [← hK]
    refine ⟨a, vs, rfl, .inr (SqL.of (R1.rc.sub _ _ h1)), F1, A1, R1, fun ws F2 A2 H2 e2 p2 R2 rw2 => ?_⟩
    exact k (vs ++ ws) F2 A2 H2 (e1.trans e2) (p1.trans p2) R2 (by rw [List.map_append]; exact RepSs.append (reps_all (h2.mono e2)) rw2)⟩
end
end Dl
set_option Elab.async false
set_option linter.all false
set_option maxRecDepth 100000
set_option maxHeartbeats 4000000
set_option autoImplicit false
namespace Dl
open PySem PySem.Spec PyProof.Rows L2
/-! ## a, .., *rest = a list -/
theorem unp_rest {P : Program} {w : World} {A : Around} {E : Value → Shared → Prop} {s : Shared} {l : Addr} {its : Array Value} {i : Nat} {Q : List Value → Shared → Prop} (hL : s.heap.IsList l its) (hd : A.handled = none) (hi : i ≤ its.size) (few : its.size ≤ sizeLine)
    (h : ∀ (h2 : Heap) (tk : Nat), (∀ b o, s.heap.get? b = some o → h2.get? b = some o) → Q (its.toList.take i ++ [.ref h2.objs.size]) { s with heap := h2.push { cls := .type "list", data := .seq (its.toList.drop i).toArray }, toks := tk }) :
    wpAny (model P w) A (unpackItems (.ref l) (i + 1) (some i)) Q E s := by
  obtain ⟨ol, atl, rest⟩ := hL
  have hL : s.heap.IsList l its := ⟨ol, atl, rest⟩
  have old := Heap.lt_size atl
  have apart : l ≠ s.heap.objs.size := Nat.ne_of_lt old
  have cnt : (its.toList.take i).length = i := by rw [List.length_take, Array.length_toList]; omega
  unfold unpackItems notIterableAtAll
  refine wpAny_bind (wpAny_bind (wpAny_specialOf (hL.typeIs) (PySem.F.slot_list_iter.lookup) (wpAny_pure ?_)))
  rw [if_neg (by decide)]
  refine wpAny_bind (wpAny_holding (wpAny_pyIter_list hL ?_))
  refine wpAny_bind (wpAny_holding (PySem.W.kun_draw (items := its) apart i 0 _ _ ⟨_, Heap.get?_push_size _ rfl, rfl, rfl⟩ (hL.push _) (by omega) fun g1 it1 sb1 => ?_))
  rw [Nat.zero_add] at it1
  rw [List.drop_zero, if_neg (by rw [cnt]; omega)]
  have lst1 : g1.IsList l its := (hL.push _).extBut sb1.extBut apart
  have lt1 : s.heap.objs.size < g1.objs.size := by obtain ⟨o, q, _⟩ := it1; exact Heap.lt_size q
  have lt2 : l < g1.objs.size := by obtain ⟨o, q, _⟩ := lst1; exact Heap.lt_size q
  refine wpAny_bind (wpAny_holding (PySem.W.kun_collect (s := { s with heap := g1 }) (T := "list_iterator") (.inr (.inr (.inl rfl))) (Walks.list (A := A.in1) hd s.heap.objs.size l apart its) (fun j u st => st.1.typeIs) (k := i) hi ⟨it1, lst1⟩ lt1 lt2 (fun g2 tk k2 => ?_) few))
  rw [show i + 1 - 1 - i = 0 by omega, if_neg (Nat.not_lt_zero _)]
  refine wpAny_bind (wpAny_newList ?_)
  refine wpAny_pure ?_
  rw [Nat.sub_zero, List.take_of_length_le (Nat.le_refl _), List.drop_of_length_le (Nat.le_refl _), List.append_nil]
  exact h g2 tk fun b o q => k2 b o (Nat.ne_of_lt (Heap.lt_size q)) (sb1.extBut b o (Nat.ne_of_lt (Heap.lt_size q)) (Heap.get?_push_of_some _ q))
def gStr (K : PySem.W.Frag) (i : Nat) (t : TGs) : TG := fun v σ H Q => ∃ a xs, v = .ref a ∧ SqL K H a xs ∧ i ≤ xs.length ∧ ∀ p, H p = none → t (xs.take i ++ [.ref p]) σ (upd H p (.lst (xs.drop i))) Q
theorem pg_star {X : Cx} {es : List Expr} {k i : Nat} {t : TGs} {pos : Pos} (hc : X.calm = true) (h : PGs X es t) (hn : (assignEach es X.env).length = i + 1 := by rfl) (hst : (assignEach es X.env).findIdx? (·.1) = some i := by rfl) : PG X (.Tuple es k pos) (gStr X.K i t) := by
  refine ⟨fun pins s σ H v u Q I r ⟨a, xs, ev, hq, hl, hw⟩ => ?_⟩
  subst ev
  cases r
  obtain ⟨its, rv, pl, hz⟩ := I.list hq
  have hsz : its.toArray.size = xs.length := by rw [List.size_toArray, rv.length]
  rw [PyProof.Rows.assign_Tuple]
  refine wpAny_bind (wpAny_standAt ?_)
  unfold unpack
  rw [hn, hst]
  refine wpAny_bind (wpAny_holding (unp_rest pl.isList (I.ok.hd hc) (by rw [hsz]; exact hl) (by rw [hsz]; exact hz) fun h2 tk k2 => ?_))
  have I2 : Inv X pins σ H { s with heap := h2, toks := tk } := I.kept (t' := tk) k2
  have fr := I2.hok.fresh (Nat.le_refl _)
  have I3 := I2.laid (a := h2.objs.size) (o := .lst (xs.drop i)) (t' := tk) (h' := h2.push { cls := .type "list", data := .seq (its.drop i).toArray }) (fun b u q => Heap.get?_push_of_some _ q) (Nat.le_refl _) ⟨by rw [List.length_drop]; omega, _, 0, rv.drop i, Heap.get?_push_size _ rfl⟩
  exact h.run pins _ σ _ _ _ Q I3 (by
    have := rv.take i
    simpa using Vals.append this (Paired.cons (a := V.ref h2.objs.size) (b := Value.ref h2.objs.size) rfl .nil)) (hw h2.objs.size fr)
section
variable {X : Cx} {N : En} {W : WX} {n : Nat} {δ δ1 : List (Option S)} {μ μ1 μ2 μ3 : List M} {pos tpos : Pos} {e : Expr}
/-- a, .., *rest = e, e a list -/
theorem ds_star (i : Nat) {ts : List Expr} {kk : Nat} {fs : List As} {ix : List Nat} {ds : List D} (g : Go X N W n) (he : DE X N W δ μ e (.v (.p (.lst ds))) μ1) (h : DGs X N ts fs ix) (hl : i ≤ ds.length) (hf : asAll fs (ds.take i ++ [.lst (ds.drop i)]) δ = some δ1) (hn : (assignEach ts X.env).length = i + 1 := by rfl) (hst : (assignEach ts X.env).findIdx? (·.1) = some i := by rfl)
    (hs : swapsWithSole [.Tuple ts kk tpos] e pos.line X.env = pure false := by rfl) (hw : swappedStores [.Tuple ts kk tpos] e X.env = pure none := by rfl)
    (h1 : (assignEach [.Tuple ts kk tpos] X.env).map (·.2) = [assign (.Tuple ts kk tpos) X.env] := by rfl) : DS X N W δ μ (.Assign [.Tuple ts kk tpos] e pos) (.nx δ1 μ1) :=
  PS.imp (ps_asg he (pg_star g.calm h hn hst) hs hw h1) fun K σ H ⟨F, A, R, k⟩ => ⟨F, A, R, fun v F1 A1 H1 e1 p1 R1 rv => by
    obtain ⟨a, vs, rfl, h1, h2⟩ := rep_lst rv
    refine ⟨a, vs, rfl, ?_, by rw [h2.length]; exact hl, fun p np => ?_⟩
    · rw [← g.hK]; exact SqL.of (R1.rc.sub _ _ h1)
    have sm := same_updN (o := .lst (vs.drop i)) (R1.rc.fresh np).2.1
    have R2 := R1.to sm (List.prefix_refl _) (R1.rc.frozen np (.lst (vs.drop i)))
    refine ⟨_, A1, δ, μ1, _, δ1, R2, Reps.append ((h2.take i).mono sm) (.cons (.lst upd_same ((h2.drop i).mono sm)) .nil), hf, fun σ' hw R3 => ?_⟩
    exact k σ' _ A1 _ (e1.trans sm) p1 R3⟩
end
end Dl
set_option Elab.async false
set_option linter.all false
set_option maxRecDepth 100000
set_option maxHeartbeats 4000000
set_option autoImplicit false
namespace Dl
open PySem PySem.Spec PyProof.Rows L2
/-! ## lists cut: xs[lo:hi], xs[lo:hi:step] -/
def cutX {α : Type} (xs : List α) (lo hi : Option Int) : List α := (xs.drop (HT.sIx xs.length 0 lo)).take (HT.sIx xs.length xs.length hi - HT.sIx xs.length 0 lo)
theorem Reps.cut {K : PySem.W.Frag} {F : Hp} {vs : List V} {ds : List D} (r : Reps K F vs ds) (lo hi : Option Int) : Reps K F (cutV vs lo hi) (cutX ds lo hi) := by
  unfold cutV cutX
  rw [r.length]
  exact (r.drop _).take _
theorem sIx_nat (n d i : Nat) : HT.sIx n d (some (i : Int)) = min i n := by
  show (if (i : Int) < 0 then ((i : Int) + (n : Int)).toNat else min (i : Int).toNat n) = _
  rw [if_neg (by omega), Int.toNat_natCast]
theorem sIx_no (n d : Nat) : HT.sIx n d none = d := rfl
theorem cutX_from {α : Type} (xs : List α) (i : Nat) : cutX xs (some (i : Int)) none = xs.drop i := by
  unfold cutX
  rw [sIx_nat, sIx_no]
  rcases Nat.le_total i xs.length with h | h
  · rw [Nat.min_eq_left h, List.take_of_length_le (by simp)]
  · rw [Nat.min_eq_right h, List.drop_of_length_le (Nat.le_refl _), List.drop_of_length_le h]
    simp
theorem cutX_to {α : Type} (xs : List α) (i : Nat) : cutX xs none (some (i : Int)) = xs.take i := by
  unfold cutX
  rw [sIx_nat, sIx_no, List.drop_zero, Nat.sub_zero]
  rcases Nat.le_total i xs.length with h | h
  · rw [Nat.min_eq_left h]
  · rw [Nat.min_eq_right h, List.take_of_length_le (Nat.le_refl _), List.take_of_length_le h]
theorem cutX_mid {α : Type} (xs : List α) (i j : Nat) : cutX xs (some (i : Int)) (some (j : Int)) = (xs.drop i).take (j - i) := by
  unfold cutX
  rw [sIx_nat, sIx_nat]
  rcases Nat.le_total i xs.length with h | h
  · rw [Nat.min_eq_left h]
    rcases Nat.le_total j xs.length with h2 | h2
    · rw [Nat.min_eq_left h2]
    · rw [Nat.min_eq_right h2, List.take_of_length_le (by simp), List.take_of_length_le (by simp; omega)]
  · rw [Nat.min_eq_right h, List.drop_of_length_le (Nat.le_refl _), List.drop_of_length_le h]
    simp
section
variable {X : Cx} {N : En} {W : WX} {n : Nat} {δ : List (Option S)} {μ μ1 μ2 μ3 : List M} {e a b o iter tg : Expr} {es : List Expr} {pos p p2 tpos : Pos} {ds : List D} {d : D} {i j : Int} {lo hi : Option Int}
theorem end_cut {σ : L2.St} {F : Hp} {A : List Addr} {H : Hp} {Q : VK} {v : V} (g : Go X N W n) (R : Rl N F A H σ δ μ) (rv : Rep N.K F v (.lst ds)) (k : EndE N W σ δ F A μ Q (.v (.p (.lst (cutX ds lo hi))))) : rSlL X.K v lo hi H Q := by
  obtain ⟨a, vs, rfl, h1, h2⟩ := rep_lst rv
  refine ⟨a, vs, rfl, by rw [← g.hK]; exact SqL.of (R.rc.sub _ _ h1), fun p np => ?_⟩
  have sm := same_updN (o := .lst (cutV vs lo hi)) (R.rc.fresh np).2.1
  exact k (.ref p) _ A _ sm (List.prefix_refl _) (R.to sm (List.prefix_refl _) (R.rc.frozen np _)) (.lst upd_same ((h2.cut lo hi).mono sm))
/-- xs[i:] -/
theorem de_cutLf (g : Go X N W n) (he : DE X N W δ μ e (.v (.p (.lst ds))) μ1) (ha : DE X N W δ μ1 a (.v (.p (.int i))) μ2) : DE X N W δ μ (.Subscript e (.Slice (some a) none none p2) pos) (.v (.p (.lst (cutX ds (some i) none)))) μ2 :=
  PE.imp (pe_slice sl_list he (po_some ha) po_none) fun σ H Q ⟨F, A, R0, k⟩ => ⟨F, A, R0, fun v F1 A1 H1 e1 a1 R1 rv => by
    refine ⟨F1, A1, R1, fun v2 F2 A2 H2 e2 a2 R2 rv2 => ?_⟩
    cases (show Rep N.K F2 v2 (.int i) from rv2)
    exact ⟨i, rfl, end_cut g R2 (Rep.mono e2 rv) (k.to (e1.trans e2) (a1.trans a2))⟩⟩
/-- xs[:i] -/
theorem de_cutLt (g : Go X N W n) (he : DE X N W δ μ e (.v (.p (.lst ds))) μ1) (ha : DE X N W δ μ1 a (.v (.p (.int i))) μ2) : DE X N W δ μ (.Subscript e (.Slice none (some a) none p2) pos) (.v (.p (.lst (cutX ds none (some i))))) μ2 :=
  PE.imp (pe_slice sl_list he po_none (po_some ha)) fun σ H Q ⟨F, A, R0, k⟩ => ⟨F, A, R0, fun v F1 A1 H1 e1 a1 R1 rv => by
    refine ⟨F1, A1, R1, fun v2 F2 A2 H2 e2 a2 R2 rv2 => ?_⟩
    cases (show Rep N.K F2 v2 (.int i) from rv2)
    exact ⟨i, rfl, end_cut g R2 (Rep.mono e2 rv) (k.to (e1.trans e2) (a1.trans a2))⟩⟩
/-- xs[i:j] -/
theorem de_cutLm (g : Go X N W n) (he : DE X N W δ μ e (.v (.p (.lst ds))) μ1) (ha : DE X N W δ μ1 a (.v (.p (.int i))) μ2) (hb : DE X N W δ μ2 b (.v (.p (.int j))) μ3) : DE X N W δ μ (.Subscript e (.Slice (some a) (some b) none p2) pos) (.v (.p (.lst (cutX ds (some i) (some j))))) μ3 :=
  PE.imp (pe_slice sl_list he (po_some ha) (po_some hb)) fun σ H Q ⟨F, A, R0, k⟩ => ⟨F, A, R0, fun v F1 A1 H1 e1 a1 R1 rv => by
    refine ⟨F1, A1, R1, fun v2 F2 A2 H2 e2 a2 R2 rv2 => ?_⟩
    cases (show Rep N.K F2 v2 (.int i) from rv2)
    refine ⟨i, rfl, F2, A2, R2, fun v3 F3 A3 H3 e3 a3 R3 rv3 => ?_⟩
    cases (show Rep N.K F3 v3 (.int j) from rv3)
    exact ⟨j, rfl, end_cut g R3 (Rep.mono (e2.trans e3) rv) (k.to ((e1.trans e2).trans e3) ((a1.trans a2).trans a3))⟩⟩
end
/-! ## .. with a step -/
def pickX {α : Type} (xs : List α) (lo hi st : Option Int) : List α := (sliceRange (sliceBounds lo hi st xs.length).1 (sliceBounds lo hi st xs.length).2.1 (sliceBounds lo hi st xs.length).2.2).filterMap (xs[·]?)
theorem pick_arr (its : List Value) (lo hi st : Option Int) : slicePick its.toArray lo hi st = (pickX its lo hi st).toArray := by
  unfold slicePick pickX
  simp
theorem pick_rel {xs : List V} {ys : List Value} (r : Vals xs ys) (is : List Nat) : Vals (is.filterMap (xs[·]?)) (is.filterMap (ys[·]?)) := by
  induction is with
  | nil => exact .nil
  | cons i is ih =>
    rw [List.filterMap_cons, List.filterMap_cons]
    cases hx : xs[i]? with
    | none =>
      have hy : ys[i]? = none := by
        rw [List.getElem?_eq_none_iff] at hx ⊢
        rw [← r.length]
        exact hx
      simp only [hy]
      exact ih
    | some x =>
      obtain ⟨y, hy, hr⟩ := r.get hx
      simp only [hy]
      exact .cons hr ih
theorem Vals.pick {vs : List V} {us : List Value} (r : Vals vs us) (lo hi st : Option Int) : Vals (pickX vs lo hi st) (pickX us lo hi st) := by
  unfold pickX
  rw [r.length]
  exact pick_rel r _
theorem Reps.pick {K : PySem.W.Frag} {F : Hp} {vs : List V} {ds : List D} (r : Reps K F vs ds) (lo hi st : Option Int) : Reps K F (pickX vs lo hi st) (pickX ds lo hi st) := by
  unfold pickX
  rw [r.length]
  generalize sliceRange (sliceBounds lo hi st ds.length).1 (sliceBounds lo hi st ds.length).2.1 (sliceBounds lo hi st ds.length).2.2 = is
  induction is with
  | nil => exact .nil
  | cons i is ih =>
    rw [List.filterMap_cons, List.filterMap_cons]
    cases hx : vs[i]? with
    | none =>
      have hy : ds[i]? = none := by
        rw [List.getElem?_eq_none_iff] at hx ⊢
        rw [← r.length]
        exact hx
      simp only [hy]
      exact ih
    | some x =>
      obtain ⟨y, hy, hr⟩ := r.get' hx
      simp only [hy]
      exact .cons hr ih
def evens {α : Type} : List α → List α
  | [] => []
  | [a] => [a]
  | a :: _ :: r => a :: evens r
theorem evens_at {α : Type} : ∀ (xs : List α), (List.range ((xs.length + 1) / 2)).filterMap (fun k => xs[2 * k]?) = evens xs
  | [] => by simp [evens]
  | [a] => by simp [evens, List.range_succ]
  | a :: b :: r => by
    have e : ((a :: b :: r).length + 1) / 2 = (r.length + 1) / 2 + 1 := by simp; omega
    rw [e, List.range_succ_eq_map, List.filterMap_cons]
    show a :: _ = a :: evens r
    rw [List.filterMap_map]
    congr 1
    rw [← evens_at r]
    congr 1
theorem pick_even {α : Type} (xs : List α) : pickX xs none none (some 2) = evens xs := by
  unfold pickX sliceBounds sliceRange
  simp only [Option.getD_some, show (2 : Int) > 0 by decide, if_true]
  rw [← evens_at xs]
  rw [List.filterMap_map]
  have e : (if (0 : Int) < (xs.length : Int) then ((xs.length : Int) - 0 + 2 - 1) / 2 else 0).toNat = (xs.length + 1) / 2 := by
    split
    · omega
    · omega
  rw [e]
  congr 1
  funext k
  show xs[((0 : Int) + 2 * (k : Int)).toNat]? = xs[2 * k]?
  rw [show ((0 : Int) + 2 * (k : Int)).toNat = 2 * k by omega]
theorem pick_odd {α : Type} (xs : List α) : pickX xs (some 1) none (some 2) = evens (xs.drop 1) := by
  unfold pickX sliceBounds sliceRange
  simp only [Option.getD_some, show (2 : Int) > 0 by decide, if_true, show ¬ (1 : Int) < 0 by decide, if_false]
  rw [← evens_at (xs.drop 1)]
  rw [List.filterMap_map, List.length_drop]
  cases xs with
  | nil => simp
  | cons a r =>
    have m : max (0 : Int) (min 1 ((a :: r).length : Int)) = 1 := by simp; omega
    rw [m]
    have e : (if (1 : Int) < ((a :: r).length : Int) then (((a :: r).length : Int) - 1 + 2 - 1) / 2 else 0).toNat = ((a :: r).length - 1 + 1) / 2 := by
      simp only [List.length_cons]
      split
      · omega
      · omega
    rw [e]
    congr 1
    funext k
    show (a :: r)[((1 : Int) + 2 * (k : Int)).toNat]? = r[2 * k]?
    rw [show ((1 : Int) + 2 * (k : Int)).toNat = 2 * k + 1 by omega, List.getElem?_cons_succ]
section
variable {X : Cx} {e st : Expr} {te : TE} {lo hi : Option Expr} {tl th tc : TO} {pos p2 : Pos}
theorem pe_slice3 (he : PE X e te) (hl : PO X lo tl) (hu : PO X hi th) (hc : PO X (some st) tc) : PE X (.Subscript e (.Slice lo hi (some st) p2) pos) (fun σ H Q => te σ H fun x H1 => tl σ H1 fun l H2 => th σ H2 fun u H3 => tc σ H3 fun c H4 => ∃ a xs, x = .ref a ∧ SqL X.K H4 a xs ∧ c ≠ some 0 ∧ (pickX xs l u c).length ≤ sizeLine ∧ ∀ p, H4 p = none → Q (.ref p) (upd H4 p (.lst (pickX xs l u c)))) := by
  refine ⟨fun pins s σ H Q I h => ?_⟩
  refine Subscript_ (thn (he.run pins s σ H _ I h) fun v s1 ⟨x, H1, I1, r1, q1⟩ => ?_)
  refine wpAny_Slice (thn (hl.run pins s1 σ H1 _ I1 q1) fun vl s2 ⟨l, H2, I2, pl, q2⟩ => thn (hu.run pins s2 σ H2 _ I2 q2) fun vu s3 ⟨u, H3, I3, pu, q3⟩ => thn (hc.run pins s3 σ H3 _ I3 q3) fun vc s4 ⟨c, H4, I4, pc, q4⟩ => ?_)
  have I5 : Inv X pins σ H4 { s4 with heap := s4.heap.push { cls := .type "slice", data := .fields #[vl, vu, vc] } } := I4.kept (t' := s4.toks) fun b ob q => Heap.get?_push_of_some _ q
  obtain ⟨a, xs, rfl, hx, h0, hz2, q⟩ := q4
  cases r1
  obtain ⟨its, r, ht, hz⟩ := I5.list hx
  have hlen := r.length
  have z : wpAny (model X.prog X.w) X.A (getItem (.ref a) (.ref s4.heap.objs.size)) (EP X pins σ Q) X.xe { s4 with heap := s4.heap.push { cls := .type "slice", data := .fields #[vl, vu, vc] } } := by
    refine wpAny_getItem_list_slice ht.isList (Heap.IsSliceOf.new ..) pl pu pc h0 ?_ (by rw [List.size_toArray] <;> omega)
    rw [pick_arr]
    exact ⟨.ref (s4.heap.push { cls := .type "slice", data := .fields #[vl, vu, vc] }).objs.size, _, I5.laid (t' := s4.toks) (o := .lst (pickX xs l u c)) (fun b ob q => Heap.get?_push_of_some _ q) (Nat.le_refl _) ⟨hz2, _, 0, Vals.pick r l u c, Heap.get?_push_size _ rfl⟩, rfl, q _ (I5.hok.fresh (Nat.le_refl _))⟩
  show wpAny (model X.prog X.w) X.A (subscriptTail e (.Slice lo hi (some st) p2) (.ref a) (.ref s4.heap.objs.size)) (EP X pins σ Q) X.xe { s4 with heap := s4.heap.push { cls := .type "slice", data := .fields #[vl, vu, vc] } }
  exact tail_any (ops := [.ref a, .ref s4.heap.objs.size]) ht.isList.typeIs PySem.F.slot_list_getitem.lookup z (by with_unfolding_all rfl)
end
section
variable {X : Cx} {N : En} {W : WX} {n : Nat} {δ : List (Option S)} {μ μ1 : List M} {e : Expr} {pos p2 p3 p4 : Pos} {ds : List D} {k3 k4 : Nat}
theorem evens_len {α : Type} : ∀ xs : List α, (evens xs).length ≤ xs.length
  | [] => Nat.le_refl _
  | [_] => Nat.le_refl _
  | _ :: _ :: r => by
    have := evens_len r
    simp [evens]
    omega
/-- xs[::2] -/
theorem de_even (g : Go X N W n) (he : DE X N W δ μ e (.v (.p (.lst ds))) μ1) (hl : ds.length ≤ 100000) : DE X N W δ μ (.Subscript e (.Slice none none (some (.Constant (.int 2) k3 p3)) p2) pos) (.v (.p (.lst (evens ds)))) μ1 :=
  PE.imp (pe_slice3 he po_none po_none (po_some pe_int)) fun σ H Q ⟨F, A, R0, k⟩ => ⟨F, A, R0, fun v F1 A1 H1 e1 a1 R1 rv => by
    obtain ⟨a, vs, rfl, h1, h2⟩ := rep_lst rv
    have hv := evens_len vs
    have hv2 := h2.length
    refine ⟨2, rfl, a, vs, rfl, by rw [← g.hK]; exact SqL.of (R1.rc.sub _ _ h1), by decide, by rw [pick_even, sizeLine_eq]; omega, fun p np => ?_⟩
    have sm := same_updN (o := .lst (pickX vs none none (some 2))) (R1.rc.fresh np).2.1
    refine k (.ref p) _ A1 _ (e1.trans sm) a1 (R1.to sm (List.prefix_refl _) (R1.rc.frozen np _)) (.lst upd_same ?_)
    have := (Reps.pick h2 none none (some 2)).mono sm
    rw [pick_even ds] at this
    exact this⟩
/-- xs[1::2] -/
theorem de_odd (g : Go X N W n) (he : DE X N W δ μ e (.v (.p (.lst ds))) μ1) (hl : ds.length ≤ 100000) : DE X N W δ μ (.Subscript e (.Slice (some (.Constant (.int 1) k4 p4)) none (some (.Constant (.int 2) k3 p3)) p2) pos) (.v (.p (.lst (evens (ds.drop 1))))) μ1 :=
  PE.imp (pe_slice3 he (po_some pe_int) po_none (po_some pe_int)) fun σ H Q ⟨F, A, R0, k⟩ => ⟨F, A, R0, fun v F1 A1 H1 e1 a1 R1 rv => by
    obtain ⟨a, vs, rfl, h1, h2⟩ := rep_lst rv
    have hv := evens_len (vs.drop 1)
    have hv2 := h2.length
    refine ⟨1, rfl, 2, rfl, a, vs, rfl, by rw [← g.hK]; exact SqL.of (R1.rc.sub _ _ h1), by decide, by rw [pick_odd, sizeLine_eq]; rw [List.length_drop] at hv; omega, fun p np => ?_⟩
    have sm := same_updN (o := .lst (pickX vs (some 1) none (some 2))) (R1.rc.fresh np).2.1
    refine k (.ref p) _ A1 _ (e1.trans sm) a1 (R1.to sm (List.prefix_refl _) (R1.rc.frozen np _)) (.lst upd_same ?_)
    have := (Reps.pick h2 (some 1) none (some 2)).mono sm
    rw [pick_odd ds] at this
    exact this⟩
end
end Dl
set_option Elab.async false
set_option linter.all false
set_option maxRecDepth 100000
set_option maxHeartbeats 4000000
set_option autoImplicit false
namespace Dl
open PySem PySem.Spec PyProof.Rows L2
/-! ## one < other: texts, pairs of a text and an int; in a tuple of texts; range with a step -/
def sltB (a b : Str) : Bool := decide (a.cps.toList < b.cps.toList)
def pltB (p q : Str × Int) : Bool := PySem.W.DatumOrd.lt p q
theorem op_ltP {X : Cx} (hu : X.A.units + 64 < cLine) : OpR X (compareOp .Lt) (fun x y H Q => ∃ (p q : Str × Int), Dp X.K H x (.tuple [.str p.1, .int p.2]) ∧ Dp X.K H y (.tuple [.str q.1, .int q.2]) ∧ Q (.bl (pltB p q)) H) := by
  intro pins s σ H x y v u Q I rx ry ⟨p, q, h1, h2, k⟩
  obtain ⟨as, r1⟩ := Dp.reads I _ x v h1 rx
  obtain ⟨bs, r2⟩ := Dp.reads I _ y u h2 ry
  exact PySem.W.lt_datum (x := p) (y := q) ⟨as, r1⟩ ⟨bs, r2⟩ (Nat.lt_of_le_of_lt (Nat.add_le_add_left (by decide) _) hu) ⟨.bl _, H, I, rfl, k⟩
section
variable {X : Cx} {N : En} {W : WX} {n : Nat} {δ : List (Option S)} {μ μ1 : List M} {a b c tg : Expr} {p pos : Pos}
theorem o_ltS {i j : Str} : OpOk X N W (compareOp .Lt) μ (.p (.str i)) (.p (.str j)) (.v (.p (.bl (sltB i j)))) μ :=
  ⟨_, op_lt_str, fun σ δ F A H x y Q R rx ry k => by
    cases (show Rep N.K F x (.str i) from rx)
    cases (show Rep N.K F y (.str j) from ry)
    exact ⟨i, j, rfl, rfl, k.here R (.bl _)⟩⟩
def pairD (p : Str × Int) : D := .tup [.str p.1, .int p.2]
theorem o_ltP (g : Go X N W n) {p q : Str × Int} : OpOk X N W (compareOp .Lt) μ (.p (pairD p)) (.p (pairD q)) (.v (.p (.bl (pltB p q)))) μ :=
  ⟨_, op_ltP (by have := g.room.un; omega), fun σ δ F A H x y Q R rx ry k => by
    have pd : ∀ p : Str × Int, PyD (pairD p) (.tuple [.str p.1, .int p.2]) := fun p => .tup (.cons (.str _) (.cons (.int _) .nil))
    exact ⟨p, q, by rw [← g.hK]; exact (pd p).dp R.rc.sub rx, by rw [← g.hK]; exact (pd q).dp R.rc.sub ry, k.here R (.bl _)⟩⟩
/-- a text in a tuple of texts -/
theorem strs_vals {K : PySem.W.Frag} {F : Hp} : ∀ {zs : List Str} {vs : List V}, Reps K F vs (zs.map D.str) → vs = zs.map V.str
  | [], _, h => by cases h; rfl
  | z :: zs, _, h => by
    cases h with
    | cons r t =>
      cases (show Rep K F _ (.str z) from r)
      rw [strs_vals t]
      rfl
theorem inV_strs (z : Str) : ∀ zs : List Str, inV (.str z) (zs.map V.str) = decide (z ∈ zs)
  | [] => rfl
  | y :: zs => by
    have := inV_strs z zs
    unfold inV at *
    rw [List.map_cons, List.any_cons, this]
    show ((y == z) || decide (z ∈ zs)) = decide (z ∈ y :: zs)
    by_cases h : z = y
    · subst h; simp
    · have h' : ¬ y = z := fun q => h q.symm
      simp [h, h']
theorem o_inStrT (g : Go X N W n) {z : Str} {zs : List Str} : OpOk X N W (compareOp .In) μ (.p (.str z)) (.p (.tup (zs.map D.str))) (.v (.p (.bl (decide (z ∈ zs))))) μ :=
  ⟨_, op_in_seq, fun σ δ F A H x y Q R rx ry k => by
    cases (show Rep N.K F x (.str z) from rx)
    obtain ⟨a, vs, rfl, h1, h2⟩ := rep_tup (show Rep N.K F y (.tup (zs.map D.str)) from ry)
    have e := strs_vals h2
    subst e
    refine ⟨a, _, rfl, .inr (by rw [← g.hK]; exact same_sqT R.rc.sub h1), rfl, by simp [flatV], ?_⟩
    rw [inV_strs]
    exact k.here R (.bl _)⟩
def stepD (lo c : Int) (n : Nat) : List D := (List.range n).map fun i => D.int (lo + (i : Nat) * c)
theorem yl_rangeC {K : PySem.W.Frag} {F : Hp} {lo c : Int} {n : Nat} : Yl K (Itc lo c n) F (stepD lo c n) := by
  unfold Yl
  rw [show (stepD lo c n).length = n from by simp [stepD]]
  exact Walk.mono (walk_rangeC (lo := lo) (c := c) (n := n)) (fun _ _ => trivial) fun i H x H' hi _ ⟨e, hx⟩ => by
    refine ⟨.int (lo + i * c), ?_, .inl ⟨e, by rw [hx]; exact .int _⟩⟩
    rw [stepD, List.getElem?_map, List.getElem?_range hi]
    rfl
theorem di_range3 {i j k : Int} {m : Nat} (h : DA X N W δ μ [a, b, c] [.p (.int i), .p (.int j), .p (.int k)] μ1) (hm : X.mg "range" = none) (h1 : RgC i j k m) (hg : Gl X "range" := by rfl) (hs : starEach [a, b, c] X.env = (false, eval a X.env) :: starEach [b, c] X.env := by rfl) (hpl : (backTo pos (starEach [b, c] X.env)).any (·.1) = false := by rfl) : DI X N W δ μ tg (.Call (.Name "range" p) [a, b, c] [] pos) (stepD i k m) μ1 :=
  PI.imp (pi_range3 hg hm h hs hpl) fun σ H Rk ⟨F, A, R, kk⟩ => ⟨F, A, R, fun vs F1 A1 H1 e1 p1 R1 rv => by
    cases rv with
    | cons r1 r2 =>
      cases r2 with
      | cons r2 r3 =>
        cases r3 with
        | cons r3 r4 =>
          cases r4
          have r1' : Rep N.K F1 _ (.int i) := r1
          have r2' : Rep N.K F1 _ (.int j) := r2
          have r3' : Rep N.K F1 _ (.int k) := r3
          cases r1'
          cases r2'
          cases r3'
          exact ⟨i, j, k, m, rfl, h1, kk _ F1 A1 H1 e1 p1 R1 yl_rangeC⟩⟩
end
end Dl
set_option Elab.async false
set_option linter.all false
set_option maxRecDepth 100000
set_option maxHeartbeats 4000000
set_option autoImplicit false
namespace Cq
open PySem PySem.Spec PyProof.Rows L2 Dl
/-! # merging runs -/
section
variable {T : Type} [DecidableEq T] (lt : T → T → Bool)
def mrg : List T → List T → List T
  | [], ys => ys
  | x :: xs, [] => x :: xs
  | x :: xs, y :: ys => if lt x y then x :: mrg xs (y :: ys) else if x = y then y :: mrg xs ys else y :: mrg (x :: xs) ys
termination_by a b => a.length + b.length
def pairUp : List (List T) → List (List T)
  | [] => []
  | [a] => [a]
  | a :: b :: r => mrg lt a b :: pairUp r
theorem pairUp_len : ∀ l : List (List T), (pairUp lt l).length = (l.length + 1) / 2
  | [] => by simp [pairUp]
  | [_] => by simp [pairUp]
  | a :: b :: r => by
    show (pairUp lt r).length + 1 = _
    rw [pairUp_len r]
    simp only [List.length_cons]
    omega
def ascR (l : List (List T)) : List (List T) := if h : 1 < l.length then ascR (pairUp lt l) else l
termination_by l.length
decreasing_by rw [pairUp_len]; omega
def ascF (xs : List T) : List T := (ascR lt (xs.map fun x => [x])).flatten
theorem mem_mrg (z : T) : ∀ xs ys : List T, z ∈ mrg lt xs ys ↔ z ∈ xs ∨ z ∈ ys
  | [], ys => by unfold mrg; simp
  | x :: xs, [] => by unfold mrg; simp
  | x :: xs, y :: ys => by
    unfold mrg
    split
    · rw [List.mem_cons, mem_mrg z xs (y :: ys), List.mem_cons, List.mem_cons]
      constructor
      · rintro (h | h | h) <;> simp [h]
      · rintro ((h | h) | h) <;> simp [h]
    · split
      · rename_i e
        subst e
        rw [List.mem_cons, mem_mrg z xs ys, List.mem_cons, List.mem_cons]
        constructor
        · rintro (h | h | h) <;> simp [h]
        · rintro ((h | h) | h | h) <;> simp [h]
      · rw [List.mem_cons, mem_mrg z (x :: xs) ys, List.mem_cons, List.mem_cons]
        constructor
        · rintro (h | h | h) <;> simp [h]
        · rintro (h | h | h) <;> simp [h]
termination_by a b => a.length + b.length
theorem mem_pairUp (z : T) : ∀ l : List (List T), z ∈ (pairUp lt l).flatten ↔ z ∈ l.flatten
  | [] => Iff.rfl
  | [_] => Iff.rfl
  | a :: b :: r => by
    show z ∈ (mrg lt a b :: pairUp lt r).flatten ↔ _
    rw [List.flatten_cons, List.mem_append, mem_mrg, mem_pairUp z r, List.flatten_cons, List.flatten_cons, List.mem_append, List.mem_append, or_assoc]
theorem mem_ascR (z : T) (l : List (List T)) : z ∈ (ascR lt l).flatten ↔ z ∈ l.flatten := by
  unfold ascR
  split
  · rename_i h
    have hl := pairUp_len lt l
    rw [mem_ascR z (pairUp lt l), mem_pairUp]
  · exact Iff.rfl
termination_by l.length
decreasing_by omega
theorem mem_ascF (z : T) (xs : List T) : z ∈ ascF lt xs ↔ z ∈ xs := by
  unfold ascF
  rw [mem_ascR, List.mem_flatten]
  constructor
  · rintro ⟨l, h1, h2⟩
    obtain ⟨x, hx, rfl⟩ := List.mem_map.mp h1
    rw [List.mem_singleton.mp h2]
    exact hx
  · exact fun h => ⟨[z], List.mem_map.mpr ⟨z, h, rfl⟩, List.mem_singleton.mpr rfl⟩
theorem mrg_len : ∀ xs ys : List T, (mrg lt xs ys).length ≤ xs.length + ys.length
  | [], ys => by unfold mrg; simp
  | x :: xs, [] => by unfold mrg; simp
  | x :: xs, y :: ys => by
    unfold mrg
    split
    · have := mrg_len xs (y :: ys)
      simp only [List.length_cons] at *
      omega
    · split
      · have := mrg_len xs ys
        simp only [List.length_cons] at *
        omega
      · have := mrg_len (x :: xs) ys
        simp only [List.length_cons] at *
        omega
termination_by a b => a.length + b.length
theorem pairUp_sum : ∀ l : List (List T), (pairUp lt l).flatten.length ≤ l.flatten.length
  | [] => Nat.le_refl _
  | [_] => Nat.le_refl _
  | a :: b :: r => by
    have h1 := mrg_len lt a b
    have h2 := pairUp_sum r
    show (mrg lt a b :: pairUp lt r).flatten.length ≤ _
    simp only [List.flatten_cons, List.length_append]
    omega
theorem ascR_sum (l : List (List T)) : (ascR lt l).flatten.length ≤ l.flatten.length := by
  unfold ascR
  split
  · rename_i h
    have hl := pairUp_len lt l
    exact Nat.le_trans (ascR_sum (pairUp lt l)) (pairUp_sum lt l)
  · exact Nat.le_refl _
termination_by l.length
decreasing_by omega
theorem ascF_len (xs : List T) : (ascF lt xs).length ≤ xs.length := by
  refine Nat.le_trans (ascR_sum lt _) ?_
  induction xs with
  | nil => exact Nat.le_refl _
  | cons x xs ih => simp only [List.map_cons, List.flatten_cons, List.length_append, List.length_cons, List.length_nil] at *; omega
/-! ## ascending -/
structure Ord : Prop where
  irr : ∀ a, lt a a = false
  tr : ∀ a b c, lt a b = true → lt b c = true → lt a c = true
  tot : ∀ a b, lt a b = true ∨ a = b ∨ lt b a = true
variable {lt}
abbrev Asc (lt : T → T → Bool) (l : List T) : Prop := l.Pairwise fun a b => lt a b = true
theorem asc_uniq (o : Ord lt) : ∀ {a b : List T}, Asc lt a → Asc lt b → (∀ z, z ∈ a ↔ z ∈ b) → a = b
  | [], [], _, _, _ => rfl
  | [], y :: b, _, _, h => by have := (h y).mpr (by simp); cases this
  | x :: a, [], _, _, h => by have := (h x).mp (by simp); cases this
  | x :: a, y :: b, h1, h2, h => by
    obtain ⟨a1, a2⟩ := List.pairwise_cons.mp h1
    obtain ⟨b1, b2⟩ := List.pairwise_cons.mp h2
    have e : x = y := by
      rcases List.mem_cons.mp ((h x).mp (by simp)) with q | q
      · exact q
      · rcases List.mem_cons.mp ((h y).mpr (by simp)) with q2 | q2
        · exact q2.symm
        · have := o.tr _ _ _ (a1 y q2) (b1 x q)
          rw [o.irr] at this
          cases this
    subst e
    congr 1
    refine asc_uniq o a2 b2 fun z => ⟨fun q => ?_, fun q => ?_⟩
    · rcases List.mem_cons.mp ((h z).mp (List.mem_cons_of_mem _ q)) with rfl | q2
      · have := a1 z q
        rw [o.irr] at this
        cases this
      · exact q2
    · rcases List.mem_cons.mp ((h z).mpr (List.mem_cons_of_mem _ q)) with rfl | q2
      · have := b1 z q
        rw [o.irr] at this
        cases this
      · exact q2
end
/-! ## texts in order -/
theorem str_cps {a b : Str} (h : a.cps.toList = b.cps.toList) : a = b := by
  obtain ⟨x⟩ := a
  obtain ⟨y⟩ := b
  congr 1
  exact Array.toList_inj.mp h
theorem slt_ord : Ord sltB where
  irr a := by
    unfold sltB
    exact decide_eq_false (List.lt_irrefl _)
  tr a b c h1 h2 := by
    unfold sltB at *
    exact decide_eq_true (List.lt_trans (of_decide_eq_true h1) (of_decide_eq_true h2))
  tot a b := by
    unfold sltB
    by_cases h1 : a.cps.toList < b.cps.toList
    · exact .inl (decide_eq_true h1)
    · by_cases h2 : b.cps.toList < a.cps.toList
      · exact .inr (.inr (decide_eq_true h2))
      · exact .inr (.inl (str_cps (List.le_antisymm (show a.cps.toList ≤ b.cps.toList from h2) (show b.cps.toList ≤ a.cps.toList from h1))))
end Cq
set_option Elab.async false
set_option linter.all false
set_option maxRecDepth 100000
set_option maxHeartbeats 4000000
set_option autoImplicit false
namespace Cq
open PySem PySem.Spec PyProof.Rows L2 Dl
/-! # lines of circuits, as words of signs -/
inductive Ln where
  | ab (q : Bool) (s : Int) (L : List Nat)
  | h (a : Nat)
  | pr (k a b : Nat)
  | tn (s : Int) (L : List Nat) (ps : List (List Nat × Int))
deriving DecidableEq
abbrev wFlip : List Nat := [102, 108, 105, 112]
abbrev wQuarter : List Nat := [113, 117, 97, 114, 116, 101, 114]
abbrev wTurn : List Nat := [116, 117, 114, 110]
abbrev wBy : List Nat := [98, 121]
def pn (k : Nat) : List Nat := if k = 0 then [99, 122] else if k = 1 then [99, 120] else [115, 119, 97, 112]
def sgL (L : List Nat) (s : Int) : List Nat := if s < 0 then 45 :: L else L
def mt (i : Int) : List Nat := if i < 0 then [45, 48 + (-i).toNat] else [48 + i.toNat]
def lw : Ln → List (List Nat)
  | .ab q s L => [if q then wQuarter else wFlip, sgL L s]
  | .h a => [[104], [48 + a]]
  | .pr k a b => [pn k, [48 + a], [48 + b]]
  | .tn s L ps => wTurn :: sgL L s :: wBy :: ps.flatMap fun p => [mt p.2, p.1]
def lt (l : Ln) : List Nat := TL.joinL [32] (lw l)
def wT (w : Nat) : List Nat := [119, 105, 114, 101, 115, 32, 48 + w]
def ct (w : Nat) (ls : List Ln) : List Nat := TL.joinL [10] (wT w :: ls.map lt)
structure okNm (k : List Nat) : Prop where
  one : 1 ≤ k.length
  eight : k.length ≤ 8
  az : ∀ c ∈ k, 97 ≤ c ∧ c ≤ 122
def manys : List Int := [1, 2, 3, 4, -1, -2, -3, -4]
structure okWd (w : Nat) (s : Int) (L : List Nat) : Prop where
  okL : Dl.okL L
  pm : s = 1 ∨ s = -1
  len : L.length = w
  ne : L ≠ List.replicate w 73
def okLn (w : Nat) : Ln → Prop
  | .ab _ s L => okWd w s L
  | .h a => a < w
  | .pr k a b => k < 3 ∧ a < w ∧ b < w ∧ a ≠ b
  | .tn s L ps => okWd w s L ∧ 1 ≤ ps.length ∧ ps.length ≤ 3 ∧ (ps.map (·.1)).Nodup ∧ ∀ p ∈ ps, okNm p.1 ∧ p.2 ∈ manys
def isT : Ln → Bool
  | .tn _ _ _ => true
  | _ => false
structure okC (w : Nat) (ls : List Ln) : Prop where
  w1 : 1 ≤ w
  w4 : w ≤ 4
  ok : ∀ l ∈ ls, okLn w l
  len : ls.length ≤ 40
  six : (ls.filter isT).length ≤ 6
/-! ## signs in them -/
theorem in_IXYZ {c : Nat} (h : c ∈ IXYZ) : c = 73 ∨ c = 88 ∨ c = 89 ∨ c = 90 := by
  simpa [IXYZ] using h
def gd (c : Nat) : Prop := 33 ≤ c ∧ c ≤ 122
theorem gd_sgL {L : List Nat} {s : Int} (h : okL L) : ∀ c ∈ sgL L s, gd c := by
  intro c hc
  have hx : ∀ d ∈ L, gd d := fun d hd => by
    rcases in_IXYZ (h.all d hd) with rfl | rfl | rfl | rfl <;> exact ⟨by decide, by decide⟩
  unfold sgL at hc
  split at hc
  · rcases List.mem_cons.mp hc with rfl | hc
    · exact ⟨by decide, by decide⟩
    · exact hx c hc
  · exact hx c hc
theorem gd_mt {i : Int} (h : i ∈ manys) : ∀ c ∈ mt i, gd c := by
  have : ∀ j ∈ manys, ∀ c ∈ mt j, 33 ≤ c ∧ c ≤ 122 := by decide
  exact this i h
theorem gd_lw {w : Nat} {l : Ln} (hw : w ≤ 4) (h : okLn w l) : ∀ p ∈ lw l, p ≠ [] ∧ ∀ c ∈ p, gd c := by
  have fixed : ∀ p ∈ [wFlip, wQuarter, wTurn, wBy, [104], pn 0, pn 1, pn 2, [48], [49], [50], [51]], p ≠ [] ∧ ∀ c ∈ p, 33 ≤ c ∧ c ≤ 122 := by decide
  have dig : ∀ a, a < w → ([48 + a] : List Nat) ≠ [] ∧ ∀ c ∈ [48 + a], gd c := fun a ha => ⟨by simp, fun c hc => by
    rw [List.mem_singleton.mp hc]
    exact ⟨by omega, by omega⟩⟩
  have sg : ∀ {s : Int} {L : List Nat}, okWd w s L → sgL L s ≠ [] ∧ ∀ c ∈ sgL L s, gd c := fun {s L} o => ⟨fun e => by
    have := o.okL.one
    unfold sgL at e
    split at e
    · cases e
    · rw [e] at this; simp at this, gd_sgL o.okL⟩
  cases l with
  | ab q s L =>
    intro p hp
    rcases List.mem_cons.mp (show p ∈ [if q then wQuarter else wFlip, sgL L s] from hp) with rfl | hp
    · cases q
      · exact fixed wFlip (by simp)
      · exact fixed wQuarter (by simp)
    · rw [List.mem_singleton.mp hp]
      exact sg h
  | h a =>
    intro p hp
    rcases List.mem_cons.mp (show p ∈ [[104], [48 + a]] from hp) with rfl | hp
    · exact fixed [104] (by simp)
    · rw [List.mem_singleton.mp hp]
      exact dig a h
  | pr k a b =>
    intro p hp
    rcases List.mem_cons.mp (show p ∈ [pn k, [48 + a], [48 + b]] from hp) with rfl | hp
    · have h1 : k < 3 := h.1
      match k, h1 with
      | 0, _ => exact fixed (pn 0) (by simp)
      | 1, _ => exact fixed (pn 1) (by simp)
      | 2, _ => exact fixed (pn 2) (by simp)
    · rcases List.mem_cons.mp hp with rfl | hp
      · exact dig a h.2.1
      · rw [List.mem_singleton.mp hp]
        exact dig b h.2.2.1
  | tn s L ps =>
    intro p hp
    rcases List.mem_cons.mp (show p ∈ wTurn :: sgL L s :: wBy :: _ from hp) with rfl | hp
    · exact fixed wTurn (by simp)
    rcases List.mem_cons.mp hp with rfl | hp
    · exact sg h.1
    rcases List.mem_cons.mp hp with rfl | hp
    · exact fixed wBy (by simp)
    obtain ⟨x, hx, hp⟩ := List.mem_flatMap.mp hp
    obtain ⟨o1, o2⟩ := h.2.2.2.2 x hx
    rcases List.mem_cons.mp hp with rfl | hp
    · refine ⟨fun e => ?_, gd_mt o2⟩
      unfold mt at e
      split at e <;> cases e
    · rw [List.mem_singleton.mp hp]
      refine ⟨fun e => ?_, fun c hc => ?_⟩
      · have := o1.one
        rw [e] at this; simp at this
      · have := o1.az c hc
        exact ⟨by omega, this.2⟩
theorem mem_joinL {c : Nat} {S : List Nat} : ∀ {ps : List (List Nat)}, c ∈ TL.joinL S ps → c ∈ S ∨ ∃ p ∈ ps, c ∈ p
  | [], h => by cases h
  | [p], h => .inr ⟨p, by simp, h⟩
  | p :: q :: r, h => by
    rcases List.mem_append.mp (show c ∈ p ++ (S ++ TL.joinL S (q :: r)) from h) with h | h
    · exact .inr ⟨p, by simp, h⟩
    · rcases List.mem_append.mp h with h | h
      · exact .inl h
      · rcases mem_joinL h with h | ⟨z, h1, h2⟩
        · exact .inl h
        · exact .inr ⟨z, by simp [h1], h2⟩
theorem lt_signs {w : Nat} {l : Ln} (hw : w ≤ 4) (h : okLn w l) : ∀ c ∈ lt l, 32 ≤ c ∧ c ≤ 122 := by
  intro c hc
  rcases mem_joinL hc with h1 | ⟨p, h1, h2⟩
  · rw [List.mem_singleton.mp h1]; decide
  · have := (gd_lw hw h p h1).2 c h2
    exact ⟨by have := this.1; omega, this.2⟩
theorem lw_ne (l : Ln) : lw l ≠ [] := by cases l <;> simp [lw]
theorem split_lt {w : Nat} {l : Ln} (hw : w ≤ 4) (h : okLn w l) : TL.spl [32] 0 [] (lt l) = lw l :=
  TL.spl_join (lw_ne l) fun p hp hc => by
    have := ((gd_lw hw h p hp).2 32 hc).1
    omega
theorem split_ct {w : Nat} {ls : List Ln} (h : okC w ls) : TL.spl [10] 0 [] (ct w ls) = wT w :: ls.map lt :=
  TL.spl_join (by simp) fun p hp hc => by
    rcases List.mem_cons.mp hp with rfl | hp
    · have hw := h.w4
      simp only [wT, List.mem_cons, List.not_mem_nil, or_false] at hc
      omega
    · obtain ⟨l, hl, rfl⟩ := List.mem_map.mp hp
      have := (lt_signs h.w4 (h.ok l hl) 10 hc).1
      omega
/-! ## lengths -/
theorem joinL_len {S : List Nat} {m : Nat} : ∀ {ps : List (List Nat)}, (∀ p ∈ ps, p.length ≤ m) → (TL.joinL S ps).length ≤ ps.length * (m + S.length)
  | [], _ => Nat.zero_le _
  | [p], h => by
    show p.length ≤ 1 * (m + S.length)
    have := h p (by simp)
    omega
  | p :: q :: r, h => by
    show (p ++ (S ++ TL.joinL S (q :: r))).length ≤ _
    have h1 := h p (by simp)
    have h2 := joinL_len (S := S) (ps := q :: r) fun z hz => h z (by simp [hz])
    rw [List.length_append, List.length_append, List.length_cons, Nat.succ_mul]
    omega
theorem sgL_len {w : Nat} {s : Int} {L : List Nat} (h : okWd w s L) : (sgL L s).length ≤ 5 := by
  have := h.okL.four
  unfold sgL
  split <;> simp <;> omega
theorem lw_len {w : Nat} {l : Ln} (h : okLn w l) : (lw l).length ≤ 9 ∧ ∀ p ∈ lw l, p.length ≤ 8 := by
  have fixed : ∀ p ∈ [wFlip, wQuarter, wTurn, wBy, [104], pn 0, pn 1, pn 2], p.length ≤ 8 := by decide
  cases l with
  | ab q s L =>
    refine ⟨show 2 ≤ 9 by decide, fun p hp => ?_⟩
    rcases List.mem_cons.mp (show p ∈ [if q then wQuarter else wFlip, sgL L s] from hp) with rfl | hp
    · cases q <;> decide
    · rw [List.mem_singleton.mp hp]
      have := sgL_len h
      omega
  | h a => exact ⟨show 2 ≤ 9 by decide, fun p hp => by
      rcases List.mem_cons.mp (show p ∈ [[104], [48 + a]] from hp) with rfl | hp
      · decide
      · rw [List.mem_singleton.mp hp]; show 1 ≤ 8; decide⟩
  | pr k a b =>
    refine ⟨show 3 ≤ 9 by decide, fun p hp => ?_⟩
    rcases List.mem_cons.mp (show p ∈ [pn k, [48 + a], [48 + b]] from hp) with rfl | hp
    · unfold pn; split
      · decide
      · split <;> decide
    · rcases List.mem_cons.mp hp with rfl | hp
      · show 1 ≤ 8; decide
      · rw [List.mem_singleton.mp hp]; show 1 ≤ 8; decide
  | tn s L ps =>
    refine ⟨?_, fun p hp => ?_⟩
    · show (ps.flatMap fun p => [mt p.2, p.1]).length + 1 + 1 + 1 ≤ 9
      have e : ∀ qs : List (List Nat × Int), (qs.flatMap fun p => [mt p.2, p.1]).length = 2 * qs.length := fun qs => by
        induction qs with
        | nil => rfl
        | cons x xs ih => rw [List.flatMap_cons, List.length_append, ih, List.length_cons]; simp; omega
      rw [e]
      have := h.2.2.1
      omega
    · rcases List.mem_cons.mp (show p ∈ wTurn :: sgL L s :: wBy :: _ from hp) with rfl | hp
      · decide
      rcases List.mem_cons.mp hp with rfl | hp
      · have := sgL_len h.1
        omega
      rcases List.mem_cons.mp hp with rfl | hp
      · decide
      obtain ⟨x, hx, hp⟩ := List.mem_flatMap.mp hp
      rcases List.mem_cons.mp hp with rfl | hp
      · unfold mt; split <;> simp
      · rw [List.mem_singleton.mp hp]
        exact (h.2.2.2.2 x hx).1.eight
theorem lt_len {w : Nat} {l : Ln} (h : okLn w l) : (lt l).length ≤ 81 := by
  obtain ⟨h1, h2⟩ := lw_len h
  have := joinL_len (S := [32]) h2
  have e : (lw l).length * (8 + ([32] : List Nat).length) ≤ 9 * 9 := Nat.mul_le_mul h1 (Nat.le_refl _)
  unfold lt
  omega
theorem ct_len {w : Nat} {ls : List Ln} (h : okC w ls) : (ct w ls).length ≤ 3500 := by
  have := joinL_len (S := [10]) (m := 81) (ps := wT w :: ls.map lt) fun p hp => by
    rcases List.mem_cons.mp hp with rfl | hp
    · show 7 ≤ 81; decide
    · obtain ⟨l, hl, rfl⟩ := List.mem_map.mp hp
      exact lt_len (h.ok l hl)
  have e : (wT w :: ls.map lt).length * (81 + ([10] : List Nat).length) ≤ 41 * 82 := Nat.mul_le_mul (by have := h.len; simp; omega) (Nat.le_refl _)
  unfold ct
  omega
/-! ## what they are read as -/
abbrev pairS (p : List Nat × Int) : Str × Int := (st p.1, p.2)
def formF (ps : List (List Nat × Int)) : List (Str × Int) := ascF pltB (ps.map pairS)
def stpD : Ln → D
  | .ab q s L => .tup [.str (st (if q then wQuarter else wFlip)), .str (st L), .int s]
  | .h a => .tup [.str (st [104]), .int (a : Nat)]
  | .pr k a b => .tup [.str (st (pn k)), .int (a : Nat), .int (b : Nat)]
  | .tn s L ps => .tup [.str (st wTurn), .str (st L), .int s, .tup ((formF ps).map pairD)]
def formK : Ln → List Str
  | .tn _ _ ps => (formF ps).map (·.1)
  | _ => []
def knobsF (ls : List Ln) : List Str := ascF sltB (ls.flatMap formK)
def turnsG : Nat → List Ln → List Nat
  | _, [] => []
  | k, l :: r => if isT l then k :: turnsG (k + 1) r else turnsG (k + 1) r
def turnsF (ls : List Ln) : List Nat := turnsG 0 ls
abbrev cF : List Str := ["_text", "_lines", "steps", "wires", "knobs", "turns"]
def circD (C : Addr) (w : Nat) (ls : List Ln) : D :=
  .ins C cF [.str (st (ct w ls)), .tup (ls.map fun l => .str (st (lt l))), .tup (ls.map stpD), .int (w : Nat), .tup ((knobsF ls).map D.str), .tup ((turnsF ls).map fun i => .int ((i : Nat) : Int))]
theorem formF_len (ps : List (List Nat × Int)) : (formF ps).length ≤ ps.length := by
  have := ascF_len pltB (ps.map pairS)
  rw [List.length_map] at this
  exact this
end Cq
set_option Elab.async false
set_option linter.all false
set_option maxRecDepth 100000
set_option maxHeartbeats 4000000
set_option autoImplicit false
namespace Dl
open PySem PySem.Spec PyProof.Rows L2
section
variable {X : Cx} {N : En} {W : WX} {n k : Nat} {δ : List (Option S)} {μ μ1 μ2 μ3 : List M} {e a b o c : Expr} {es : List Expr} {pos p p2 tpos : Pos} {ds : List D} {d : D} {i j : Int} {lo hi : Option Int} {C : Addr} {R : Rel} {r : Rx}
/-! ## x += e, of ints -/
theorem ds_augI (q : Nat) {x : Str} {pos' : Pos} {op : Operator} {f : Int → Int → Int} (h : DE X N W δ μ e (.v (.p (.int j))) μ1) (ip : PIp X op (ipI f)) (hs : δ[q]? = some (some (.p (.int i)))) (hN : X.N.Nodup) (hi : X.N[q]? = some x := by rfl) (hx : Loc X.env.scope x := by first | exact Or.inl rfl | exact Or.inr rfl)
    (hf : X.fn x = true ∨ X.env.scope.names.lookup x = some .local := by first | exact .inl rfl | exact .inr rfl) : DS X N W δ μ (.AugAssign (.Name x pos') op e pos) (.nx (δ.set q (some (.p (.int (f i j))))) μ1) :=
  PS.imp (ps_aug hN hi hx h ip hf) fun K σ H ⟨F, A, R0, kk⟩ => by
    obtain ⟨v, h1, h2⟩ := R0.sl q _ hs
    cases (show Rep N.K F v (.int i) from h2)
    refine ⟨.int i, h1, F, A, R0, fun y F1 A1 H1 e1 p1 R1 ry => ?_⟩
    cases (show Rep N.K F1 y (.int j) from ry)
    exact ⟨i, j, rfl, rfl, kk _ F1 A1 H1 e1 p1 (R1.set (.int _))⟩
theorem ds_inc (q : Nat) {x : Str} {pos' : Pos} (h : DE X N W δ μ e (.v (.p (.int j))) μ1) (hs : δ[q]? = some (some (.p (.int i)))) (hN : X.N.Nodup) (hi : X.N[q]? = some x := by rfl) (hx : Loc X.env.scope x := by first | exact Or.inl rfl | exact Or.inr rfl)
    (hf : X.fn x = true ∨ X.env.scope.names.lookup x = some .local := by first | exact .inl rfl | exact .inr rfl) : DS X N W δ μ (.AugAssign (.Name x pos') .Add e pos) (.nx (δ.set q (some (.p (.int (i + j))))) μ1) :=
  ds_augI q h ip_add hs hN hi hx hf
/-! ## ~a, by its own method -/
/-! ## slices of tuples -/
theorem cut_whole {α : Type} (xs : List α) (h : HT.sIx xs.length 0 lo = 0 ∧ HT.sIx xs.length xs.length hi = xs.length) : cutX xs lo hi = xs := by
  unfold cutX
  rw [h.1, h.2]
  simp
theorem end_cutT {σ : L2.St} {F : Hp} {A : List Addr} {H : Hp} {Q : VK} {v : V} (g : Go X N W n) (R : Rl N F A H σ δ μ) (rv : Rep N.K F v (.tup ds)) (k : EndE N W σ δ F A μ Q (.v (.p (.tup (cutX ds lo hi))))) : rSlA X.K v lo hi H Q := by
  obtain ⟨a, vs, rfl, h1, h2⟩ := rep_tup rv
  have hl := h2.length
  refine ⟨a, vs, rfl, by rw [← g.hK]; exact same_sqT R.rc.sub h1, fun hw => ?_, fun hw p np => ?_⟩
  · rw [hl] at hw
    rw [cut_whole ds hw] at k
    exact k.here R (show Rep N.K F (.ref a) (.tup ds) from rv)
  · have sm := same_updN (o := .tup (cutV vs lo hi)) (R.rc.fresh np).2.1
    exact k (.ref p) _ A _ sm (List.prefix_refl _) (R.to sm (List.prefix_refl _) (R.rc.frozen np _)) (.tup (SqT.of upd_same) ((h2.cut lo hi).mono sm))
theorem de_cutTf (g : Go X N W n) (he : DE X N W δ μ e (.v (.p (.tup ds))) μ1) (ha : DE X N W δ μ1 a (.v (.p (.int i))) μ2) : DE X N W δ μ (.Subscript e (.Slice (some a) none none p2) pos) (.v (.p (.tup (cutX ds (some i) none)))) μ2 :=
  PE.imp (pe_slice sl_tupA he (po_some ha) po_none) fun σ H Q ⟨F, A, R0, k⟩ => ⟨F, A, R0, fun v F1 A1 H1 e1 a1 R1 rv => by
    refine ⟨F1, A1, R1, fun v2 F2 A2 H2 e2 a2 R2 rv2 => ?_⟩
    cases (show Rep N.K F2 v2 (.int i) from rv2)
    exact ⟨i, rfl, end_cutT g R2 (Rep.mono e2 rv) (k.to (e1.trans e2) (a1.trans a2))⟩⟩
theorem de_cutTt (g : Go X N W n) (he : DE X N W δ μ e (.v (.p (.tup ds))) μ1) (ha : DE X N W δ μ1 a (.v (.p (.int i))) μ2) : DE X N W δ μ (.Subscript e (.Slice none (some a) none p2) pos) (.v (.p (.tup (cutX ds none (some i))))) μ2 :=
  PE.imp (pe_slice sl_tupA he po_none (po_some ha)) fun σ H Q ⟨F, A, R0, k⟩ => ⟨F, A, R0, fun v F1 A1 H1 e1 a1 R1 rv => by
    refine ⟨F1, A1, R1, fun v2 F2 A2 H2 e2 a2 R2 rv2 => ?_⟩
    cases (show Rep N.K F2 v2 (.int i) from rv2)
    exact ⟨i, rfl, end_cutT g R2 (Rep.mono e2 rv) (k.to (e1.trans e2) (a1.trans a2))⟩⟩
/-! ## [*t, ..], t a tuple -/
theorem dp_starT {ds es' : List D} {es : List Expr} (h : DE X N W δ μ e (.v (.p (.tup ds))) μ1) (h' : DP X N W δ μ1 es es' μ2) (hK : N.K = X.K) (hs : starEach (.Starred e p :: es) X.env = (true, eval e X.env) :: starEach es X.env := by rfl) : DP X N W δ μ (.Starred e p :: es) (ds ++ es') μ2 :=
  PA.imp (StX.pa_star h h' hs) fun σ H Q ⟨F, A, R, k⟩ => ⟨F, A, R, fun v F1 A1 H1 e1 p1 R1 rv => by
    obtain ⟨a, vs, rfl, h1, h2⟩ := rep_tup rv
    have hK' := hK
    rw [← hK]
    refine ⟨a, vs, rfl, .inl (same_sqT R1.rc.sub h1), F1, A1, R1, fun ws F2 A2 H2 e2 p2 R2 rw2 => ?_⟩
    exact k (vs ++ ws) F2 A2 H2 (e1.trans e2) (p1.trans p2) R2 (by rw [List.map_append]; exact RepSs.append (reps_all (h2.mono e2)) rw2)⟩
/-! ## not in, lists times ints, str of an int -/
/-! ## a tuple of the module by its name -/
theorem de_globT {x : Str} {u : Addr} (g : Go X N W n) (hm : X.mg x = some (.ref u)) (sq : ∀ H, ∃ vs, SqT X.K H u vs ∧ ∀ F, Reps X.K F vs ds) (hg : Gl X x := by rfl) (hd : (x == ("__debug__" : Str)) = false := by decide) : DE X N W δ μ (.Name x pos) (.v (.p (.tup ds))) μ :=
  PE.imp (pe_glob (v := .ref u) hg hm rfl hd) fun σ H Q ⟨F, A, R, k⟩ => by
    obtain ⟨vs, h1, h2⟩ := sq F
    refine k.here R (show Rep N.K F (.ref u) (.tup ds) from ?_)
    rw [g.hK]
    exact .tup h1 (h2 F)
/-! ## xs[f()] = e: the place is told by a call -/
end
end Dl
set_option Elab.async false
set_option linter.all false
set_option maxRecDepth 100000
set_option maxHeartbeats 4000000
set_option autoImplicit false
namespace Dl
open PySem PySem.Spec PyProof.Rows L2
/-! ## xs[::-1] -/
theorem fm_congr {α β : Type} {f h : α → Option β} : ∀ {l : List α}, (∀ a ∈ l, f a = h a) → l.filterMap f = l.filterMap h
  | [], _ => rfl
  | a :: l, e => by
    rw [List.filterMap_cons, List.filterMap_cons, e a List.mem_cons_self, fm_congr fun b hb => e b (List.mem_cons_of_mem _ hb)]
theorem rev_atN {α : Type} : ∀ (n : Nat) (xs : List α), xs.length = n → (List.range n).filterMap (fun k => xs[n - 1 - k]?) = xs.reverse
  | 0, xs, h => by
    rw [List.length_eq_zero_iff.mp h]
    rfl
  | n + 1, xs, h => by
    obtain ⟨ys, a, rfl⟩ : ∃ ys a, xs = ys ++ [a] := ⟨xs.dropLast, xs.getLast (by intro e; rw [e] at h; cases h), (List.dropLast_concat_getLast _).symm⟩
    have hy : ys.length = n := by simp at h; exact h
    rw [List.range_succ_eq_map, List.filterMap_cons, List.filterMap_map, List.reverse_append]
    have e0 : (ys ++ [a])[n + 1 - 1 - 0]? = some a := by
      rw [List.getElem?_append_right (by omega), show n + 1 - 1 - 0 - ys.length = 0 by omega]
      rfl
    simp only [e0]
    show a :: _ = a :: ys.reverse
    congr 1
    rw [← rev_atN n ys hy]
    refine fm_congr fun k hk => ?_
    have hk : k < n := List.mem_range.mp hk
    show (ys ++ [a])[n + 1 - 1 - (k + 1)]? = ys[n - 1 - k]?
    rw [List.getElem?_append_left (by omega), show n + 1 - 1 - (k + 1) = n - 1 - k by omega]
theorem rev_at {α : Type} (xs : List α) : (List.range xs.length).filterMap (fun k => xs[xs.length - 1 - k]?) = xs.reverse := rev_atN _ xs rfl
theorem pick_rev {α : Type} (xs : List α) : pickX xs none none (some (-1)) = xs.reverse := by
  unfold pickX sliceBounds sliceRange
  simp only [Option.getD_some, show ¬ (-1 : Int) > 0 by decide, if_false]
  rw [← rev_at xs, List.filterMap_map]
  have e : (if (xs.length : Int) - 1 > -1 then ((xs.length : Int) - 1 - -1 - -1 - 1) / (- -1) else 0).toNat = xs.length := by
    rw [show (- -1 : Int) = 1 by decide, Int.ediv_one]
    split <;> omega
  rw [e]
  refine fm_congr fun k hk => ?_
  have hk : k < xs.length := List.mem_range.mp hk
  show xs[((xs.length : Int) - 1 + -1 * (k : Int)).toNat]? = _
  rw [show ((xs.length : Int) - 1 + -1 * (k : Int)).toNat = xs.length - 1 - k by omega]
section
variable {X : Cx} {N : En} {W : WX} {n : Nat} {δ : List (Option S)} {μ μ1 : List M} {e : Expr} {pos p2 p3 p4 : Pos} {ds : List D} {k3 : Option String}
theorem de_revL {kk} (g : Go X N W n) (he : DE X N W δ μ e (.v (.p (.lst ds))) μ1) (hl : ds.length ≤ 100000) : DE X N W δ μ (.Subscript e (.Slice none none (some (.UnaryOp .USub (.Constant (.int 1) kk p3) p4)) p2) pos) (.v (.p (.lst ds.reverse))) μ1 :=
  PE.imp (pe_slice3 he po_none po_none (po_some (de_un (N := N) (W := W) (δ := δ) (μ := μ1) de_int u_neg))) fun σ H Q ⟨F, A, R, k⟩ => ⟨F, A, R, fun v F1 A1 H1 e1 a1 R1 rv => by
    obtain ⟨a, vs, rfl, h1, h2⟩ := rep_lst rv
    have hv2 := h2.length
    refine ⟨F1, A1, R1, fun z F2 A2 H2 e2 a2 R2 rz => ?_⟩
    cases (show Rep N.K F2 z (.int (-1)) from rz)
    refine ⟨-1, rfl, a, vs, rfl, by rw [← g.hK]; exact SqL.of (R2.rc.sub _ _ (e2 _ _ h1)), by decide, by rw [pick_rev, List.length_reverse, sizeLine_eq]; omega, fun p np => ?_⟩
    have sm := same_updN (o := .lst (pickX vs none none (some (-1)))) (R2.rc.fresh np).2.1
    refine k (.ref p) _ A2 _ ((e1.trans e2).trans sm) (a1.trans a2) (R2.to sm (List.prefix_refl _) (R2.rc.frozen np _)) (.lst upd_same ?_)
    have := ((Reps.pick h2 none none (some (-1))).mono e2).mono sm
    rw [pick_rev ds] at this
    exact this⟩
end
/-! ## t[::-1], t a tuple -/
section
variable {prog : Program} {w : World} {A : Around} {E : Value → Shared → Prop} {s : Shared}
open Builtin.Slice in
theorem applied_rev {sl : Addr} {vc : Value} {n : Nat} {Q : Int × Int × Nat → Shared → Prop} (hs : s.heap.IsSliceOf sl .none .none vc) (pc : IsPart vc (some (-1))) (h : Q ((n : Int) - 1, -1, n) s) : wpAny (model prog w) A (sliceApplied (.ref sl) (pure (n : Int))) Q E s := by
  obtain ⟨os, q1, q2, q3⟩ := id hs
  unfold sliceApplied sliceFields
  refine wpAny_bind (wpAny_bind (wpAny_field q1 q3 (x := Value.none) rfl (wpAny_bind (wpAny_field q1 q3 (x := Value.none) rfl (wpAny_bind (wpAny_field q1 q3 (x := vc) rfl (wpAny_pure ?_)))))))
  refine wpAny_bind (HT.slicePart_ pc ?_)
  show wpAny _ _ (if ((-1 : Int) == 0) = true then _ else _) _ _ s; rw [if_neg (by decide)]
  refine wpAny_bind (HT.slicePart_ .none (wpAny_bind (HT.slicePart_ .none (wpAny_bind (wpAny_pure ?_)))))
  show wpAny _ _ (match sliceAdjust none none (-1) (n : Int) with | (lo, hi) => pure (lo, (-1 : Int), slicePlaces lo hi (-1))) _ _ s
  have e : sliceAdjust none none (-1) (n : Int) = ((n : Int) - 1, -1) := rfl
  have e2 : slicePlaces ((n : Int) - 1) (-1) (-1) = n := by
    unfold slicePlaces
    simp only [show ¬ (-1 : Int) > 0 by decide, if_false]
    rw [show (- -1 : Int) = 1 by decide, Int.ediv_one]
    split <;> omega
  rw [e]
  show wpAny _ _ (pure ((n : Int) - 1, (-1 : Int), slicePlaces ((n : Int) - 1) (-1) (-1))) _ _ s
  rw [e2]; exact wpAny_pure h
theorem getItem_rev {t sl : Addr} {items : Array Value} {vc : Value} {Q : Value → Shared → Prop} (ht : IsTup s.heap t items) (hs : s.heap.IsSliceOf sl .none .none vc) (pc : IsPart vc (some (-1)))
    (h : Q (.ref s.heap.objs.size) { s with heap := s.heap.push { cls := .type "tuple", data := .seq items.toList.reverse.toArray } }) (hsz : items.size ≤ sizeLine) : wpAny (model prog w) A (getItem (.ref t) (.ref sl)) Q E s := by
  obtain ⟨os, q1, q2, q3⟩ := id hs
  have hT : s.TypeIs (.ref sl) "slice" := ⟨os, q1, q2⟩
  unfold getItem; try with_reducible refine wpAny_holding ?_
  first | refine wpAny_bind (wpAny_pure ?_) | skip
  refine wpAny_bind (wpAny_sequenceKey ht.typeIs (by decide) ?_)
  refine wpAny_bind (wpAny_callSpecial?_slot (name := Str.ofString "__getitem__") ht.typeIs PyProof.Rows.slot_tuple_getitem (wpAny_call_entry PyProof.Rows.slot_tuple_getitem ht.typeIs entry_tuple_getitem ?_ (args_tuple_getitem _ _)))
  show wpAny _ _ (Builtin.Tuple.tupleItemsOf (.ref t) >>= _) _ _ s; refine wpAny_bind (tupleItemsOf_ ht ?_)
  refine wpAny_bind (wpAny_typeOf hT ?_); rw [if_pos (by decide)]
  refine wpAny_bind (applied_rev hs pc ?_)
  have hno : ¬ ((((items.size : Int) - 1) == 0 && (-1 : Int) == 1 && items.size == items.size) = true) := by
    intro q; rw [Bool.and_eq_true, Bool.and_eq_true] at q; exact absurd q.1.2 (by decide)
  show wpAny _ _ (if (((items.size : Int) - 1) == 0 && (-1 : Int) == 1 && items.size == items.size) = true then _ else _) _ _ s; rw [if_neg hno]
  have ep : ((List.range items.size).filterMap fun (k : Nat) => items[((items.size : Int) - 1 + (k : Int) * -1).toNat]?).toArray = items.toList.reverse.toArray := by
    rw [← rev_at items.toList]
    congr 1
    rw [show items.toList.length = items.size from Array.length_toList]
    refine fm_congr fun k hk => ?_
    have hk : k < items.size := List.mem_range.mp hk
    rw [show ((items.size : Int) - 1 + (k : Int) * -1).toNat = items.size - 1 - k by omega, Array.getElem?_toList]
  rw [ep]
  have hz : sizeOk (.seq items.toList.reverse.toArray) := by
    show items.toList.reverse.toArray.size ≤ sizeLine
    rw [List.size_toArray, List.length_reverse, Array.length_toList]; exact hsz
  first
    | exact wpAny_bind (m := Builtin.Tuple.tupleExact _) (wpAny_newObj_type (wpAny_pure ⟨_, rfl, wpAny_pure h⟩) hz)
    | exact wpAny_bind (m := Builtin.Tuple.tupleExact _) (wpAny_newObj_type (wpAny_bind (wpAny_pure (wpAny_pure ⟨_, rfl, wpAny_pure h⟩))) hz)
    | exact wpAny_bind (wpAny_bind (m := Builtin.Tuple.tupleExact _) (wpAny_newObj_type (wpAny_pure (wpAny_pure ⟨_, rfl, wpAny_pure h⟩)) hz))
    | exact wpAny_bind (wpAny_bind (m := Builtin.Tuple.tupleExact _) (wpAny_newObj_type (wpAny_pure ⟨_, rfl, wpAny_pure h⟩) hz))
end
section
variable {X : Cx} {N : En} {W : WX} {n : Nat} {δ : List (Option S)} {μ μ1 : List M} {e st : Expr} {te : TE} {tc : TO} {pos p2 p3 p4 : Pos} {ds : List D}
theorem pe_revT (he : PE X e te) (hc : PO X (some st) tc) : PE X (.Subscript e (.Slice none none (some st) p2) pos) (fun σ H Q => te σ H fun x H1 => tc σ H1 fun c H2 => ∃ a xs, x = .ref a ∧ SqT X.K H2 a xs ∧ c = some (-1) ∧ ∀ p, H2 p = none → Q (.ref p) (upd H2 p (.tup xs.reverse))) := by
  refine ⟨fun pins s σ H Q I h => ?_⟩
  refine Subscript_ (thn (he.run pins s σ H _ I h) fun v s1 ⟨x, H1, I1, r1, q1⟩ => ?_)
  refine wpAny_Slice ?_
  rw [evalPart_none]; refine wpAny_pure ?_
  refine wpAny_pure ?_
  refine thn (hc.run pins s1 σ H1 _ I1 q1) fun vc s4 ⟨c, H4, I4, pc, q4⟩ => ?_
  have I5 : Inv X pins σ H4 { s4 with heap := s4.heap.push { cls := .type "slice", data := .fields #[.none, .none, vc] } } := I4.kept (t' := s4.toks) fun b ob q => Heap.get?_push_of_some _ q
  obtain ⟨a, xs, rfl, hx, rfl, q⟩ := q4
  cases r1
  obtain ⟨its, r, ht, hz⟩ := I5.tuple hx
  have hlen := r.length
  have z : wpAny (model X.prog X.w) X.A (getItem (.ref a) (.ref s4.heap.objs.size)) (EP X pins σ Q) X.xe { s4 with heap := s4.heap.push { cls := .type "slice", data := .fields #[.none, .none, vc] } } := by
    refine getItem_rev ht (Heap.IsSliceOf.new ..) pc ?_ (by rw [List.size_toArray]; omega)
    refine ⟨.ref (s4.heap.push { cls := .type "slice", data := .fields #[.none, .none, vc] }).objs.size, _, I5.laid (t' := s4.toks) (o := .tup xs.reverse) (fun b ob q => Heap.get?_push_of_some _ q) (Nat.le_refl _) ⟨by rw [List.length_reverse]; exact hz, _, r.reverse, IsTup.new _ _⟩, rfl, q _ (I5.hok.fresh (Nat.le_refl _))⟩
  show wpAny (model X.prog X.w) X.A (subscriptTail e (.Slice none none (some st) p2) (.ref a) (.ref s4.heap.objs.size)) (EP X pins σ Q) X.xe { s4 with heap := s4.heap.push { cls := .type "slice", data := .fields #[.none, .none, vc] } }
  exact tail_any (ops := [.ref a, .ref s4.heap.objs.size]) ht.typeIs PyProof.Rows.slot_tuple_getitem.lookup z (by with_unfolding_all rfl)
theorem de_revT {kk} (g : Go X N W n) (he : DE X N W δ μ e (.v (.p (.tup ds))) μ1) : DE X N W δ μ (.Subscript e (.Slice none none (some (.UnaryOp .USub (.Constant (.int 1) kk p3) p4)) p2) pos) (.v (.p (.tup ds.reverse))) μ1 :=
  PE.imp (pe_revT he (po_some (de_un (N := N) (W := W) (δ := δ) (μ := μ1) de_int u_neg))) fun σ H Q ⟨F, A, R, k⟩ => ⟨F, A, R, fun v F1 A1 H1 e1 a1 R1 rv => by
    obtain ⟨a, vs, rfl, h1, h2⟩ := rep_tup rv
    refine ⟨F1, A1, R1, fun z F2 A2 H2 e2 a2 R2 rz => ?_⟩
    cases (show Rep N.K F2 z (.int (-1)) from rz)
    refine ⟨-1, rfl, a, vs, rfl, by rw [← g.hK]; exact same_sqT R2.rc.sub (same_sqT e2 h1), rfl, fun p np => ?_⟩
    have sm := same_updN (o := .tup vs.reverse) (R2.rc.fresh np).2.1
    exact k (.ref p) _ A2 _ ((e1.trans e2).trans sm) (a1.trans a2) (R2.to sm (List.prefix_refl _) (R2.rc.frozen np _)) (.tup (SqT.of upd_same) ((h2.rev.mono e2).mono sm))⟩
end
end Dl
set_option Elab.async false
set_option linter.all false
set_option maxRecDepth 100000
set_option maxHeartbeats 4000000
set_option autoImplicit false
namespace Dl
open PySem PySem.Spec PyProof.Rows L2
/-! ## enumerate(t), t a tuple -/
abbrev enO (it : Addr) : Obj := { cls := .type "enumerate", data := .fields #[.none, .bool false, .ref it, rawInt 0, .none, .none] }
open AutoSeq1 (wpAny_loadPart') in
theorem meets_enT {v : Value} {o : Obj} {Hc : Heap → Prop} (B : PySem.Begins v o Hc) : Meets (Builtin.«enumerate.__new__» ⟨[.type "enumerate", v], []⟩) (fun _ R s => Hc s.heap ∧ R (.ok (.ret (.ref (s.heap.push o).objs.size))) { s with heap := (s.heap.push o).push (enO s.heap.objs.size) }) :=
  .of_wp fun prog w A R s h => by
    obtain ⟨hp, g, d, tk, os⟩ := s; obtain ⟨h1, h⟩ := h
    have hsub := sub_enumerate
    have q1 : ∀ {A' : Around} {E : Value → Shared → Prop} {Q : Value → Shared → Prop}, Q (.ref hp.objs.size) ⟨hp.push o, g, d, tk, os⟩ → wpAny (model prog w) A' (pyIter v) Q E ⟨hp, g, d, tk, os⟩ := fun q => B.iter prog w _ _ ⟨hp, g, d, tk, os⟩ _ h1 q
    wp_walk using q1
    refine wpAny_stack_any fun st => wpAny_pure ?_
    split
    · rename_i c _ _ _ _ _
      cases (c == Value.type "enumerate") <;> (wp_walk using q1; exact ⟨_, rfl, h⟩)
    · wp_walk using q1; exact ⟨_, rfl, h⟩
section
variable {prog : Program} {w : World} {A : Around} {E : Value → Shared → Prop} {s : Shared}
theorem call_enT {v : Value} {o : Obj} {Hc : Heap → Prop} {Q : Value → Shared → Prop} (B : PySem.Begins v o Hc) (h1 : Hc s.heap)
    (h : ∀ h', IsEnum h' (s.heap.objs.size + 1) s.heap.objs.size 0 .none → h'.get? s.heap.objs.size = some o → (∀ b ob, s.heap.get? b = some ob → h'.get? b = some ob) → Q (.ref (s.heap.objs.size + 1)) { s with heap := h' }) : wpAny (model prog w) A (call (.type "enumerate") [v]) Q E s := by
  refine callType_new F.called_enumerate (by decide) (F.typeCall_enumerate_1 _) (F.newCall_enumerate_1 _) (fun obj => F.args_object_init_2 obj _) F.entry_enumerate_new (meets_enT B) ⟨h1, ?_⟩
  have hz : (s.heap.push o).objs.size = s.heap.objs.size + 1 := Heap.size_push ..
  show _ ∧ _; rw [hz]
  have he : IsEnum ((s.heap.push o).push (enO s.heap.objs.size)) (s.heap.objs.size + 1) s.heap.objs.size 0 .none := by
    have := Heap.get?_push_size (s.heap.push o) (o := enO s.heap.objs.size) rfl
    rw [hz] at this; exact this
  exact ⟨⟨_, he, rfl⟩, h _ he (Heap.get?_push_of_some _ (Heap.get?_push_size _ B.free)) fun b ob x => Heap.get?_push_of_some _ (Heap.get?_push_of_some _ x)⟩
end
/-- the items of the tuple at a, each in a new pair behind its number -/
def ItuT (K : PySem.W.Frag) (a : Addr) : It :=
  ⟨fun i H => ∃ (xs : List V) (x : V), SqT K H a xs ∧ xs[i]? = some x, fun i H v H' => ∃ T x, v = .ref T ∧ H T = none ∧ H' = upd H T (.tup [.int (i : Nat), x]) ∧ ∀ xs, SqT K H a xs → xs[i]? = some x, fun i H => ∃ xs : List V, SqT K H a xs ∧ i = xs.length⟩
theorem turn_enT {P : Program} {w : World} {K : PySem.W.Frag} {elts : List Expr} {kk : Nat} {tpos : Pos} (a e it : Addr) (hae : e ≠ a) (hai : a ≠ it) (hei : e ≠ it) :
    Turn P w K (.Tuple elts kk tpos) (ItuT K a) [e, it] e (fun i h => (∃ old, IsEnum h e it ((i : Nat) : Int) old) ∧ h.IsTupleIter it a i) where
  mem := by simp
  obj := fun i h st b hb => by
    obtain ⟨⟨old, he⟩, o, ho, hc, hd⟩ := st
    have e' : b = e ∨ b = it := by simpa using hb
    rcases e' with z | z
    · rw [z]; exact ⟨_, he, fun v q => nomatch q⟩
    · rw [z]; exact ⟨o, ho, fun v q => by rw [hd] at q; cases q⟩
  keep := fun i h h' st k => let ⟨⟨old, he⟩, hi⟩ := st; ⟨⟨old, k e (by simp) _ he⟩, hi.at fun o q => k it (by simp) o q⟩
  item := by
    intro X hP hw hK hc i pins s σ H E I hf st hg
    subst hP hw hK
    obtain ⟨⟨old, he⟩, hit⟩ := st
    obtain ⟨xs, x, hq, hx⟩ := hg
    obtain ⟨its, rv, p, hz⟩ := I.tuple hq
    obtain ⟨u, hu, ru⟩ := rv.get hx
    have hel : e < s.heap.objs.size := Heap.lt_size he
    have hil : it < s.heap.objs.size := by obtain ⟨_, q, _⟩ := hit; exact Heap.lt_size q
    have hlt : i < its.toArray.size := by have := (List.getElem?_eq_some_iff.mp hu).1; simpa using this
    refine wpAny_pyNext_enum_itemD (Draws.tuple (A := X.A.in1) (I.ok.hd hc) it a hai its.toArray) he ⟨hit, p⟩ hlt hei (by simp only [List.mem_cons, List.not_mem_nil, or_false, not_or]; exact ⟨hei, hae⟩) fun y h' tk hy ho hst' hT hsz hk => ?_
    have ey : y = u := by
      have hy : its.toArray[i]? = some y := hy
      rw [List.getElem?_toArray, hu] at hy
      exact (Option.some.inj hy).symm
    subst ey
    refine ⟨_, rfl, wpAny_letOwnedTupleGo_enum (s := { s with heap := h', toks := tk + 1 }) ho fun h'' he' sb => ?_⟩
    have hT2 : h''.get? s.heap.objs.size = some { cls := .type "tuple", data := .seq #[.int i tk, y] } := (sb.2 _ (Nat.ne_of_gt hel)).trans hT
    have new : ObjOk X.prog X.w (upd H s.heap.objs.size (.tup [.int (i : Nat), x])) h'' s.heap.objs.size (.tup [.int (i : Nat), x]) := ⟨by show 2 ≤ sizeLine; decide, [.int i tk, y], .cons ⟨_, rfl⟩ (.cons ru .nil), ⟨_, hT2, rfl, _, rfl⟩⟩
    have I1 : Inv X pins σ (upd H s.heap.objs.size (.tup [.int (i : Nat), x])) { s with heap := h'', toks := tk + 1 } := I.turnedNew (ch := [e, it]) (fun b ob hb q => (sb.2 b (fun z => hb (by simp [z]))).trans (hk b ob (fun z => hb (by simp [z])) (fun z => hb (by simp [z])) q)) hf (Nat.le_refl _) new
    refine ⟨.ref s.heap.objs.size, _, I1, rfl, ⟨_, x, rfl, I.hok.fresh (Nat.le_refl _), rfl, fun ys hy => by rw [I.tuple_inj hy hq]; exact hx⟩, ⟨⟨y, ?_⟩, hst'.1.at fun o q => (sb.2 it (Ne.symm hei)).trans q⟩, fun b hb => ?_⟩
    · rw [show ((i + 1 : Nat) : Int) = (i : Int) + 1 by omega]; exact he'
    · have hb' : b < s.heap.objs.size := by
        rcases (show b = e ∨ b = it by simpa using hb) with z | z <;> rw [z] <;> assumption
      rw [upd_ne (Nat.ne_of_lt hb')]; exact (hf b hb).1
  done := by
    intro X hP hw hK hc i pins s σ H E I hf st hg
    subst hP hw hK
    obtain ⟨⟨old, he⟩, hit⟩ := st
    obtain ⟨xs, hq, hx⟩ := hg
    obtain ⟨its, rv, p, hz⟩ := I.tuple hq
    obtain ⟨f0, f1, f2, f3, f4, f5⟩ := hf it (by simp)
    have hl := rv.length
    have D := Draws.tuple (prog := X.prog) (w := X.w) (A := X.A.in1) (I.ok.hd hc) it a hai its.toArray
    have hi : i = its.toArray.size := by rw [List.size_toArray]; omega
    subst hi
    exact wpAny_pyNext_enum_endD D he ⟨hit, p⟩ fun h' eb => ⟨rfl, I.turned (t' := s.toks) (fun b o hb q => eb b o hb q) f0 f1 f3 f4 f5⟩
  self := fun A i s Q E st h => let ⟨⟨_, he⟩, _⟩ := st; wpAny_pyIter_enum he h
theorem pi_enT {X : Cx} {e : Expr} {ta : TA} {p pos tpos : Pos} {elts : List Expr} {kk : Nat} (hg : Gl X "enumerate") (hm : X.mg "enumerate" = none) (ha : PA X [e] ta) (hs : starEach [e] X.env = [(false, eval e X.env)] := by rfl) :
    PI X (.Tuple elts kk tpos) (.Call (.Name "enumerate" p) [e] [] pos) (fun σ H R => ta σ H fun vs H1 => ∃ a xs, vs = [.ref a] ∧ SqT X.K H1 a xs ∧ R (ItuT X.K a) H1) := by
  refine ⟨fun pins s σ H R I h => Call_ (ld_blt I hg hm boot_enumerate (PyProof.Rows.callWith_type1 (thn (ha.run pos pins s σ H _ I h) fun us s1 ⟨vs, H1, I1, r1, a, xs, ex, hq, q⟩ => ?_) hs rfl))⟩
  subst ex
  cases r1 with
  | cons r rr =>
    cases rr; cases r
    obtain ⟨its, rv, p', hz⟩ := I1.tuple hq
    have hal : a < s1.heap.objs.size := by obtain ⟨_, q, _⟩ := p'; exact Heap.lt_size q
    refine call_enT (begins_tuple a its.toArray) p' fun h' he hit hk => wpAny_pyIter_enum he ?_
    have I2 : Inv X pins σ H1 { s1 with heap := h' } := I1.kept (t' := s1.toks) hk
    refine ⟨s1.heap.objs.size + 1, [s1.heap.objs.size + 1, s1.heap.objs.size], _, _, H1, rfl, I2, turn_enT a (s1.heap.objs.size + 1) s1.heap.objs.size (Nat.ne_of_gt (Nat.lt_succ_of_lt hal)) (Nat.ne_of_lt hal) (Nat.succ_ne_self _), ⟨⟨.none, he⟩, _, hit, rfl, rfl⟩, fun b hb => ?_, q⟩
    have hle : s1.heap.objs.size ≤ b := by
      rcases (show b = s1.heap.objs.size + 1 ∨ b = s1.heap.objs.size by simpa using hb) with z | z <;> rw [z] <;> first | exact Nat.le_refl _ | exact Nat.le_add_right _ _
    exact I1.fpOk hle (I1.hok.fresh hle)
theorem yl_enT {K : PySem.W.Frag} {F : Hp} {a : Addr} {vs : List V} {ds : List D} (h : SqT K F a vs) (r : Reps K F vs ds) : Yl K (ItuT K a) F (enumD 0 ds) := by
  unfold Yl
  rw [enumD_len, ← r.length]
  refine ⟨fun i H hi e => ⟨vs, vs[i], same_sqT e h, by simp [hi]⟩, fun H e => ⟨vs, same_sqT e h, rfl⟩, fun i H x H' hi e ⟨T, u, h1, h2, h3, h4⟩ => ?_⟩
  obtain ⟨d, h6, h7⟩ := r.get' (h4 vs (same_sqT e h))
  refine ⟨_, enumD_at h6, .inr (.inl ⟨T, _, _, h1, h2, h3, rfl, .cons ?_ (.cons h7 .nil)⟩)⟩
  rw [Nat.zero_add]
  exact .int _
section
variable {X : Cx} {N : En} {W : WX} {n : Nat} {δ : List (Option S)} {μ μ1 : List M} {e : Expr} {pos p tpos : Pos} {ds : List D} {elts : List Expr} {kk : Nat}
theorem di_enumT (g : Go X N W n) (ha : DA X N W δ μ [e] [.p (.tup ds)] μ1) (hm : X.mg "enumerate" = none) (hg : Gl X "enumerate" := by rfl) (hs : starEach [e] X.env = [(false, eval e X.env)] := by rfl) :
    DI X N W δ μ (.Tuple elts kk tpos) (.Call (.Name "enumerate" p) [e] [] pos) (enumD 0 ds) μ1 :=
  PI.imp (pi_enT hg hm ha hs) fun σ H Rk ⟨F, A, R, k⟩ => ⟨F, A, R, fun vs F1 A1 H1 e1 p1 R1 rv => by
    obtain ⟨v, rfl, r1⟩ := one_of rv
    have hK := g.hK
    rw [← hK]
    obtain ⟨a, ws, rfl, h1, h2⟩ := rep_tup (show Rep N.K F1 v (.tup ds) from r1)
    exact ⟨a, ws, rfl, same_sqT R1.rc.sub h1, k _ F1 A1 H1 e1 p1 R1 (yl_enT h1 h2)⟩⟩
end
end Dl
set_option Elab.async false
set_option linter.all false
set_option maxRecDepth 100000
set_option maxHeartbeats 4000000
set_option autoImplicit false
namespace Dl
open PySem PySem.Spec PyProof.Rows L2
/-! ## an int before an own object: the reflected method -/
end Dl
set_option Elab.async false
set_option linter.all false
set_option maxRecDepth 100000
set_option maxHeartbeats 4000000
set_option autoImplicit false
namespace Dl
open PySem PySem.Spec PyProof.Rows L2
end Dl
set_option Elab.async false
set_option linter.all false
set_option maxRecDepth 100000
set_option maxHeartbeats 4000000
set_option autoImplicit false
namespace Dl
open PySem PySem.Spec PyProof.Rows L2
/-! ## a def's promise where no guard stands around the call: for defs that write out containers -/
structure FnG (P : Program) (w : World) (K : PySem.W.Frag) (mg : Str → Option Value) (base : Heap) (CX : CXT) (k : Nat) (f : Addr) (fd : FuncData) (ps : List Str) (sp : Sp) : Prop where
  len : ∀ vs H Q E, sp vs H Q E → vs.length = ps.length
  go : ∀ (A : Around) (outer : List Env) (s : Shared) (H : Hp) (args : Args) (us : List Value) (vs : List V) (Q : VK) (E : XK), A.guards = some [] → Room k A → Env0 P w K mg base A outer s H → BindsTo s fd args (ps.zip us) → Vals vs us → sp vs H Q E →
    codeAny (model P w) A (.call (.ref f) args) (CR CX outer P w H s Q E) s
section
variable {P : Program} {w : World} {K : PySem.W.Frag} {mg : Str → Option Value} {base : Heap} {CX : CXT} {k j : Nat} {f : Addr} {fd : FuncData} {ps : List Str} {sp : Sp}
theorem FnG.of (F : FnOk P w K mg base CX k f fd ps sp) : FnG P w K mg base CX k f fd ps sp := ⟨F.len, fun A outer s H args us vs Q E _ => F.run A outer s H args us vs Q E⟩
end
/-- a def of the module by its name, called where no guard stands -/
structure Cg (P : Program) (w : World) (K : PySem.W.Frag) (mg : Str → Option Value) (base : Heap) (k : Nat) (x : Str) (dd : List D) (R : Rel) : Prop where
  ex : ∃ (f : Addr) (fd : FuncData) (ps : List Str) (ds : List Value) (dvs : List V), FnG P w K mg base (L2.CX P w) k f fd ps (spD K R) ∧ mg x = some (.ref f) ∧ PySem.W.keepIn K (.ref f) = true ∧ Binds K fd ps ds ∧ Vals dvs ds ∧ ∀ F, Reps K F dvs dd
theorem Cg.of {P : Program} {w : World} {K : PySem.W.Frag} {mg : Str → Option Value} {base : Heap} {k : Nat} {x : Str} {dd : List D} {R : Rel} (c : Cf P w K mg base k x dd R) : Cg P w K mg base k x dd R := by
  obtain ⟨f, fd, ps, ds, dvs, Fo, r⟩ := c.ex
  exact ⟨f, fd, ps, ds, dvs, .of Fo, r⟩
end Dl
set_option Elab.async false
set_option linter.all false
set_option maxRecDepth 100000
set_option maxHeartbeats 4000000
set_option autoImplicit false
namespace Dl
open PySem PySem.Spec PyProof.Rows L2
section
variable {X : Cx} {N : En} {W : WX} {n : Nat} {δ δ' δ1 δ2 : List (Option S)} {μ μ' μ1 μ2 μ3 : List M} {e a b c o : Expr} {es : List Expr} {ss : List S} {pos p apos : Pos} {d : D} {s s1 s2 : S} {r : Rx} {R : Rel} {k : Nat} {x m f : Str} {dd : List D} {C : Addr} {i : Int}
/-! ### // by any int but 0 -/
/-! ### math.gcd -/
/-! ### while, without break -/
inductive Wl (X : Cx) (N : En) (W : WX) (c : Expr) (body : List Stmt) : Nat → List (Option S) → List M → Os → Prop
  | stop {q : Nat} {u : List (Option S)} {v v1 : List M} : DT X N W u v c false v1 → Wl X N W c body q u v (.nx u v1)
  | turn {q : Nat} {u u1 : List (Option S)} {v v1 v2 : List M} {oo : Os} : DT X N W u v c true v1 → DSs X N W u v1 body (.nx u1 v2) → Wl X N W c body q u1 v2 oo → Wl X N W c body (q + 1) u v oo
theorem ds_while {body : List Stmt} {m : Nat} {o : Os} (g : Go X N W n) (h : Wl X N W c body m δ μ o) : DS X N W δ μ (.While c body [] pos) o := by
  have hc : PT X c (fun σ H Q => ∃ δt μt b μ1, DT X N W δt μt c b μ1 ∧ tDT N W δt μt b μ1 σ H Q) := ⟨fun p s σ H Q I ⟨δt, μt, b, μ1, hd, q⟩ => hd.run p s σ H Q I q⟩
  have hb : PSs X body (fun K σ H => ∃ δt μt o1, DSs X N W δt μt body o1 ∧ tDS N W δt μt o1 K σ H) := ⟨fun p s σ H K I ⟨δt, μt, o1, hd, q⟩ => hd.run p s σ H K I q⟩
  refine PS.imp (ps_while g.po hc hb) fun K σ H ⟨F, A, R, k⟩ => ?_
  refine ⟨fun m σ' H' => ∃ F' A' δ' μ', Same F F' ∧ A <+: A' ∧ Rl N F' A' H' σ' δ' μ' ∧ Wl X N W c body m δ' μ' o, ⟨m, F, A, δ, μ, Same.refl _, List.prefix_refl _, R, h⟩, ?_⟩
  rintro m σ' H' ⟨F', A', δ', μ', e', p', R', hL⟩
  have k' := k.to e' p'
  cases hL with
  | stop ht =>
    refine ⟨_, _, false, _, ht, F', A', R', fun F2 A2 H2 e2 p2 R2 => ?_⟩
    exact iteF (k' σ' F2 A2 H2 e2 p2 R2)
  | @turn m' _ δ1 _ μ1 μ2 _ ht hd hL =>
    refine ⟨_, _, true, _, ht, F', A', R', fun F2 A2 H2 e2 p2 R2 => ?_⟩
    refine iteT ⟨fun σ3 H3 => ∃ F3 A3, Same F F3 ∧ A <+: A3 ∧ Rl N F3 A3 H3 σ3 δ1 μ2, fun σ3 H3 ⟨F3, A3, a, b, c⟩ => ⟨m', Nat.lt_succ_self _, F3, A3, δ1, μ2, a, b, c, hL⟩, _, _, _, hd, F2, A2, R2, fun σ4 F4 A4 H4 e4 p4 R4 => ⟨F4, A4, (e'.trans e2).trans e4, (p'.trans p2).trans p4, R4⟩⟩
/-! ### int of a text -/
theorem c_intT {z : Str} {i : Int} (h : PySem.intText? z = some i) (hl : z.length ≤ 640) : CallOk X N W (.type "int") μ [.p (.str z)] (.v (.p (.int i))) μ :=
  ⟨_, call_int_str, fun σ δ F A H vs Q R rv k => by
    cases rv with
    | cons r1 rv =>
      cases rv
      cases rs_str r1
      exact ⟨z, i, rfl, h, hl, k.here R (.int _)⟩⟩
/-! ### f-texts -/
/-! ### repr(o), by an own __repr__ -/
end
end Dl
set_option Elab.async false
set_option linter.all false
set_option maxRecDepth 100000
set_option maxHeartbeats 4000000
set_option autoImplicit false
namespace Dl
open PySem PySem.Spec PyProof.Rows L2
/-! ## comprehensions of two fors, nothing that stood is changed -/
/-- the list that is built, at D0 -/
structure Sd (N : En) (μ : List M) (D0 : Addr) (acc : List D) (F : Hp) (A : List Addr) (H : Hp) : Prop where
  rc : Rc N F A H μ
  at_ : ∃ vs, H D0 = some (.lst vs) ∧ Reps N.K F vs acc
  f : F D0 = none
  a : D0 ∉ A
section
variable {N : En} {μ : List M} {D0 : Addr} {acc : List D} {F F' : Hp} {A A' : List Addr} {H H' : Hp} {d y : D} {x v : V}
theorem Sd.go (h : Sd N μ D0 acc F A H) (R : Rc ⟨N.K, H, F, A⟩ F' A' H' μ) (e : Same F F') : Sd N μ D0 acc F' A' H' := by
  obtain ⟨vs, h1, h2⟩ := h.at_
  have k4 : H' D0 = some (.lst vs) := R.keep D0 _ h1 h.a
  refine ⟨h.rc.back R, ⟨vs, k4, h2.mono e⟩, ?_, fun hm => ?_⟩
  · cases q : F' D0 with
    | none => rfl
    | some o =>
      rcases R.new D0 o q with ⟨o', z⟩ | z | ⟨_, xs, z⟩
      · have z' : F D0 = some o' := z
        rw [h.f] at z'; cases z'
      · have z' : H D0 = none := z
        rw [h1] at z'; cases z'
      · have z' : H D0 = some (.tup xs) := z
        rw [h1] at z'; cases z'
  · obtain ⟨B, eB, hB⟩ := R.pre
    rw [eB] at hm
    rcases List.mem_append.mp hm with z | z
    · exact h.a z
    · have z' : H D0 = none := hB _ z
      rw [h1] at z'; cases z'
theorem Sd.item (h : Sd N μ D0 acc F A H) (it : ItemAt N.K F H x H' d) : ∃ F', Same F F' ∧ Sd N μ D0 acc F' A H' ∧ Rep N.K F' x d := by
  rcases it with ⟨rfl, r⟩ | ⟨T, ws, es, rfl, nT, rfl, rfl, r⟩ | ⟨ks, q, rfl, rfl, rfl, hq⟩
  · exact ⟨F, Same.refl _, h, r⟩
  · obtain ⟨vs, h1, h2⟩ := h.at_
    have sm := same_updN (o := .tup ws) (h.rc.fresh nT).2.1
    refine ⟨_, sm, ⟨h.rc.frozen nT _, ⟨vs, ?_, h2.mono sm⟩, ?_, h.a⟩, .tup (SqT.of upd_same) (r.mono sm)⟩
    · rw [upd_ne (ne_of_none h1 nT)]; exact h1
    · rw [upd_ne (ne_of_none h1 nT)]; exact h.f
  · obtain ⟨vs, h1, h2⟩ := h.at_
    obtain ⟨F', sm, hq2, hne, r'⟩ := h.rc.adoptK hq
    exact ⟨F', sm, ⟨r', ⟨vs, h1, h2.mono sm⟩, by rw [hne D0 fun z => by rw [z, hq] at h1; cases h1]; exact h.f, h.a⟩, .key hq2⟩
theorem Sd.snoc (h : Sd N μ D0 acc F A H) (h0 : N.H0 D0 = none) (r : Rep N.K F v y) : ∃ vs, H D0 = some (.lst vs) ∧ vs.length = acc.length ∧ Sd N μ D0 (acc ++ [y]) F A (upd H D0 (.lst (vs ++ [v]))) := by
  obtain ⟨vs, h1, h2⟩ := h.at_
  exact ⟨vs, h1, h2.length, h.rc.poke h.f h.a h0 _, ⟨_, upd_same, h2.snoc r⟩, h.f, h.a⟩
end
section
variable {X : Cx} {N : En} {W : WX} {n : Nat} {δ : List (Option S)} {μ : List M} {elt tg iter tg1 iter1 c : Expr} {pos : Pos} {ds : List D} {scope : Scope} {own : List (Str × Nat)} {vs1 : List Nat} {f f1 : As} {ix ix1 : List Nat}
/-- what is gone over inside -/
def tiB (X : Cx) (K : PySem.W.Frag) (n : Nat) (scope : Scope) (tg1 iter1 : Expr) : TI := fun σ H Rk => ∃ (N' : En) (F : Hp) (A : List Addr) (δt : List (Option S)) (μt : List M) (es : List D), N'.K = K ∧ Rl N' F A H σ δt μt ∧
  (∀ s H C cl fp N', N'.K = K → Go (blkX X scope s H C cl fp) N' W0 n → DI (blkX X scope s H C cl fp) N' W0 δt μt tg1 iter1 es μt) ∧ ∀ J F' A' H', Same F F' → A <+: A' → Rl N' F' A' H' σ δt μt → Yl K J F' es → Rk J H'
theorem pi_tiB (g : Go X N W n) {s : Shared} {H : Hp} {C : Addr} {cl : List (Str × Addr)} {fp : List Addr} : PI (blkX X scope s H C cl fp) tg1 iter1 (tiB X N.K n scope tg1 iter1) :=
  ⟨fun pins s σ H Q I ⟨N', F, A, δt, μt, es, hK, R, hd, k⟩ => (hd _ _ _ _ _ N' hK (g.blk hK)).run pins s σ H Q I ⟨F, A, R, fun J F' A' H' a b c d => k J F' A' H' a b c (by rw [← hK]; exact d)⟩⟩
def flat2 (b : D → Bool) (es : D → List D) (y : D → D → D) (l : List D) : List D := l.flatMap fun d => if b d = true then (es d).map (y d) else []
theorem lc2_go (b : D → Bool) (es : D → List D) (y : D → D → D) (hz : (flat2 b es y ds).length ≤ sizeLine) {J : It} {F1 : Hp} {A1 : List Addr} {H1 : Hp} {σ : L2.St} {tt : TT} {D0 : Addr} {Qd : Hp → Prop} (R1 : Rl N F1 A1 H1 σ δ μ) (yl : Yl N.K J F1 ds) (hD : H1 D0 = none)
    (hix : ∀ i ∈ ix, i ∈ own.map (·.2)) (hix1 : ∀ i ∈ ix1, i ∈ vs1)
    (hf : ∀ d ∈ ds, ∃ δt, f d (wipeD δ (own.map (·.2))) = some δt ∧
      (∀ N' F A σ2 H2 (Q : Bool → Hp → Prop), N'.K = N.K → Rl N' F A H2 σ2 δt μ → (∀ F' A' H', Same F F' → A <+: A' → Rl N' F' A' H' σ2 δt μ → Q (b d) H') → tt σ2 H2 Q) ∧
      (b d = true → (∀ s H C cl fp N', N'.K = N.K → Go (blkX X scope s H C cl fp) N' W0 n → DI (blkX X scope s H C cl fp) N' W0 δt μ tg1 iter1 (es d) μ) ∧
        ∀ e ∈ es d, ∃ δe, f1 e (wipeD δt vs1) = some δe ∧ DEB X N.K n scope elt δe μ (y d e) μ))
    (hq : ∀ F' A' H', Same F1 F' → A1 <+: A' → Sd N μ D0 (flat2 b es y ds) F' A' H' → Qd H') :
    ∃ Wt : Nat → Nat → Hp → Prop, (∃ m, Wt 0 m (upd H1 D0 (.lst []))) ∧ ∀ i m H, Wt i m H →
      (J.stop i H ∧ Qd H) ∨ (J.go i H ∧ ∃ Nx : Hp → Prop, (∀ H', Nx H' → ∃ m', m' < m ∧ Wt (i + 1) m' H') ∧ ∀ x H', J.yld i H x H' → tGd N f ix x (wipe σ (own.map (·.2))) H' fun σ2 H2 => wipe σ2 (own.map (·.2)) = wipe σ (own.map (·.2)) ∧ tt σ2 H2 fun b H3 =>
        if b = true then tiB X N.K n scope tg1 iter1 σ2 H3 fun J1 H4 => ∃ W1 : Nat → Nat → Hp → Prop, (∃ m, W1 0 m H4) ∧ ∀ j k H, W1 j k H →
          (J1.stop j H ∧ Nx H) ∨ (J1.go j H ∧ ∃ Nx1 : Hp → Prop, (∀ H', Nx1 H' → ∃ k', k' < k ∧ W1 (j + 1) k' H') ∧ ∀ x H', J1.yld j H x H' → tGd N f1 ix1 x (wipe σ2 vs1) H' fun σ3 H5 => wipe σ3 vs1 = wipe σ2 vs1 ∧ tYes σ3 H5 fun b H6 =>
            if b = true then teB X N.K n scope elt σ3 H6 fun y H7 => ∃ acc, H7 D0 = some (.lst acc) ∧ acc.length < sizeLine ∧ Nx1 (upd H7 D0 (.lst (acc ++ [y]))) else Nx1 H6)
        else Nx H3) := by
  have h0 := R1.rc.fresh hD
  have wp : ∀ (σ : L2.St) (vs : List Nat), wipe (wipe σ vs) vs = wipe σ vs := fun σ vs => by
    apply List.ext_getElem?
    intro j
    rw [wipe_get, wipe_get]
    by_cases hj : j ∈ vs
    · rw [if_pos hj, if_pos hj]; cases σ[j]? <;> rfl
    · rw [if_neg hj, if_neg hj]
  refine ⟨fun i m H => i ≤ ds.length ∧ m = ds.length - i ∧ ∃ F A acc, Same F1 F ∧ A1 <+: A ∧ Sd N μ D0 acc F A H ∧ acc ++ flat2 b es y (ds.drop i) = flat2 b es y ds,
    ⟨ds.length, Nat.zero_le _, by simp, F1, A1, [], Same.refl _, List.prefix_refl _, ⟨R1.rc.junk hD _, ⟨[], upd_same, .nil⟩, h0.2.1, h0.2.2⟩, by simp⟩, ?_⟩
  rintro i m H ⟨hi, rfl, F, A, acc, e, p, sd, hy⟩
  by_cases hlt : i < ds.length
  · refine .inr ⟨yl.goes i H hlt (e.trans sd.rc.sub), fun H' => ∃ F A acc, Same F1 F ∧ A1 <+: A ∧ Sd N μ D0 acc F A H' ∧ acc ++ flat2 b es y (ds.drop (i + 1)) = flat2 b es y ds,
      fun H' ⟨F, A, acc, a⟩ => ⟨ds.length - (i + 1), by omega, hlt, rfl, F, A, acc, a⟩, fun x H' hyd => ?_⟩
    obtain ⟨d, hd, it⟩ := (yl.mono e).yields i H x H' hlt sd.rc.sub hyd
    obtain ⟨F2, e2, sd2, rx⟩ := sd.item it
    have hdm : d ∈ ds := List.mem_of_getElem? hd
    obtain ⟨δt, hft, hC, hI⟩ := hf d hdm
    rw [List.drop_eq_getElem_cons hlt] at hy
    have hd' : ds[i] = d := by
      rw [List.getElem?_eq_getElem hlt] at hd
      exact Option.some.inj hd
    rw [hd'] at hy
    have hy2 : acc ++ ((if b d = true then (es d).map (y d) else []) ++ flat2 b es y (ds.drop (i + 1))) = flat2 b es y ds := by
      rw [← hy]
      unfold flat2
      rw [List.flatMap_cons]
    have Rw := (R1.to (e.trans e2) p sd2.rc).wiped (own.map (·.2))
    refine ⟨F2, A, _, μ, d, δt, Rw, rx, hft, fun σ2 w2 R3 => ⟨(wipe_sub hix w2).trans (wp _ _), ?_⟩⟩
    have R3' : Rl ⟨N.K, H', F2, A⟩ F2 A H' σ2 δt μ := ⟨R3.rc.entry, R3.len, R3.sl⟩
    refine hC ⟨N.K, H', F2, A⟩ F2 A σ2 H' _ rfl R3' fun F4 A4 H4 e4 p4 R4 => ?_
    have sd4 := sd2.go R4.rc e4
    have s4 : Same F1 F4 := (e.trans e2).trans e4
    have p4' : A1 <+: A4 := p.trans p4
    cases hb : b d with
    | false =>
      rw [hb, if_neg (by decide), List.nil_append] at hy2
      exact iteF ⟨F4, A4, acc, s4, p4', sd4, hy2⟩
    | true =>
      rw [hb, if_pos rfl] at hy2
      obtain ⟨hdi, hel⟩ := hI hb
      have R4' : Rl ⟨N.K, H4, F4, A4⟩ F4 A4 H4 σ2 δt μ := ⟨sd4.rc.entry, R4.len, R4.sl⟩
      refine iteT ⟨⟨N.K, H4, F4, A4⟩, F4, A4, δt, μ, es d, rfl, R4', hdi, fun J1 F5 A5 H5 e5 p5 R5 y5 => ?_⟩
      have sd5 := sd4.go R5.rc e5
      refine ⟨fun j k H => j ≤ (es d).length ∧ k = (es d).length - j ∧ ∃ F A acc, Same F5 F ∧ A5 <+: A ∧ Sd N μ D0 acc F A H ∧ acc ++ (((es d).drop j).map (y d) ++ flat2 b es y (ds.drop (i + 1))) = flat2 b es y ds,
        ⟨(es d).length, Nat.zero_le _, by simp, F5, A5, acc, Same.refl _, List.prefix_refl _, sd5, by rw [List.drop_zero]; exact hy2⟩, ?_⟩
      rintro j k H6 ⟨hj, rfl, F6, A6, acc6, e6, p6, sd6, hy6⟩
      by_cases hlj : j < (es d).length
      · refine .inr ⟨y5.goes j H6 hlj (e6.trans sd6.rc.sub), fun H' => ∃ F A acc, Same F5 F ∧ A5 <+: A ∧ Sd N μ D0 acc F A H' ∧ acc ++ (((es d).drop (j + 1)).map (y d) ++ flat2 b es y (ds.drop (i + 1))) = flat2 b es y ds,
          fun H' ⟨F, A, acc, a⟩ => ⟨(es d).length - (j + 1), by omega, hlj, rfl, F, A, acc, a⟩, fun x7 H7 hyd7 => ?_⟩
        obtain ⟨d7, hd7, it7⟩ := (y5.mono e6).yields j H6 x7 H7 hlj sd6.rc.sub hyd7
        obtain ⟨F7, e7, sd7, rx7⟩ := sd6.item it7
        obtain ⟨δe, hfe, hde⟩ := hel d7 (List.mem_of_getElem? hd7)
        rw [List.drop_eq_getElem_cons hlj] at hy6
        have hd7' : (es d)[j] = d7 := by
          rw [List.getElem?_eq_getElem hlj] at hd7
          exact Option.some.inj hd7
        rw [hd7', List.map_cons, List.cons_append] at hy6
        have R3n : Rl N F2 A H' σ2 δt μ := R3
        have s7 : Same F2 F7 := (e4.trans e5).trans (e6.trans e7)
        have p7 : A <+: A6 := (p4.trans p5).trans p6
        have Rn : Rl N F7 A6 H7 σ2 δt μ := R3n.to s7 p7 sd7.rc
        have Rw7 := Rn.wiped vs1
        refine ⟨F7, A6, _, μ, d7, δe, Rw7, rx7, hfe, fun σ3 w3 R8 => ⟨(wipe_sub hix1 w3).trans (wp _ _), ?_⟩⟩
        have R8' : Rl ⟨N.K, H7, F7, A6⟩ F7 A6 H7 σ3 δe μ := ⟨R8.rc.entry, R8.len, R8.sl⟩
        show teB X N.K n scope elt σ3 H7 _
        refine ⟨⟨N.K, H7, F7, A6⟩, F7, A6, δe, μ, y d d7, μ, rfl, R8', hde, fun v F9 A9 H9 e9 p9 R9 rv => ?_⟩
        have sd9 := sd7.go R9.rc e9
        obtain ⟨ws, hw1, hw2, sd10⟩ := sd9.snoc h0.1 rv
        refine ⟨ws, hw1, ?_, F9, A9, acc6 ++ [y d d7], (e6.trans e7).trans e9, p6.trans p9, sd10, ?_⟩
        · have := congrArg List.length hy6
          rw [List.length_append, List.length_cons] at this
          omega
        · rw [List.append_assoc]
          exact hy6
      · have hj' : j = (es d).length := by omega
        subst hj'
        refine .inl ⟨y5.stops H6 (e6.trans sd6.rc.sub), F6, A6, acc6, (s4.trans e5).trans e6, (p4'.trans p5).trans p6, sd6, ?_⟩
        rw [List.drop_length, List.map_nil, List.nil_append] at hy6
        exact hy6
  · have hi' : i = ds.length := by omega
    subst hi'
    refine .inl ⟨yl.stops H (e.trans sd.rc.sub), ?_⟩
    rw [List.drop_length] at hy
    have hy' : acc = flat2 b es y ds := by rw [← hy]; simp [flat2]
    subst hy'
    exact hq F A H e p sd
/-- [elt for tg in iter for tg1 in iter1] -/
theorem de_lc2 (es : D → List D) (y : D → D → D) (g : Go X N W n) (own : List (Str × Nat)) (vs1 : List Nat) (hi : DI X N W δ μ tg iter ds μ) (hg : ∀ s H C cl fp, DG (blkX X scope s H C cl fp) N tg f ix) (hg1 : ∀ s H C cl fp, DG (blkX X scope s H C cl fp) N tg1 f1 ix1)
    (hf : ∀ d ∈ ds, ∃ δt, f d (wipeD δ (own.map (·.2))) = some δt ∧
      (∀ s H C cl fp N', N'.K = N.K → Go (blkX X scope s H C cl fp) N' W0 n → DI (blkX X scope s H C cl fp) N' W0 δt μ tg1 iter1 (es d) μ) ∧
        ∀ e ∈ es d, ∃ δe, f1 e (wipeD δt vs1) = some δe ∧ DEB X N.K n scope elt δe μ (y d e) μ)
    (hz : (flat2 (fun _ => true) es y ds).length ≤ sizeLine)
    (ok : BlkOk X.N X.env.scope scope own := by exact blkOk_by (by decide +kernel)) (hv : ∀ i ∈ vs1, i ∈ own.map (·.2) := by decide) (hix : ∀ i ∈ ix, i ∈ own.map (·.2) := by decide) (hix1 : ∀ i ∈ ix1, i ∈ vs1 := by decide)
    (hs : ∀ x, foldedSetIterable iter X.env x = pure x := by intro _; rfl) (hs1 : ∀ env x, foldedSetIterable iter1 env x = pure x := by intro _ _; rfl) :
    DE X N W δ μ (.ListComp elt [⟨tg, iter, [], 0⟩, ⟨tg1, iter1, [], 0⟩] scope pos) (.v (.p (.lst (flat2 (fun _ => true) es y ds)))) μ :=
  PE.imp (pe_lc2 (own := own) (vs1 := vs1) g.calm g.nd hi ok hv hg (fun _ _ _ _ _ => pts_nil) (fun s H C cl fp => pi_tiB g) hg1 (fun _ _ _ _ _ => pts_nil) (fun s H C cl fp => pe_teB g) hs hs1) fun σ H Q ⟨F, A, R, k⟩ =>
    ⟨F, A, R, fun J F1 A1 H1 e1 p1 R1 yl D0 hD => lc2_go (fun _ => true) es y hz R1 yl hD hix hix1 (fun d hd => by
      obtain ⟨δt, h1, h2, h3⟩ := hf d hd
      exact ⟨δt, h1, fun N' F A σ2 H2 Q _ R k => k F A H2 (Same.refl _) (List.prefix_refl _) R, fun _ => ⟨h2, h3⟩⟩) fun F' A' H' e p sd => by
        obtain ⟨vs, q1, q2⟩ := sd.at_
        exact lc_frz (W := W) R k D0 F' A' H' vs (e1.trans e) (p1.trans p) sd.rc q1 sd.f sd.a (R1.rc.fresh hD).1 q2⟩
/-- [elt for tg in iter if c for tg1 in iter1] -/
theorem de_lc2If (b : D → Bool) (es : D → List D) (y : D → D → D) (g : Go X N W n) (own : List (Str × Nat)) (vs1 : List Nat) (hi : DI X N W δ μ tg iter ds μ) (hg : ∀ s H C cl fp, DG (blkX X scope s H C cl fp) N tg f ix) (hg1 : ∀ s H C cl fp, DG (blkX X scope s H C cl fp) N tg1 f1 ix1)
    (hf : ∀ d ∈ ds, ∃ δt, f d (wipeD δ (own.map (·.2))) = some δt ∧ DTB X N.K n scope c δt μ (b d) μ ∧ (b d = true →
      (∀ s H C cl fp N', N'.K = N.K → Go (blkX X scope s H C cl fp) N' W0 n → DI (blkX X scope s H C cl fp) N' W0 δt μ tg1 iter1 (es d) μ) ∧
        ∀ e ∈ es d, ∃ δe, f1 e (wipeD δt vs1) = some δe ∧ DEB X N.K n scope elt δe μ (y d e) μ))
    (hz : (flat2 b es y ds).length ≤ sizeLine)
    (ok : BlkOk X.N X.env.scope scope own := by exact blkOk_by (by decide +kernel)) (hv : ∀ i ∈ vs1, i ∈ own.map (·.2) := by decide) (hix : ∀ i ∈ ix, i ∈ own.map (·.2) := by decide) (hix1 : ∀ i ∈ ix1, i ∈ vs1 := by decide)
    (hs : ∀ x, foldedSetIterable iter X.env x = pure x := by intro _; rfl) (hs1 : ∀ env x, foldedSetIterable iter1 env x = pure x := by intro _ _; rfl) :
    DE X N W δ μ (.ListComp elt [⟨tg, iter, [c], 0⟩, ⟨tg1, iter1, [], 0⟩] scope pos) (.v (.p (.lst (flat2 b es y ds)))) μ :=
  PE.imp (pe_lc2 (own := own) (vs1 := vs1) g.calm g.nd hi ok hv hg (fun _ _ _ _ _ => pts_one (pt_ttB g)) (fun s H C cl fp => pi_tiB g) hg1 (fun _ _ _ _ _ => pts_nil) (fun s H C cl fp => pe_teB g) hs hs1) fun σ H Q ⟨F, A, R, k⟩ =>
    ⟨F, A, R, fun J F1 A1 H1 e1 p1 R1 yl D0 hD => lc2_go b es y hz R1 yl hD hix hix1 (fun d hd => by
      obtain ⟨δt, h1, h2, h3⟩ := hf d hd
      exact ⟨δt, h1, fun N' F A σ2 H2 Q hK R k => ⟨N', F, A, δt, μ, b d, μ, hK, R, h2, k⟩, h3⟩) fun F' A' H' e p sd => by
        obtain ⟨vs, q1, q2⟩ := sd.at_
        exact lc_frz (W := W) R k D0 F' A' H' vs (e1.trans e) (p1.trans p) sd.rc q1 sd.f sd.a (R1.rc.fresh hD).1 q2⟩
end
end Dl
set_option Elab.async false
set_option linter.all false
set_option maxRecDepth 100000
set_option maxHeartbeats 4000000
set_option autoImplicit false
namespace Dl
open PySem PySem.Spec PyProof.Rows L2
/-! ## len(set(xs)), xs a list of texts -/
abbrev newSet2 (w : World) : Obj := { cls := .type "set", dict := none, data := .set #[] 0 (.fresh 0 0 (!w.params.followText "set-order")) }
def addN (acc : List Str) (z : Str) : List Str := if z ∈ acc then acc else acc ++ [z]
/-- each once -/
def uniqN (zs : List Str) : List Str := zs.foldl addN []
theorem mem_addN {acc : List Str} {z k : Str} : k ∈ addN acc z ↔ k ∈ acc ∨ k = z := by
  unfold addN
  split
  · rename_i h
    exact ⟨.inl, fun q => q.elim id fun e => e ▸ h⟩
  · simp
theorem mem_uniqN (k : Str) (zs : List Str) : k ∈ uniqN zs ↔ k ∈ zs := by
  have go : ∀ (zs acc : List Str), k ∈ zs.foldl addN acc ↔ k ∈ acc ∨ k ∈ zs := by
    intro zs
    induction zs with
    | nil => intro acc; simp
    | cons z zs ih =>
      intro acc
      rw [List.foldl_cons, ih, mem_addN, List.mem_cons, or_assoc]
  exact (go zs []).trans (by simp)
theorem uniqN_snoc (zs : List Str) (z : Str) : (uniqN (zs ++ [z])).length = if z ∈ zs then (uniqN zs).length else (uniqN zs).length + 1 := by
  unfold uniqN
  rw [List.foldl_append]
  show (addN (uniqN zs) z).length = _
  unfold addN
  by_cases h : z ∈ zs
  · rw [if_pos h, if_pos ((mem_uniqN z zs).mpr h)]
    rfl
  · rw [if_neg h, if_neg fun q => h ((mem_uniqN z zs).mp q), List.length_append]
    rfl
theorem uniqN_le (zs : List Str) : (uniqN zs).length ≤ zs.length := by
  have go : ∀ (zs acc : List Str), (zs.foldl addN acc).length ≤ acc.length + zs.length := by
    intro zs
    induction zs with
    | nil => intro acc; simp
    | cons z zs ih =>
      intro acc
      rw [List.foldl_cons]
      refine Nat.le_trans (ih _) ?_
      have : (addN acc z).length ≤ acc.length + 1 := by unfold addN; split <;> simp
      rw [List.length_cons]
      omega
  have := go zs []
  rw [List.length_nil, Nat.zero_add] at this
  exact this
section
variable {P : Program} {w : World} {A : Around} {E : Value → Shared → Prop} {s : Shared}
theorem setS_at {h h' : Heap} {a : Addr} {S : Str → Bool} {n : Nat} (R : h.SetOf (strKind P w) a S n) (k : ∀ o, h.get? a = some o → h'.get? a = some o) : h'.SetOf (strKind P w) a S n := by
  obtain ⟨o, es, ep, t, ho, r⟩ := R
  exact ⟨o, es, ep, t, k o ho, r⟩
theorem setS_is {h : Heap} {a : Addr} {S S' : Str → Bool} {n n' : Nat} (R : h.SetOf (strKind P w) a S n) (e : ∀ k, S k = S' k) (en : n = n') : h.SetOf (strKind P w) a S' n' := by
  obtain rfl : S = S' := funext e
  subst en
  exact R
theorem setS_new {h : Heap} {a : Addr} (ho : h.get? a = some (newSet2 w)) : h.SetOf (strKind P w) a (fun j => decide (j ∈ ([] : List Str))) 0 :=
  ⟨_, #[], 0, _, ho, ⟨rfl, rfl, rfl⟩, rfl, fun e he => by simp at he, fun k => by simp, by decide, by rfl, rfl⟩
theorem upd_strs {I : Addr} {fp wr : List Addr} {G : Array GenState → Array GenState → Prop} {n : Nat} {Pv : Nat → Value → Prop} {St : Nat → Shared → Prop} {R : Result → Shared → Prop}
    (W : WalksS P w A.in1 I fp wr G n Pv St) (b0 : Addr) (off : b0 ∉ fp) (zs : List Str) (ln : n = zs.length) (few : zs.length + 1 < scanBound) (val : ∀ i v, Pv i v → ∃ z t, zs[i]? = some z ∧ v = .str z t) :
    ∀ (k i : Nat) (s : Shared), n - i = k → i ≤ n → St i s → s.heap.SetOf (strKind P w) b0 (fun j => decide (j ∈ zs.take i)) (uniqN (zs.take i)).length →
      (∀ s', Moved (b0 :: wr) G s s' → s'.heap.SetOf (strKind P w) b0 (fun j => decide (j ∈ zs)) (uniqN zs).length → R (.ok (.ret .none)) s') →
      codeAny (model P w) A (.builtin "set.update.loop" ⟨[.ref b0, .ref I], []⟩) R s := by
  have offW : b0 ∉ wr := fun q => off (W.sub _ q)
  have inW : ∀ b ∈ wr, b ∈ b0 :: wr := fun b q => List.mem_cons_of_mem _ q
  intro k
  induction k with
  | zero =>
    intro i s kn le st have_ last
    obtain rfl : i = n := by omega
    refine codeAny_builtin (F.entry_set_update_loop) ?_
    rw [Around.under_plainId (F.plain_set_update_loop) _]
    show wpAny (model P w) A.in1 (pyNext (.ref I) >>= _) _ _ s
    refine wpAny_bind (W.done s _ _ st fun s1 mv => ?_)
    show wpAny (model P w) A.in1 (ret Value.none) _ _ s1
    rw [List.take_of_length_le (by omega)] at have_
    exact wpAny_pure (last s1 (mv.mono inW) (setS_at have_ fun o q => mv.heap b0 o offW q))
  | succ k ih =>
    intro i s kn le st have_ last
    have lt : i < n := by omega
    refine codeAny_builtin (F.entry_set_update_loop) ?_
    rw [Around.under_plainId (F.plain_set_update_loop) _]
    show wpAny (model P w) A.in1 (pyNext (.ref I) >>= _) _ _ s
    refine wpAny_bind (W.item i s _ _ lt st fun v s1 pv st1 mv => ?_)
    obtain ⟨z, t, zi, rfl⟩ := val i v pv
    have now := setS_at have_ fun o q => mv.heap b0 o offW q
    show wpAny (model P w) A.in1 (holding [Value.str z t] (setAdd b0 (.str z t)) >>= _) _ _ s1
    refine wpAny_bind (wpAny_holding ?_)
    unfold setAdd
    refine wpAny_holding ?_
    have room : (uniqN (zs.take i)).length ≤ zs.length := Nat.le_trans (uniqN_le _) (by rw [List.length_take]; omega)
    refine wpAny_bind ((strKind P w).pyHash (k := z) (strKind_is _ _ _ _) ?_)
    refine wpAny_setAddHashed_of (s := { s1 with toks := s1.toks + 1 }) (strKind_is _ _ _ _) rfl now (by omega) fun h1 sb now1 => ?_
    have tk1 : zs.take (i + 1) = zs.take i ++ [z] := by rw [List.take_add_one, zi] <;> rfl
    have now2 := setS_is now1 (S' := fun j => decide (j ∈ zs.take (i + 1))) (n' := (uniqN (zs.take (i + 1))).length) (fun j => by rw [tk1]; simp [List.mem_append]) (by
      rw [tk1, uniqN_snoc]
      by_cases q : z ∈ zs.take i
      · simp [q]
      · simp [q])
    refine wpAny_pure ⟨plainId_quiet (F.plain_set_update_loop) _, ih (i + 1) _ (by omega) lt (W.frame _ s1 _ _ st1 (Nat.le_succ _) fun b hb o q => ?_) now2 fun s2 mv2 end_ => ?_⟩
    · rw [sb.2 b (fun e : b = b0 => off (e ▸ hb))]
      exact q
    · refine last s2 (Moved.trans W.gtrans ((mv.mono inW).then_heap (Nat.le_succ _) fun b o hb q => ?_) mv2) end_
      rw [sb.2 b (fun e : b = b0 => hb (e ▸ List.mem_cons_self))]
      exact q
theorem set_of_strs {l : Addr} {items : Array Value} (zs : List Str) {Q : Value → Shared → Prop} (calm : A.handled = none) (isl : s.heap.IsList l items) (isi : ∀ (i : Nat) (v : Value), items[i]? = some v → ∃ z t, zs[i]? = some z ∧ v = .str z t) (size : items.size = zs.length) (few : zs.length + 1 < scanBound)
    (k : ∀ (g : Heap) (tk : Nat), g.SetOf (strKind P w) s.heap.objs.size (fun j => decide (j ∈ zs)) (uniqN zs).length → (∀ b o, s.heap.get? b = some o → g.get? b = some o) → Q (.ref s.heap.objs.size) { s with heap := g, toks := tk }) :
    wpAny (model P w) A (call (.type "set") [.ref l]) Q E s := by
  obtain ⟨c0, tl0, mro0⟩ := F.called_set.mro
  have m1 := F.called_set.made
  have m2 := F.called_set.sub
  refine wpAny_call (codeAny_of_tree ?_)
  show wpAny _ _ (callAny (.type "set") _) _ _ _
  refine wpAny_pure ⟨Code.quiet_builtin _ (by decide +kernel), codeAny_builtin F.entry_type_call ?_⟩
  rw [Around.under_plain (weight_type_call_type "set" [.ref l] []) rfl]
  have m3 := F.called_set.notType
  have m4 := F.called_set.canCreate
  have m5 := F.typeCall_set_1 (.ref l)
  repeat any_goals first | wp_step | assumption
  refine codeAny_mono (code_set_led1 (.ref l) (E := E) (Q₁ := fun ob t => ob = .ref s.heap.objs.size ∧ t = { s with heap := s.heap.push (newSet2 w) }) ⟨rfl, rfl⟩) fun r t hr => ?_
  cases r with
  | error e => exact hr
  | ok fl =>
    cases fl with
    | next => exact hr.elim
    | brk => exact hr.elim
    | cont => exact hr.elim
    | ret ob =>
      obtain ⟨rfl, rfl⟩ := hr
      have atS : (s.heap.push (newSet2 w)).get? s.heap.objs.size = some (newSet2 w) := Heap.get?_push_size _ rfl
      have tyS : Shared.TypeIs { s with heap := s.heap.push (newSet2 w) } (.ref s.heap.objs.size) "set" := ⟨_, atS, rfl⟩
      have i1 := F.called_set.init.lookup
      have i2 := F.called_set.init.bind (.ref s.heap.objs.size)
      repeat any_goals first | wp_step | assumption
      refine codeAny_mono (codeAny_call_builtin (R := wants (fun v t => v = .none ∧ ∃ g tk, t = { s with heap := g, toks := tk } ∧ g.SetOf (strKind P w) s.heap.objs.size (fun j => decide (j ∈ zs)) (uniqN zs).length ∧ (∀ b o, s.heap.get? b = some o → g.get? b = some o)) E)
        F.called_set.init.plain F.entry_set_init (check_set_init_1 tyS ?_)) fun r2 t2 hr2 => ?_
      · obtain ⟨⟨oc, od, oda, osl⟩, holo, hcl, nl, hdl⟩ := isl
        simp only at hcl hdl
        subst hcl hdl
        have atL : (s.heap.push (newSet2 w)).get? l = some { cls := .type "list", dict := od, data := .seq items nl, slots := osl } := Heap.get?_push_of_some _ holo
        have lst : (s.heap.push (newSet2 w)).IsList l items := ⟨_, atL, rfl, nl, rfl⟩
        have n1 := F.sub_list_set
        have n2 := F.sub_list_frozenset
        have n3 : (Value.type "list" == Value.type "dict") = false := by decide
        unfold Builtin.«set.__init__» noKeywords Builtin.Frozenset.updateFrom
        generalize hit : pyIter = IT
        wp_walk
        subst hit
        refine wpAny_pyIter_list lst (wpAny_bind (wpAny_runValue ?_))
        have big : l < s.heap.objs.size := Heap.lt_size holo
        have calm3 : A.in1.in1.in1.handled = none := by simp [calm]
        have offI : l ≠ (s.heap.push (newSet2 w)).objs.size := by
          rw [Heap.size_push]
          exact Nat.ne_of_lt (Nat.lt_succ_of_lt big)
        have offS : s.heap.objs.size ∉ [(s.heap.push (newSet2 w)).objs.size, l] := by
          rw [Heap.size_push]
          simp only [List.mem_cons, List.not_mem_nil, or_false, not_or]
          exact ⟨Nat.ne_of_lt (Nat.lt_succ_self _), (Nat.ne_of_lt big).symm⟩
        refine upd_strs ((Walks.list calm3 _ l offI items).toS) s.heap.objs.size offS zs size few isi (items.size - 0) 0 _ (by omega) (Nat.zero_le _) ⟨⟨_, Heap.get?_push_size _ rfl, rfl, rfl⟩, lst.push _⟩ ?_ ?_
        · exact setS_new (Heap.get?_push_of_some _ atS)
        · intro t3 mv R3
          obtain ⟨g3, gn, dr, tk, os⟩ := t3
          have e1 : gn = s.gens := mv.gens
          have e2 : dr = s.drawn := mv.drawn
          have e3 : os = s.os := mv.os
          subst e1 e2 e3
          show wpAny _ _ _ _ _ _
          refine wpAny_pure ?_
          show wpAny _ _ (ret Value.none) _ _ _
          refine wpAny_pure ⟨rfl, g3, tk, rfl, R3, fun b o e => ?_⟩
          have lt : b < s.heap.objs.size := Heap.lt_size e
          refine mv.heap b o ?_ (Heap.get?_push_of_some _ (Heap.get?_push_of_some _ e))
          simp only [List.mem_cons, List.not_mem_nil, or_false, not_or, Heap.size_push]
          exact ⟨Nat.ne_of_lt lt, Nat.ne_of_lt (Nat.lt_succ_of_lt lt)⟩
      · cases r2 with
        | error e => exact hr2
        | ok fl2 =>
          cases fl2 with
          | next => exact hr2.elim
          | brk => exact hr2.elim
          | cont => exact hr2.elim
          | ret v =>
            obtain ⟨rfl, g, tk, rfl, R, kp⟩ := hr2
            repeat any_goals first | wp_step | assumption
            exact k _ _ R kp
end
end Dl
set_option Elab.async false
set_option linter.all false
set_option maxRecDepth 100000
set_option maxHeartbeats 4000000
set_option autoImplicit false
namespace Dl
open PySem PySem.Spec PyProof.Rows L2
def SetSO (P : Program) (w : World) (a : Addr) (S : Str → Bool) (n : Nat) : HO := .ext fun h => h.SetOf (strKind P w) a S n
section
variable {X : Cx} {N : En} {W : WX} {n : Nat} {δ : List (Option S)} {μ μ1 : List M} {e : Expr} {p1 p2 pos pos2 : Pos}
theorem strs_val : ∀ {zs : List Str} {us : List Value}, Vals (zs.map V.str) us → ∀ (i : Nat) (v : Value), us[i]? = some v → ∃ z t, zs[i]? = some z ∧ v = .str z t
  | [], _, r, i, v, h => by cases r; simp at h
  | z :: zs, _, r, i, v, h => by
    cases r with
    | cons r1 r2 =>
      cases i with
      | zero =>
        obtain ⟨t, rfl⟩ := r1
        have : v = .str z t := by simpa using h.symm
        exact ⟨z, t, rfl, this⟩
      | succ i => exact strs_val r2 i v (by simpa using h)
theorem cr_setS (hc : X.calm = true) : CallR X (.type "set") (fun xs H Q => ∃ (p : Addr) (zs : List Str), xs = [.ref p] ∧ SqL X.K H p (zs.map V.str) ∧ zs.length ≤ 1000 ∧ ∀ (a : Addr), H a = none → Q (.ref a) (upd H a (SetSO X.prog X.w a (fun j => decide (j ∈ zs)) (uniqN zs).length))) := by
  intro pins s σ H xs us Q I r ⟨p, zs, ex, hs, few, k⟩
  subst ex
  rw [Vals.ref1 r]
  obtain ⟨its, rv, ⟨⟨ocls, odd, oda, osl⟩, m, ho, hcl, hdn, hda⟩, hlen⟩ := I.list hs
  simp only at hcl hda
  have isl : s.heap.IsList p its.toArray := ⟨_, ho, hcl, m, hda⟩
  have sz : its.toArray.size = zs.length := by
    have := rv.length
    rw [List.length_map] at this
    rw [List.size_toArray, this]
  refine set_of_strs zs (I.ok.hd hc) isl (fun i v h => strs_val rv i v (by simpa using h)) sz (by unfold scanBound; omega) fun g tk R kp => ?_
  have nn : H s.heap.objs.size = none := I.hok.fresh (Nat.le_refl _)
  exact ⟨.ref s.heap.objs.size, _, I.laid kp (Nat.le_refl _) (show ObjOk X.prog X.w _ _ _ (SetSO X.prog X.w _ _ _) from ⟨R, R.elim fun o q => q.elim fun _ q => q.elim fun _ q => q.elim fun _ q => ⟨o, q.1⟩, fun h1 h2 p k => setS_at p k⟩), rfl, k _ nn⟩
theorem cr_lenS : CallR X (.builtin "len") (fun xs H Q => ∃ (a : Addr) (S : Str → Bool) (m : Nat), xs = [.ref a] ∧ H a = some (SetSO X.prog X.w a S m) ∧ Q (.int (m : Int)) H) := by
  intro pins s σ H xs us Q I r ⟨a, S, m, ex, hs, k⟩
  subst ex
  rw [Vals.ref1 r]
  have R : s.heap.SetOf (strKind X.prog X.w) a S m := (I.hok a _ hs).1
  obtain ⟨o, es, ep, t, ho, hex, hd, hel, hmem, hb, hf, hn⟩ := R
  subst hn
  have hb' : es.size < 2 ^ 62 := Nat.lt_of_lt_of_le hb (by unfold scanBound; decide)
  exact call_len_set ho hex hd hf (by omega) ⟨.int (es.size : Int), H, I.tok _, ⟨_, rfl⟩, k⟩
/-- len(set(e)), e a list of texts -/
theorem de_lenSet {zs : List Str} (g : Go X N W n) (h : DE X N W δ μ e (.v (.p (.lst (zs.map D.str)))) μ1) (few : zs.length ≤ 1000) (hm : X.mg "len" = none) (hm2 : X.mg "set" = none) (hg : Gl X "len" := by rfl) (hg2 : Gl X "set" := by rfl)
    (h1 : starEach [e] X.env = (false, eval e X.env) :: starEach [] X.env := by rfl) (h2 : starEach [.Call (.Name "set" p2) [e] [] pos2] X.env = (false, eval (.Call (.Name "set" p2) [e] [] pos2) X.env) :: starEach [] X.env := by rfl) :
    DE X N W δ μ (.Call (.Name "len" p1) [.Call (.Name "set" p2) [e] [] pos2] [] pos) (.v (.p (.int ((uniqN zs).length : Nat)))) μ1 :=
  PE.imp (pe_callB cr_lenS hg hm (by decide +kernel) (pa_cons (pe_callTy (cr_setS g.calm) hg2 hm2 (by decide +kernel) (pa_cons h pa_nil h1) (by decide) (by decide) h1 (by rfl)) pa_nil h2) (by decide) (by decide) h2 (by rfl)) fun σ H Q ⟨F, A, R0, k⟩ => ⟨F, A, R0, fun v F1 A1 H1 e1 p1 R1 rv => by
    obtain ⟨a, ws, rfl, q1, q2⟩ := rep_lst (show Rep N.K F1 v (.lst (zs.map D.str)) from rv)
    have q3 := strs_vals q2
    subst q3
    refine ⟨a, zs, rfl, SqL.of (R1.rc.sub _ _ q1), few, fun b nb => ?_⟩
    refine ⟨b, _, _, rfl, upd_same, ?_⟩
    exact k _ _ A1 _ e1 p1 (R1.to (Same.refl _) (List.prefix_refl _) (R1.rc.junk nb _)) (.int _)⟩
end
end Dl
set_option Elab.async false
set_option linter.all false
set_option maxRecDepth 100000
set_option maxHeartbeats 4000000
set_option autoImplicit false
namespace Dl
open PySem PySem.Spec PyProof.Rows L2
/-! ## lambdas that are handed to defs, and from these to others -/
/-! ### in terms of data -/
def EndL (N' : En) (F : Hp) (A : List Addr) (μ' : List M) (E : XK) (Q : VK) : Rx → Prop
  | .v s => ∀ v F' A' H', Same F F' → A <+: A' → Rc N' F' A' H' μ' → RepS N'.K F' A' v s → Q v H'
  | .x C d => ∀ dx v F' A' H', Same F F' → A <+: A' → Rc N' F' A' H' μ' → F' dx = some (.xd [("value", v)]) → Rep N'.K F' v d → E (.ref C) (some dx) H'
theorem EndL.imp {N' : En} {F : Hp} {A : List Addr} {μ' : List M} {E E' : XK} {Q Q' : VK} : ∀ {r : Rx}, EndL N' F A μ' E Q r → (∀ c d h, E c d h → E' c d h) → (∀ v h, Q v h → Q' v h) → EndL N' F A μ' E' Q' r
  | .v _, k, _, h2 => fun v F' A' H' e p R rv => h2 _ _ (k v F' A' H' e p R rv)
  | .x _ _, k, h1, _ => fun dx v F' A' H' e p R a b => h1 _ _ _ (k dx v F' A' H' e p R a b)
end Dl
set_option Elab.async false
set_option linter.all false
set_option maxRecDepth 100000
set_option maxHeartbeats 4000000
set_option autoImplicit false
namespace Dl
open PySem PySem.Spec PyProof.Rows L2
end Dl
set_option Elab.async false
set_option linter.all false
set_option maxRecDepth 100000
set_option maxHeartbeats 4000000
set_option autoImplicit false
namespace Dl
open PySem PySem.Spec PyProof.Rows L2
/-! ## static methods of own classes, called by the class -/
section
variable {X : Cx} {N : En} {W : WX} {n k : Nat} {δ : List (Option S)} {μ μ1 μ2 μ3 μ' : List M} {e o a b : Expr} {es : List Expr} {ss : List S} {r : Rx} {R : Rel} {C : Addr} {m : Str} {p pos apos : Pos} {d : D}
/-! ## x.split(sep), x.partition(sep) -/
theorem m_split {z y : Str} (hy : (y.length == 0) = false) (hl : z.length + 2 ≤ sizeLine) : MtOk X N W "str" "str.split" μ μ (.p (.str z)) [.p (.str y)] (.v (.p (.lst ((Txt.split z y).map D.str)))) μ :=
  ⟨_, mt_split, fun σ δ F A H x R rx => by cases rs_str rx; trivial, fun σ δ F A H x vs Q R rx rv k => by
    obtain ⟨v, rfl, h⟩ := one_of rv
    cases rs_str rx
    cases rs_str h
    refine ⟨z, y, rfl, rfl, hy, hl, fun q nq => ?_⟩
    have sm := same_updN (o := .lst ((Txt.split z y).map V.str)) (R.rc.fresh nq).2.1
    exact k (.ref q) _ A _ sm (List.prefix_refl _) (R.to sm (List.prefix_refl _) (R.rc.frozen nq _)) (.lst upd_same of_strs)⟩
/-! ## one sign so many times -/
theorem fold_rep (c : Nat) : ∀ (k : Nat) (acc : Array Nat), (List.replicate k #[c]).foldl (· ++ ·) acc = acc ++ (List.replicate k c).toArray
  | 0, acc => by simp
  | k + 1, acc => by
    rw [List.replicate_succ, List.foldl_cons, fold_rep c k, Array.append_assoc]
    congr 1
    simp [List.replicate_succ]
theorem op_mulSk {c k : Nat} (h : 2 ≤ k ∧ k ≤ 10000) : OpR X (binaryOp .Mult) (fun x y H Q => x = .str ⟨#[c]⟩ ∧ y = .int (k : Int) ∧ Q (.str (Dl.st (List.replicate k c))) H) := by
  intro pins s σ H x y v u Q I rx ry ⟨e1, e2, q⟩
  subst e1 e2
  obtain ⟨t, rfl⟩ := rx
  obtain ⟨t', rfl⟩ := ry
  have h1 : ¬ (k : Int) < 1 := by omega
  have h2 : ((k : Int) == 1 || (⟨#[c]⟩ : Str).length == 0) = false := by
    have : ((k : Int) == 1) = false := by rw [beq_eq_false_iff_ne]; omega
    rw [this]
    rfl
  refine PySem.P.mul_str (by
      have a : ¬ (k : Int) < -(2 ^ 63 : Int) := by omega
      have b : ¬ (k : Int) ≥ 2 ^ 63 := by omega
      rw [decide_eq_false a, decide_eq_false b]; rfl) (fun _ _ => by
      show ¬ (((1 : Nat) : Int) > (2 ^ 63 - 1) / (k : Int))
      have : (1 : Int) ≤ (2 ^ 63 - 1) / (k : Int) := by
        rw [Int.le_ediv_iff_mul_le (by omega)]
        omega
      omega) (fun _ _ => by
      show Builtin.Str.tooLong ((⟨#[c]⟩ : Str).length * (k : Int).toNat) = false
      have e : (⟨#[c]⟩ : Str).length * (k : Int).toNat = k := by
        show 1 * (k : Int).toNat = k
        omega
      rw [e]
      unfold Builtin.Str.tooLong
      rw [decide_eq_false_iff_not, sizeLine_eq]
      omega) ?_
  rw [if_neg h1, if_neg (by rw [h2]; decide)]
  have e3 : (⟨(List.replicate (k : Int).toNat (⟨#[c]⟩ : Str).cps).foldl (· ++ ·) #[]⟩ : Str) = Dl.st (List.replicate k c) := by
    show (⟨(List.replicate (k : Int).toNat #[c]).foldl (· ++ ·) #[]⟩ : Str) = _
    rw [fold_rep, Int.toNat_natCast]
    simp [Dl.st]
  rw [e3]
  exact ⟨by rw [st_len, List.length_replicate, sizeLine_eq]; omega, .str _, H, I.tok _, ⟨_, rfl⟩, q⟩
theorem o_mulSk {c k : Nat} (h : 2 ≤ k ∧ k ≤ 10000) : OpOk X N W (binaryOp .Mult) μ (.p (.str ⟨#[c]⟩)) (.p (.int (k : Int))) (.v (.p (.str (Dl.st (List.replicate k c))))) μ :=
  ⟨_, op_mulSk h, fun σ δ F A H x y Q R rx ry q => ⟨rs_str rx, rs_int ry, q.here R (.str _)⟩⟩
/-! ## None in a list of ints and None -/
end
end Dl
set_option Elab.async false
set_option linter.all false
set_option maxRecDepth 100000
set_option maxHeartbeats 4000000
set_option autoImplicit false
namespace Dl
open PySem PySem.Spec PyProof.Rows L2
/-! ## what a changing thing has come to be is forgotten; loops whose states are not told; lists put together to a changing one -/
end Dl
set_option Elab.async false
set_option linter.all false
set_option maxRecDepth 100000
set_option maxHeartbeats 4000000
set_option autoImplicit false
namespace Dl
open PySem PySem.Spec PyProof.Rows L2
/-! ## the end, where the law's def is told of as a FnG: at the caller no guard stands -/
/-- what is tracked when the law is called: the tables T, and the script at a unless K knows it -/
noncomputable def hp0 (K : PySem.W.Frag) (T : List Addr) (a : Addr) (o : Obj) (xs : List V) : Hp := fun b =>
  if b ∈ T then some (.tbl #[]) else if b = a ∧ K.lookup a = none then some (.frz o (.lst xs)) else none
section
variable {K : PySem.W.Frag} {T : List Addr} {a b : Addr} {o : Obj} {xs : List V}
theorem hp0_T (h : b ∈ T) : hp0 K T a o xs b = some (.tbl #[]) := if_pos h
theorem hp0_a (h : a ∉ T) (n : K.lookup a = none) : hp0 K T a o xs a = some (.frz o (.lst xs)) := (if_neg h).trans (if_pos ⟨rfl, n⟩)
theorem hp0_cases : (b ∈ T ∧ hp0 K T a o xs b = some (.tbl #[])) ∨ (b ∉ T ∧ b = a ∧ K.lookup a = none ∧ hp0 K T a o xs b = some (.frz o (.lst xs))) ∨ (b ∉ T ∧ (b = a → K.lookup a ≠ none) ∧ hp0 K T a o xs b = none) := by
  by_cases h : b ∈ T
  · exact .inl ⟨h, hp0_T h⟩
  · by_cases h2 : b = a ∧ K.lookup a = none
    · exact .inr (.inl ⟨h, h2.1, h2.2, (if_neg h).trans (if_pos h2)⟩)
    · exact .inr (.inr ⟨h, fun e n => h2 ⟨e, n⟩, (if_neg h).trans (if_neg h2)⟩)
end
theorem law_callG {P : Program} {w : World} {K : PySem.W.Frag} {mg mb : Str → Option Value} {CX : CXT} {k : Nat} {fa a : Addr} {cs : List (Addr × Addr)} {fd : FuncData} {x : Str} {sp : Sp} {s₁ : Shared} {vs : List Value} {ns : List Int}
    (KX : K.In s₁.heap) (hns : s₁.heap.Ns mainGlobals mg) (hb : s₁.heap.Ns builtinsNs mb) (hbb : ∀ x : Str, x ≠ "__name__" → mb x = bootBuiltins x) (hlim : s₁.heap.NoLimit) (hg : s₁.gens = #[])
    (hT : ∀ p ∈ cs, s₁.heap.get? p.2 = some { cls := .none, data := .fields #[] }) (nT : ∀ p ∈ cs, K.lookup p.2 = none) (C : ∀ p ∈ cs, PySem.W.CodeHd s₁.heap p.1 p.2)
    (hbm : ∃ (bm : Addr) (ob : Obj), mg "__builtins__" = some (.ref bm) ∧ bm ≠ builtinsNs ∧ s₁.heap.get? bm = some ob ∧ ob.cls = .type "module" ∧ ob.dict = some builtinsNs ∧ ob.data = .plain)
    (ha : s₁.heap.get? a = some { cls := .type "list", data := .seq vs.toArray }) (hi : IntsAre vs ns) (hl : ns.length ≤ sizeLine) (hr : Room k callerA)
    (F : ∀ base : Heap, K.In base → base.Ns mainGlobals mg → (∀ p ∈ cs, LamX.TabB base mg p.1 p.2) → FnG P w K mg base CX k fa fd [x] sp) (hbind : ∀ (s : Shared) (u : Value), BindsTo s fd ⟨[u], []⟩ [(x, u)])
    (hsp : ∀ H : Hp, (∀ p ∈ cs, H p.2 = some (.tbl #[])) → SqL K H a (ns.map V.int) → sp [.ref a] H (fun v _ => v = .bl true) fun _ _ _ => False)
    (hCX : ∀ H e s', CX [] H s₁ (fun _ _ _ => False) e s' → False) :
    codeAny (model P w) callerA (.call (.ref fa) ⟨[.ref a], []⟩) (fun r s' => r = .ok (.ret (.bool true)) ∧ OldK s₁.heap s'.heap ∧ s'.os = s₁.os ∧ AllBare s'.gens) s₁ := by
  have rv := vals_ints hi
  let ob : Obj := { cls := .type "list", data := .seq vs.toArray }
  let T := cs.map (·.2)
  let H := hp0 K T a ob (ns.map V.int)
  have isT : ∀ {b}, b ∈ T → s₁.heap.get? b = some { cls := .none, data := .fields #[] } ∧ K.lookup b = none := fun hb => by
    obtain ⟨p, hp, rfl⟩ := List.mem_map.mp hb
    exact ⟨hT p hp, nT p hp⟩
  have aT : a ∉ T := fun z => nomatch (congrArg Obj.data (Option.some.inj (ha.symm.trans (isT z).1)) : Data.seq vs.toArray = Data.fields #[])
  -- what K knows, and what is neither a row of values nor an empty table, is not tracked
  have outK : ∀ {b o}, K.lookup b = some o → H b = none := fun {b o} e => by
    rcases hp0_cases (K := K) (T := T) (a := a) (b := b) (o := ob) (xs := ns.map V.int) with ⟨h, _⟩ | ⟨_, rfl, h, _⟩ | ⟨_, _, h⟩
    · rw [(isT h).2] at e; cases e
    · rw [h] at e; cases e
    · exact h
  have outD : ∀ {b o}, s₁.heap.get? b = some o → (∀ vs n, o.data ≠ .seq vs n) → o.data ≠ .fields #[] → H b = none := fun {b o} e h1 h2 => by
    rcases hp0_cases (K := K) (T := T) (a := a) (b := b) (o := ob) (xs := ns.map V.int) with ⟨h, _⟩ | ⟨_, rfl, h, _⟩ | ⟨_, _, h⟩
    · rw [(isT h).1] at e; cases e; exact (h2 rfl).elim
    · rw [ha] at e; cases e; exact (h1 _ _ rfl).elim
    · exact h
  have keepNs : ∀ {b : Addr} {m : Str → Option Value}, s₁.heap.Ns b m → (hidT s₁.heap H).Ns b m := fun ⟨o, es, ep, e, d, r⟩ =>
    ⟨o, es, ep, hidT_get e (outD e (fun _ _ z => nomatch d.symm.trans z) fun z => nomatch d.symm.trans z), d, r⟩
  have hKb : K.In (hidT s₁.heap H) := fun b o e => hidT_get (KX b o e) (outK e)
  have hM : L2.Mod K mg (hidT s₁.heap H) := ⟨hKb, keepNs hns, ⟨mb, keepNs hb, hbb⟩, let ⟨mc, h1, h2⟩ := hlim; ⟨mc, keepNs h1, h2⟩⟩
  have TB : ∀ p ∈ cs, LamX.TabB (hidT s₁.heap H) mg p.1 p.2 := fun p hp => by
    refine ⟨?_, ?_, fun z => ?_⟩
    · obtain ⟨o, us, file, tf, flags, tg, inF, text, tt, e1, r1, r2, r3, r⟩ := C p hp
      refine ⟨o, us, file, tf, flags, tg, inF, text, tt, hidT_get e1 (outD e1 (fun _ _ z => nomatch r2.symm.trans z) fun z => ?_), r1, r2, r3, r⟩
      cases r2.symm.trans z
      simp at r3
    · obtain ⟨bm, o, b1, b2, b3, b4, b5, b6⟩ := hbm
      refine ⟨bm, o, b1, b2, ?_, ?_, hidT_get b3 (outD b3 (fun _ _ z => nomatch b6.symm.trans z) fun z => nomatch b6.symm.trans z), b4, b5, b6⟩
      · rintro rfl
        obtain ⟨o2, es, ep, e, d, _⟩ := hns
        cases b3.symm.trans e
        exact nomatch b6.symm.trans d
      · rintro rfl
        cases b3.symm.trans (hT p hp)
        cases b6
    · obtain ⟨o, es, ep, e, d, _⟩ := hns
      rw [z, hT p hp] at e
      cases e
      cases d
  have hok : HOk P w H s₁.heap := fun b u z => by
    rcases hp0_cases (K := K) (T := T) (a := a) (b := b) (o := ob) (xs := ns.map V.int) with ⟨h, q⟩ | ⟨_, rfl, _, q⟩ | ⟨_, _, q⟩
    · cases q.symm.trans z; exact (isT h).1
    · cases q.symm.trans z; exact ⟨ha, by rw [List.length_map]; exact hl, vs, _, rv, ha⟩
    · cases q.symm.trans z
  have hS : SqL K H a (ns.map V.int) := by
    cases hk : K.lookup a with
    | none => exact .inl (.inr ⟨ob, hp0_a aT hk⟩)
    | some o =>
      cases ha.symm.trans (KX a o hk)
      exact .inr ⟨_, vs.toArray, _, hk, rfl, rfl, rfl, by rw [List.size_toArray, hi.length]; exact hl, by simpa using rv⟩
  have hH : ∀ p ∈ cs, H p.2 = some (.tbl #[]) := fun p hp => hp0_T (List.mem_map.mpr ⟨p, hp, rfl⟩)
  have e0 : Env0 P w K mg (hidT s₁.heap H) callerA [] s₁ H := ⟨rfl, hM, fun b o e => of_hidT e, Nat.le_of_eq (hidT_size _ _), trivial, fun b hb => absurd (show b ∈ ([] : List Addr) from hb) (by simp), hok, .of_eq hg⟩
  refine codeAny_mono ((F _ hKb (keepNs hns) TB).go callerA [] s₁ H ⟨[.ref a], []⟩ [.ref a] [.ref a] _ _ rfl hr e0 (hbind s₁ (.ref a)) (.cons rfl .nil) (hsp H hH hS)) fun r s' h => ?_
  match r, h with
  | .error e, h => exact (hCX H e s' h).elim
  | .ok (.ret u), ⟨v, H', os, bare, un, hok', r', q⟩ =>
    cases (show v = .bl true from q)
    obtain rfl : u = Value.bool true := r'
    have grown : ∀ b ∈ T, ∃ more : Array Value, s'.heap.get? b = some { cls := .none, data := .fields more } := fun b hb => by
      obtain ⟨more, z⟩ := un.tbls b #[] (hp0_T hb)
      exact ⟨_, hok' b _ z⟩
    have kept : ∀ b o, b ∉ T → s₁.heap.get? b = some o → s'.heap.get? b = some o := fun b o nb e => by
      rcases hp0_cases (K := K) (T := T) (a := a) (b := b) (o := ob) (xs := ns.map V.int) with ⟨h, _⟩ | ⟨_, _, _, q⟩ | ⟨_, _, q⟩
      · exact (nb h).elim
      · cases e.symm.trans (hok b _ q).1
        exact (hok' b _ (un.frzs b _ _ q)).1
      · exact un.keep b o e q (fun z => nomatch (show b ∈ ([] : List Addr) from z)) fun z => nomatch z
    refine ⟨rfl, ⟨fun b o e => ?_, fun b o e => ?_⟩, os, bare⟩
    · by_cases hb : b ∈ T
      · obtain ⟨more, hm⟩ := grown b hb
        obtain ⟨p, hp, rfl⟩ := List.mem_map.mp hb
        cases e.symm.trans (hT p hp)
        exact .inr (.inl ⟨((C p hp).tab (hT p hp)).isCodeTable, rfl, #[], more, rfl, by rw [Array.empty_append]; exact hm⟩)
      · exact .inl (kept b o hb e)
    · by_cases hb : b ∈ T
      · obtain ⟨more, hm⟩ := grown b hb
        exact ⟨_, hm⟩
      · exact ⟨o, kept b o hb e⟩
end Dl
set_option Elab.async false
set_option linter.all false
set_option maxRecDepth 100000
set_option maxHeartbeats 4000000
set_option autoImplicit false
namespace Dl
open PySem PySem.Spec PyProof.Rows L2
/-- the law's def and what it promises, at the heap behind the top -/
structure EndG (l : PySem.W.OpenLaw) (w : World) (K : PySem.W.Frag) (k : Nat) (x : Str) (mg : Str → Option Value) (fa : Addr) (h : Heap) (n : Nat) where
  fd : FuncData
  cs : List (Addr × Addr)
  R : Rel
  tab : ∀ p ∈ cs, h.get? p.2 = some { cls := .none, data := .fields #[] } ∧ K.lookup p.2 = none ∧ PySem.W.CodeHd h p.1 p.2
  bind : ∀ (s : Shared) (u : Value), BindsTo s fd ⟨[u], []⟩ [(x, u)]
  holds : ∀ (H : Hp) (a : Addr) (ns : List Int), ns.length ≤ n → (∀ z ∈ ns, Builtin.Int.intBits z ≤ 1048576) → (∀ p ∈ cs, H p.2 = some (.tbl #[])) → SqL K H a (ns.map V.int) → spD K R [.ref a] H (fun v _ => v = .bl true) fun _ _ _ => False
  ok : ∀ base : Heap, K.In base → base.Ns mainGlobals mg → (∀ p ∈ cs, LamX.TabB base mg p.1 p.2) → FnG l.prog w K mg base (L2.CX l.prog w) k fa fd [x] (spD K R)
theorem walk_G {l : PySem.W.OpenLaw} {n k : Nat} {q : Program} {loose : List Str} {XP : (Str → Option Value) → Heap → Prop} {YP : World → Heap → Prop} {d : DefRec} {K : Params → PySem.W.Frag} {x : Str}
    (hn : l.most = some n) (hn2 : n ≤ sizeLine) (hdf : d.params.defaults = []) (hr : Room k callerA) (hY : ∀ (w : World) (h : Heap), YP w h → (K w.params).In h)
    (F : ∀ (w : World) (mg : Str → Option Value) (fa : Addr) (h : Heap), (K w.params).In h → h.Ns mainGlobals mg → mg d.name = some (.ref fa) →
      (∀ (y : Str) (e : DefRec) (c P : Addr), (recsOf q).find? (fun e => e.name == y) = some e → PySem.W.tabIn (K w.params) y = some (c, P) → PySem.W.CodeHd h c P ∧ h.get? P = some (PySem.W.tabObj #[])) → Nonempty (EndG l w (K w.params) k x mg fa h n)) :
    PySem.W.WalkO q loose XP YP l.row.toRowW d [] (fun f vs => PySem.call f vs) := by
  refine Att.attach_callB hn hdf fun w s₀ s₁ mg mb fa o pm cd doc a vs ns G Y ho hd hcd hmg hobj hints hlen hbits hg => ?_
  have inK := hY w _ Y
  obtain ⟨Z⟩ := F w mg fa _ inK G.T.g hmg fun y e c P e1 e2 => PySem.W.tab_of G.T inK e1 e2
  exact law_callG inK G.T.g G.T.b G.T.builtins G.T.nolimit hg (fun p hp => (Z.tab p hp).1) (fun p hp => (Z.tab p hp).2.1) (fun p hp => (Z.tab p hp).2.2) G.T.bmain hobj hints (Nat.le_trans hlen hn2) hr Z.ok Z.bind
    (fun H hH hS => Z.holds H a ns hlen hbits hH hS) fun H e s' h => by obtain ⟨_, _, _, _, _, _, _, _, _, _, _, _, z⟩ := h; exact z
end Dl
set_option Elab.async false
set_option linter.all false
set_option maxRecDepth 100000
set_option maxHeartbeats 4000000
set_option autoImplicit false
namespace Dl
open PySem PySem.Spec PyProof.Rows L2
end Dl
set_option Elab.async false
set_option linter.all false
set_option maxRecDepth 100000
set_option maxHeartbeats 4000000
set_option autoImplicit false
namespace Dl
open PySem PySem.Spec PyProof.Rows L2
/-! ## a, b = e1, e2 with plain names: the pair is never made -/
section
variable {X : Cx} {N : En} {W : WX} {n : Nat} {δ : List (Option S)} {μ μ1 : List M} {a b : Expr} {s1 s2 : S} {x y : Str} {px py pt pos : Pos} {kt k2} {pt2 : Pos}
theorem ds_par (i j : Nat) (g : Go X N W n) (ha : DA X N W δ μ [a, b] [s1, s2] μ1) (hi : X.N[i]? = some x := by rfl) (hj : X.N[j]? = some y := by rfl) (hij : i ≠ j := by decide)
    (hx : X.env.scope.names.lookup x = some .local := by rfl) (hy : X.env.scope.names.lookup y = some .local := by rfl)
    (hw : swappedStores [.Tuple [.Name x px, .Name y py] kt pt] (.Tuple [a, b] k2 pt2) X.env = pure (some [x, y]) := by rfl)
    (hs : swapsWithSole [.Tuple [.Name x px, .Name y py] kt pt] (.Tuple [a, b] k2 pt2) pos.line X.env = pure false := by rfl) :
    DS X N W δ μ (.Assign [.Tuple [.Name x px, .Name y py] kt pt] (.Tuple [a, b] k2 pt2) pos) (.nx ((δ.set i (some s1)).set j (some s2)) μ1) :=
  PS.imp (ps_par (i := i) (j := j) g.calm g.nd hi hj hij hx hy ha hw hs) fun K σ H ⟨F, A, R, k⟩ => ⟨F, A, R, fun vs F1 A1 H1 e1 p1 R1 rv => by
    obtain ⟨v, w, rfl, r1, r2⟩ := two_of rv
    exact ⟨v, w, rfl, k _ F1 A1 H1 e1 p1 ((R1.set r1).set r2)⟩⟩
end
end Dl
set_option Elab.async false
set_option linter.all false
set_option maxRecDepth 100000
set_option maxHeartbeats 4000000
set_option autoImplicit false
namespace Dl
open PySem PySem.Spec PyProof.Rows L2
/-! ## next of a zip whose last pair is still held -/
/-! ## list(zip(..)): what stands between two turns -/
end Dl
set_option Elab.async false
set_option linter.all false
set_option maxRecDepth 100000
set_option maxHeartbeats 4000000
set_option autoImplicit false
namespace Dl
open PySem PySem.Spec PyProof.Rows L2
/-! ## dict(list(zip(ints, text))), d.get(i, c), list(xs) as a list that changes -/
section
variable {X : Cx} {N : En} {W : WX} {n : Nat} {δ : List (Option S)} {μ μ1 μ2 : List M} {e e2 a b o : Expr} {p1 p2 p3 q1 q2 q3 pos apos : Pos} {ns : List Int} {L : List Nat} {i : Int}
theorem c_listM {ds : List D} : CallOk X N W (.type "list") μ [.p (.lst ds)] (.v (.l μ.length)) (μ ++ [.lst ds]) :=
  ⟨_, call_list_of, fun σ δ F A H vs Q R rv k => by
    obtain ⟨v, rfl, h⟩ := one_of rv
    obtain ⟨a, ws, rfl, h1, h2⟩ := rep_lst (show Rep N.K F v (.lst ds) from h)
    refine ⟨a, ws, rfl, .inl (SqL.of (R.rc.sub _ _ h1)), fun p np => ?_⟩
    have pp : A <+: A ++ [p] := List.prefix_append _ _
    refine k (.ref p) _ (A ++ [p]) _ (Same.refl _) pp (R.to (Same.refl _) pp (R.rc.newM np ⟨ws, upd_same, h2⟩)) ⟨p, rfl, ?_⟩
    rw [← R.rc.len]; simp⟩
end
end Dl
set_option Elab.async false
set_option linter.all false
set_option maxRecDepth 100000
set_option maxHeartbeats 4000000
set_option autoImplicit false
namespace Dl
open PySem PySem.Spec PyProof.Rows L2
/-! ## repr of data: None, bools, ints, texts, lists, tuples of them at any depth -/
mutual
def py : D → PyData
  | .bl b => .bool b
  | .int i => .int i
  | .str x => .str x
  | .tup ds => .tuple (pyAll ds)
  | .lst ds => .list (pyAll ds)
  | _ => .none
def pyAll : List D → List PyData
  | [] => []
  | d :: ds => py d :: pyAll ds
end
mutual
def isPy : D → Bool
  | .non | .bl _ | .int _ | .str _ => true
  | .tup ds | .lst ds => arePy ds
  | _ => false
def arePy : List D → Bool
  | [] => true
  | d :: ds => isPy d && arePy ds
end
end Dl
set_option Elab.async false
set_option linter.all false
set_option maxRecDepth 100000
set_option maxHeartbeats 4000000
set_option autoImplicit false
namespace Dl
open PySem PySem.Spec PyProof.Rows L2
/-! ## repr of a dict, its keys ints and texts, its values None, bools, ints, texts -/
end Dl
set_option Elab.async false
set_option linter.all false
set_option maxRecDepth 100000
set_option maxHeartbeats 4000000
set_option autoImplicit false
namespace Dl
open PySem PySem.Spec PyProof.Rows L2
/-! ## repr of data with dicts of plain values in it, at any depth -/
end Dl
set_option Elab.async false
set_option linter.all false
set_option maxRecDepth 100000
set_option maxHeartbeats 4000000
set_option autoImplicit false
namespace Dl
open PySem PySem.Spec PyProof.Rows L2
section
variable {X : Cx} {N : En} {W : WX} {n : Nat} {e : Expr} {p : Pos} {f : As} {ix : List Nat}
/-- the last target, with a star -/
theorem dgs_last (h : DG X N e f ix) (h1 : (assignEach [e] X.env).map (·.2) = assign e X.env :: (assignEach [] X.env).map (·.2) := by rfl) (h2 : (assignEach [.Starred e p] X.env).map (·.2) = (assignEach [e] X.env).map (·.2) := by rfl) : DGs X N [.Starred e p] [f] (ix ++ []) := by
  have k : DGs X N [e] [f] (ix ++ []) := dgs_cons h dgs_nil h1
  refine ⟨fun pins s σ H us vs Q I r hh => ?_⟩
  have := k.run pins s σ H us vs Q I r hh
  rw [h2]
  exact this
end
end Dl
set_option Elab.async false
set_option linter.all false
set_option maxRecDepth 100000
set_option maxHeartbeats 4000000
set_option autoImplicit false
namespace Dl
open PySem PySem.Spec PyProof.Rows L2
end Dl
set_option Elab.async false
set_option linter.all false
set_option maxRecDepth 100000
set_option maxHeartbeats 4000000
set_option autoImplicit false
namespace Dl
open PySem PySem.Spec PyProof.Rows L2
section
variable {X : Cx} {N : En} {W : WX} {n : Nat} {μ : List M}
theorem o_neD (g : Go X N W n) {d1 d2 : D} {p1 p2 : PyData} {q : Bool} (h1 : PyD d1 p1) (h2 : PyD d2 p2) (s1 : SeqAt.shaped p1 = true) (s2 : SeqAt.shaped p2 = true) (hq : (!PyData.eqv p1 p2) = q) : OpOk X N W (compareOp .NotEq) μ (.p d1) (.p d2) (.v (.p (.bl q))) μ :=
  ⟨_, op_neD (by have := g.room.un; omega), fun σ δ F A H x y Q R rx ry k => ⟨p1, p2, by rw [← g.hK]; exact h1.dp R.rc.sub rx, by rw [← g.hK]; exact h2.dp R.rc.sub ry, s1, s2, by rw [hq]; exact k.here R (.bl _)⟩⟩
end
end Dl
set_option Elab.async false
set_option linter.all false
set_option maxRecDepth 100000
set_option maxHeartbeats 4000000
set_option autoImplicit false
namespace Dl
open PySem PySem.Spec PyProof.Rows L2
/-! ## data whose repr is short, from its parts -/
structure RS (k n : Nat) (d : D) : Prop where
  ip : isPy d = true
  sh : (py d).showable = true
  dp : (py d).depth ≤ k
  lv : (py d).leavesShort 20 = true
  wt : (py d).weight ≤ n
structure RSs (k n : Nat) (ds : List D) : Prop where
  ip : arePy ds = true
  sh : PyData.showableAll (pyAll ds) = true
  dp : PyData.depthAll (pyAll ds) ≤ k
  lv : PyData.leavesShortAll 20 (pyAll ds) = true
  wt : PyData.weightAll (pyAll ds) ≤ n
theorem RSs.nil {k n : Nat} : RSs k n [] := ⟨rfl, rfl, Nat.zero_le _, rfl, Nat.zero_le _⟩
theorem RSs.cons {k a b n : Nat} {d : D} {ds : List D} (h : RS k a d) (hs : RSs k b ds) (hn : a + 1 + b ≤ n := by omega) : RSs k n (d :: ds) := by
  refine ⟨?_, ?_, ?_, ?_, ?_⟩
  · simp only [arePy, h.ip, hs.ip]; rfl
  · simp only [pyAll, PyData.showableAll, h.sh, hs.sh]; rfl
  · simp only [pyAll, PyData.depthAll]
    exact Nat.max_le.mpr ⟨h.dp, hs.dp⟩
  · simp only [pyAll, PyData.leavesShortAll, h.lv, hs.lv]; rfl
  · simp only [pyAll, PyData.weightAll]
    have := h.wt
    have := hs.wt
    omega
theorem RSs.map {α : Type} {f : α → D} {k b : Nat} : ∀ {l : List α}, (∀ a ∈ l, RS k b (f a)) → RSs k ((b + 1) * l.length) (l.map f)
  | [], _ => .nil
  | a :: l, h => .cons (h a (by simp)) (RSs.map (l := l) fun x hx => h x (by simp [hx])) (by rw [List.length_cons, Nat.mul_add]; omega)
theorem RSs.mono {k n m : Nat} {ds : List D} (h : RSs k n ds) (q : n ≤ m) : RSs k m ds := ⟨h.ip, h.sh, h.dp, h.lv, Nat.le_trans h.wt q⟩
theorem RS.mono {k j n m : Nat} {d : D} (h : RS k n d) (q : n ≤ m) (p : k ≤ j) : RS j m d := ⟨h.ip, h.sh, Nat.le_trans h.dp p, h.lv, Nat.le_trans h.wt q⟩
theorem RS.tup {k n : Nat} {ds : List D} (h : RSs k n ds) : RS (k + 1) n (.tup ds) := by
  refine ⟨?_, ?_, ?_, ?_, ?_⟩
  · simp only [isPy, h.ip]
  · simp only [py, PyData.showable, h.sh]
  · simp only [py, PyData.depth]
    have := h.dp
    omega
  · simp only [py, PyData.leavesShort, h.lv]
  · simp only [py, PyData.weight]
    exact h.wt
theorem RS.lst {k n : Nat} {ds : List D} (h : RSs k n ds) : RS (k + 1) n (.lst ds) := by
  refine ⟨?_, ?_, ?_, ?_, ?_⟩
  · simp only [isPy, h.ip]
  · simp only [py, PyData.showable, h.sh]
  · simp only [py, PyData.depth]
    have := h.dp
    omega
  · simp only [py, PyData.leavesShort, h.lv]
  · simp only [py, PyData.weight]
    exact h.wt
theorem RS.str {k : Nat} {L : List Nat} (h : ∀ c ∈ L, c < 1000) : RS k L.length (.str (st L)) := by
  refine ⟨rfl, by simp only [py, PyData.showable], by simp only [py, PyData.depth]; omega, ?_, ?_⟩
  · simp only [py, PyData.leavesShort, Dl.st, List.all_eq_true, decide_eq_true_eq]
    intro c hc
    have := h c (by simpa using hc)
    have e : (16 : Nat) ^ 8 = 4294967296 := by decide
    omega
  · simp [py, PyData.weight, Dl.st]
end Dl
set_option Elab.async false
set_option linter.all false
set_option maxRecDepth 100000
set_option maxHeartbeats 4000000
set_option autoImplicit false
namespace Dl
open PySem PySem.Spec PyProof.Rows L2
/-! ## an own error made as a value: X(e) -/
end Dl
set_option Elab.async false
set_option linter.all false
set_option maxRecDepth 100000
set_option maxHeartbeats 4000000
set_option autoImplicit false
namespace Dl
open PySem PySem.Spec PyProof.Rows L2
/-! ## a def with defaults -/
end Dl
set_option Elab.async false
set_option linter.all false
set_option maxRecDepth 100000
set_option maxHeartbeats 4000000
set_option autoImplicit false
namespace Dl
open PySem PySem.Spec PyProof.Rows L2
/-! ## {'I': .., 'X': .., 'Z': .., 'Y': ..}[letter] -/
end Dl
set_option Elab.async false
set_option linter.all false
set_option maxRecDepth 100000
set_option maxHeartbeats 4000000
set_option autoImplicit false
set_option Elab.async false
set_option linter.all false
set_option maxRecDepth 100000
set_option maxHeartbeats 4000000
set_option autoImplicit false
namespace Dl
open PySem PySem.Spec PyProof.Rows L2
/-! ## == of data that hold own objects -/
theorem Rc.ext {N : En} {F : Hp} {A : List Addr} {H H' : Hp} {μ : List M} (r : Rc N F A H μ) (e : Ext H H') : Rc N F A H' μ where
  sub := r.sub.trans fun a o h => e a o h
  base := r.base
  new := r.new
  keep := fun a o h hA => e _ _ (r.keep a o h hA)
  pre := r.pre
  nd := r.nd
  len := r.len
  mus := fun j a m h1 h2 => by
    obtain ⟨o, ho⟩ := r.there (List.mem_of_getElem? h1)
    exact (r.mus j a m h1 h2).mono (Same.refl _) (List.prefix_refl _) ((e _ _ ho).trans ho.symm)
  fr := r.fr
theorem Rl.ext {N : En} {F : Hp} {A : List Addr} {H H' : Hp} {σ : L2.St} {δ : List (Option S)} {μ : List M} (r : Rl N F A H σ δ μ) (e : Ext H H') : Rl N F A H' σ δ μ := ⟨r.rc.ext e, r.len, r.sl⟩
/-- == inside a builtin, of what stands for d1 and d2, gives b -/
def EB (X : Cx) (n : Nat) (d1 d2 : D) (b : Bool) : Prop :=
  ∀ (A : Around) (pins : List (Addr × Obj)) (s : Shared) (σ : L2.St) (H F : Hp) (x y : V) (u v : Value), Sub X n A → Inv X pins σ H s → Same F H → RelV x u → RelV y v → Rep X.K F x d1 → Rep X.K F y d2 →
    wpAny (model X.prog X.w) A (eqBool u v) (fun r s' => r = b ∧ ∃ H', Inv X pins σ H' s' ∧ Ext H H') X.xe s
section
variable {X : Cx} {N : En} {W : WX} {n : Nat} {δ δ' δ1 δ2 : List (Option S)} {μ μ' μ1 μ2 μ3 : List M} {e a b c o : Expr} {pos p apos : Pos} {d : D} {s s1 s2 : S} {r : Rx} {R : Rel} {k : Nat} {C : Addr}
theorem EB.mono {m : Nat} {d1 d2 : D} {b : Bool} (h : EB X n d1 d2 b) (hn : n ≤ m) : EB X m d1 d2 b := fun A pins s σ H F x y u v sb => h A pins s σ H F x y u v (sb.mono hn)
end
end Dl
set_option Elab.async false
set_option linter.all false
set_option maxRecDepth 100000
set_option maxHeartbeats 4000000
set_option autoImplicit false
namespace K58
open PySem PySem.Spec PyProof.Rows L2 Dl Cq
def top (i : Nat) : Stmt := PySem.Challenge.pw_looseknobs_k58_told_in_one_way_by_hand.main.body.getD i (.Pass ⟨0, 0, 0, 0⟩)
abbrev sInit : Stmt := inClass (top 26) 0
abbrev sWTextP : Stmt := inClass (top 26) 1
abbrev sAre : Stmt := top 27
abbrev sSigned : Stmt := top 28
abbrev sQuarters : Stmt := top 29
abbrev sMade : Stmt := top 30
abbrev sLetter : Stmt := top 31
abbrev sPassBy : Stmt := top 62
abbrev sFirstWords : Stmt := top 65
abbrev sLone : Stmt := top 66
abbrev sPot : Stmt := top 91
abbrev sTake : Stmt := top 92
abbrev sSome : Stmt := top 93
abbrev sCells : Stmt := top 94
abbrev sLMade : Stmt := top 97
abbrev sRight : Stmt := top 98
abbrev sLaw : Stmt := top 99
abbrev sBentF : Stmt := top 63
abbrev sLedThr : Stmt := top 64
abbrev sThrOne : Stmt := top 67
abbrev sThrAbout : Stmt := top 68
abbrev sExch : Stmt := top 69
abbrev sFixSteps : Stmt := top 72
abbrev sFixImages : Stmt := top 73
abbrev sJoined : Stmt := top 56
abbrev sTBackF : Stmt := top 57
abbrev sBegin : Stmt := top 71
abbrev sTurned : Stmt := top 76
abbrev sLayers : Stmt := top 77
abbrev sPacked : Stmt := top 78
abbrev sPlain : Stmt := top 79
abbrev sAhead : Stmt := top 80
abbrev sEarly : Stmt := top 81
abbrev sOneMore : Stmt := top 82
abbrev sChoices : Stmt := top 83
abbrev sAllDone : Stmt := top 84
abbrev sNeedNum : Stmt := top 85
abbrev sPutTog : Stmt := top 86
abbrev sPair : Stmt := top 87
abbrev sFirstSeq : Stmt := top 88
abbrev sFirstFree : Stmt := top 89
abbrev sKnobs : Stmt := top 95
abbrev sLRows : Stmt := top 96
structure TM (mg : Str → Option Value) : Prop where
  len : mg "len" = none
  int : mg "int" = none
  abs : mg "abs" = none
  max : mg "max" = none
  min : mg "min" = none
  range : mg "range" = none
  list : mg "list" = none
  all : mg "all" = none
  any : mg "any" = none
  isinstance : mg "isinstance" = none
  str : mg "str" = none
  tuple : mg "tuple" = none
  enum : mg "enumerate" = none
  zip : mg "zip" = none
  set : mg "set" = none
  repr : mg "repr" = none
  sum : mg "sum" = none
  bool : mg "bool" = none
def bodyOf (s : Stmt) (i : Nat) : List Stmt := match (defBody s).getD i (.Pass ⟨0, 0, 0, 0⟩) with
  | .For _ _ b _ _ => b
  | _ => []
def ifC : Stmt → Expr
  | .If c _ _ _ => c
  | _ => .Constant .none 0 ⟨0, 0, 0, 0⟩
theorem end_at {μ : List M} {a : M} {k : Nat} (h : μ.length = k) : (μ ++ [a])[k]? = some a := by
  subst h
  rw [List.getElem?_append_right (Nat.le_refl _), Nat.sub_self]
  rfl
theorem end_set {μ : List M} {a b : M} {k : Nat} (h : μ.length = k) : (μ ++ [a]).set k b = μ ++ [b] := by
  subst h
  rw [List.set_append_right _ _ (Nat.le_refl _)]
  simp
theorem sz {n : Nat} (h : n ≤ 100000) : n ≤ sizeLine := by rw [sizeLine_eq]; omega
theorem sz' {n : Nat} (h : n ≤ 100000) : n < sizeLine := by rw [sizeLine_eq]; omega
end K58
set_option Elab.async false
set_option linter.all false
set_option maxRecDepth 100000
set_option maxHeartbeats 4000000
set_option autoImplicit false
namespace K58
open PySem PySem.Spec PyProof.Rows L2 Dl Cq
def rAre : Rel := fun ss μ r μ' => ∃ L, okL L ∧ ss = [.p (.str (st L))] ∧ r = .v (.p (.bl true)) ∧ μ' = μ
def rSigned : Rel := fun ss μ r μ' => ∃ (L : List Nat) (s : Int), L.length ≤ 4 ∧ ss = [.p (.str (st L)), .p (.int s)] ∧ r = .v (.p (.str (sgn L s))) ∧ μ' = μ
def rQuarters : Rel := fun ss μ r μ' => ∃ (A B : List Nat), okL A ∧ okL B ∧ A.length = B.length ∧ ss = [.p (.str (st A)), .p (.str (st B))] ∧ r = .v (.p (.int (qs A B))) ∧ μ' = μ
def rLetter : Rel := fun ss μ r μ' => ∃ a b : Nat, a ∈ IXYZ ∧ b ∈ IXYZ ∧ ss = [.p (.str ⟨#[a]⟩), .p (.str ⟨#[b]⟩)] ∧ r = .v (.p (.str ⟨#[third a b]⟩)) ∧ μ' = μ
def rMade : Rel := fun ss μ r μ' => ∃ (A B : List Nat), okL A ∧ okL B ∧ A.length = B.length ∧ ss = [.p (.str (st A)), .p (.str (st B))] ∧ r = .v (.p (.str (st (mk A B)))) ∧ μ' = μ
structure TW (w : World) (K : PySem.W.Frag) (mg : Str → Option Value) (qa ta : Addr) : Prop where
  len : mg "len" = none
  all : mg "all" = none
  sum : mg "sum" = none
  zip : mg "zip" = none
  isi : mg "isinstance" = none
  str : mg "str" = none
  lets : ∃ u, mg "LETTERS" = some u ∧ RelV (.str (st IXYZ)) u
  most : ∃ u, mg "MOST_WIRES" = some u ∧ RelV (.int 4) u
  mq : mg "QUARTER" = some (.ref qa)
  mt : mg "THIRD" = some (.ref ta)
  kq : ∃ es m, KDict K w qa es m
  kt : ∃ es m, KDict K w ta es m
  dq : ∀ a b, a ∈ IXYZ → b ∈ IXYZ → ∃ u, PySem.W.nsIn K qa (st [a, b]) = some u ∧ match u with | some u => ∃ v, RelV v u ∧ ∀ K F, Rep K F v (.int (qt a b)) | none => D.int (qt a b) = .int 0
  dt : ∀ a b, a ∈ IXYZ → b ∈ IXYZ → a ≠ b → a ≠ 73 → b ≠ 73 → ∃ u, PySem.W.nsIn K ta (st [a, b]) = some (some u) ∧ RelV (.str ⟨#[third a b]⟩) u
theorem scAre : FnScope ["text", "letter"] ["text"] (defScope sAre) := ⟨rfl, rfl, rfl, by decide +kernel, rfl, by decide +kernel, by decide +kernel⟩
theorem scSigned : FnScope ["letters", "sign"] ["letters", "sign"] (defScope sSigned) := ⟨rfl, rfl, rfl, by decide +kernel, rfl, by decide +kernel, by decide +kernel⟩
theorem scQuarters : FnScope ["one", "other", "a", "b"] ["one", "other"] (defScope sQuarters) := ⟨rfl, rfl, rfl, by decide +kernel, rfl, by decide +kernel, by decide +kernel⟩
theorem scMade : FnScope ["one", "other", "a", "b"] ["one", "other"] (defScope sMade) := ⟨rfl, rfl, rfl, by decide +kernel, rfl, by decide +kernel, by decide +kernel⟩
theorem scLetter : FnScope ["one", "other"] ["one", "other"] (defScope sLetter) := ⟨rfl, rfl, rfl, by decide +kernel, rfl, by decide +kernel, by decide +kernel⟩
section
variable {P : Program} {w : World} {K : PySem.W.Frag} {mg : Str → Option Value} {base : Heap} {qa ta f : Addr} {fd : FuncData}
theorem ok_are (F : Fun K "are_letters" "are_letters" sAre f fd) (T : TW w K mg qa ta) : FnOk P w K mg base (L2.CX P w) 1 f fd ["text"] (spD K rAre) := by
  refine fn_D (k := 0) F scAre (fun ss μ r μ' h => by obtain ⟨L, _, rfl, _⟩ := h; rfl) ?_
  intro cdv A outer s H E N W ss μ r μ' g hA hR
  obtain ⟨L, hL, rfl, rfl, rfl⟩ := hR
  obtain ⟨u1, hu1, ru1⟩ := T.lets
  obtain ⟨u2, hu2, ru2⟩ := T.most
  have h4 := hL.four
  have h1 := hL.one
  refine ⟨_, dss_ret (de_of (de_and (de_chn de_int (de_callB (da_cons (de_var 0) da_nil) (c_lenS (by rw [st_len]; exact size4 (by omega))) T.len (by decide +kernel)) o_le (fun _ => de_glob hu2 ru2 (fun _ _ => .int 4)) (fun _ => o_le))
    (fun _ => de_one (de_callB (id := "all") (da_cons (de_lc g [("letter", 1)] (di_of (di_str (de_var 0)) (chars_st L)) (fun s H C cl fp => dg_name 1 g.nd)
      (of_maps (fy := fun c => .bl (decide (c ∈ IXYZ))) fun c hc => ⟨_, rfl, fun s H C cl fp N' hK g' => de_cmp (de_var 1) (de_glob hu1 ru1 (fun _ _ => .str _)) o_inS⟩) (ok := blkOk_by (by rfl)) (hds := by rw [List.length_map]; exact size4' (by omega))) da_nil) (c_allm g) T.all (by decide +kernel)))) ?_), .rt⟩
  rw [st_len, decide_eq_true (show (1 : Int) ≤ (L.length : Int) by omega), decide_eq_true (show (L.length : Int) ≤ 4 by omega), show (L.all fun c => decide (c ∈ IXYZ)) = true by simpa using hL.all]
  rfl
theorem sgn_neg {L : List Nat} {s : Int} (h : s < 0) : Str.ofString "-" ++ st L = sgn L s := by
  unfold sgn
  rw [if_pos h]
  exact st_app [45] L
theorem sgn_pos {L : List Nat} {s : Int} (h : ¬ s < 0) : st L = sgn L s := by
  unfold sgn
  rw [if_neg h]
theorem ok_signed (F : Fun K "signed_text" "signed_text" sSigned f fd) : FnOk P w K mg base (L2.CX P w) 1 f fd ["letters", "sign"] (spD K rSigned) := by
  refine fn_D (k := 0) F scSigned (fun ss μ r μ' h => by obtain ⟨L, s, _, rfl, _⟩ := h; rfl) ?_
  intro cdv A outer s H E N W ss μ r μ' g hA hR
  obtain ⟨L, i, hL, rfl, rfl, rfl⟩ := hR
  by_cases hi : i < 0
  · exact ⟨_, dss_ifT (dt_of (dt_cmp (de_var 1) de_int o_lt) (decide_eq_true hi)) (dss_ret (de_of (de_bin de_str (de_var 0) (o_addS (by rw [st_len]; show 1 + _ ≤ _; exact size4 (by omega)))) (congrArg D.str (sgn_neg hi)))) cr, .rt⟩
  · exact ⟨_, dss_skip (dt_of (dt_cmp (de_var 1) de_int o_lt) (decide_eq_false hi)) (dss_ret (de_of (de_var 0) (congrArg D.str (sgn_pos hi)))), .rt⟩
theorem zip_chars (A B : List Nat) : (chars (st A)).zipWith (fun a b => D.tup [a, b]) (chars (st B)) = (A.zip B).map fun p => .tup [.str ⟨#[p.1]⟩, .str ⟨#[p.2]⟩] := by
  rw [chars_st, chars_st, List.zipWith_map, List.zip, List.map_zipWith]
theorem zip_mem {A B : List Nat} {p : Nat × Nat} (h : p ∈ A.zip B) : p.1 ∈ A ∧ p.2 ∈ B := by
  obtain ⟨a, b⟩ := p
  exact List.of_mem_zip h
theorem two_st (a b : Nat) : (⟨#[a]⟩ : Str) ++ ⟨#[b]⟩ = st [a, b] := st_app [a] [b]
theorem ok_quarters (F : Fun K "quarters" "quarters" sQuarters f fd) (T : TW w K mg qa ta) : FnOk P w K mg base (L2.CX P w) 1 f fd ["one", "other"] (spD K rQuarters) := by
  refine fn_D (k := 0) F scQuarters (fun ss μ r μ' h => by obtain ⟨A, B, _, _, _, rfl, _⟩ := h; rfl) ?_
  intro cdv A0 outer s H E N W ss μ r μ' g hA hR
  obtain ⟨A, B, hLA, hLB, hl, rfl, rfl, rfl⟩ := hR
  obtain ⟨es, m, kq⟩ := T.kq
  have h4 := hLA.four
  refine ⟨_, dss_ret (de_of (de_callB (id := "sum") (da_cons (de_lc g [("a", 2), ("b", 3)] (di_of (di_zip g (da_cons (de_var 0) (da_cons (de_var 1) da_nil)) (.str _) (.str _) T.zip) (zip_chars A B))
    (fun s H C cl fp => dg_tup (dgs_cons (dg_name 2 g.nd) (dgs_cons (dg_name 3 g.nd) dgs_nil)) g.hK g.calm)
    (of_maps (fy := fun p => .int (qt p.1 p.2)) fun p hp => ⟨_, rfl, fun s H C cl fp N' hK g' => ?_⟩) (ok := blkOk_by (by rfl)) (hds := by rw [List.length_map, List.length_zip]; exact size4' (by omega))) da_nil) (c_summ g) T.sum (by decide +kernel)) ?_), .rt⟩
  · obtain ⟨hp1, hp2⟩ := zip_mem hp
    obtain ⟨u, h1, h2⟩ := T.dq p.1 p.2 (hLA.all _ hp1) (hLB.all _ hp2)
    cases u <;> exact de_kdGet kq (de_glob (v := .ref qa) T.mq rfl (fun _ _ => .adr _)) (de_of (de_bin (de_var 2) (de_var 3) (o_addS (by show 1 + 1 ≤ _; exact size4 (by omega)))) (congrArg D.str (two_st _ _))) de_int h1 h2 ⟨rfl, rfl, rfl, rfl⟩
  · rw [List.zip, List.map_zipWith]
    rfl
theorem ch_eq (a b : Nat) : decide ((⟨#[a]⟩ : Str) = ⟨#[b]⟩) = decide (a = b) := by simp
theorem ok_letter (F : Fun K "_made_letter" "_made_letter" sLetter f fd) (T : TW w K mg qa ta) : FnOk P w K mg base (L2.CX P w) 1 f fd ["one", "other"] (spD K rLetter) := by
  refine fn_D (k := 0) F scLetter (fun ss μ r μ' h => by obtain ⟨A, B, _, _, rfl, _⟩ := h; rfl) ?_
  intro cdv A0 outer s H E N W ss μ r μ' g hA hR
  obtain ⟨a, b, ha, hb, rfl, rfl, rfl⟩ := hR
  obtain ⟨es, m, kt⟩ := T.kt
  by_cases h1 : a = b
  · exact ⟨_, dss_ifT (dt_of (dt_cmp (de_var 0) (de_var 1) o_eqS) ((ch_eq a b).trans (decide_eq_true h1))) (dss_ret (de_of de_str (congrArg D.str (by rw [third, if_pos h1] <;> rfl)))) cr, .rt⟩
  by_cases h2 : a = 73
  · exact ⟨_, dss_skip (dt_of (dt_cmp (de_var 0) (de_var 1) o_eqS) ((ch_eq a b).trans (decide_eq_false h1))) (dss_ifT (dt_of (dt_cmp (de_var 0) de_str o_eqS) ((ch_eq a 73).trans (decide_eq_true h2))) (dss_ret (de_of (de_var 1) (congrArg D.str (by rw [third, if_neg h1, if_pos h2] <;> rfl)))) cr), .rt⟩
  by_cases h3 : b = 73
  · exact ⟨_, dss_skip (dt_of (dt_cmp (de_var 0) (de_var 1) o_eqS) ((ch_eq a b).trans (decide_eq_false h1))) (dss_skip (dt_of (dt_cmp (de_var 0) de_str o_eqS) ((ch_eq a 73).trans (decide_eq_false h2)))
      (dss_ifT (dt_of (dt_cmp (de_var 1) de_str o_eqS) ((ch_eq b 73).trans (decide_eq_true h3))) (dss_ret (de_of (de_var 0) (congrArg D.str (by rw [third, if_neg h1, if_neg h2, if_pos h3] <;> rfl)))) cr)), .rt⟩
  obtain ⟨u, h4, h5⟩ := T.dt a b ha hb h1 h2 h3
  exact ⟨_, dss_skip (dt_of (dt_cmp (de_var 0) (de_var 1) o_eqS) ((ch_eq a b).trans (decide_eq_false h1))) (dss_skip (dt_of (dt_cmp (de_var 0) de_str o_eqS) ((ch_eq a 73).trans (decide_eq_false h2)))
      (dss_skip (dt_of (dt_cmp (de_var 1) de_str o_eqS) ((ch_eq b 73).trans (decide_eq_false h3))) (dss_ret (de_kdIx kt (de_glob (v := .ref ta) T.mt rfl (fun _ _ => .adr _)) (de_of (de_bin (de_var 0) (de_var 1) (o_addS (by show 1 + 1 ≤ _; exact size4 (by omega)))) (congrArg D.str (two_st _ _))) h4 h5 (fun _ _ => .str _))))), .rt⟩
theorem ok_made (F : Fun K "made_letters" "made_letters" sMade f fd) (T : TW w K mg qa ta) (cl : Cf P w K mg base 1 "_made_letter" [] rLetter) : FnOk P w K mg base (L2.CX P w) 2 f fd ["one", "other"] (spD K rMade) := by
  refine fn_D (k := 1) F scMade (fun ss μ r μ' h => by obtain ⟨A, B, _, _, _, rfl, _⟩ := h; rfl) ?_
  intro cdv A0 outer s H E N W ss μ r μ' g hA hR
  obtain ⟨A, B, hLA, hLB, hl, rfl, rfl, rfl⟩ := hR
  have h4 := hLA.four
  refine ⟨_, dss_ret (de_of (de_bm PySem.F.plainAttrs_str PySem.F.slot_str_join PySem.F.type_str_join de_str (da_cons (de_lc g [("a", 2), ("b", 3)] (di_of (di_zip g (da_cons (de_var 0) (da_cons (de_var 1) da_nil)) (.str _) (.str _) T.zip) (zip_chars A B))
    (fun s H C cl fp => dg_tup (dgs_cons (dg_name 2 g.nd) (dgs_cons (dg_name 3 g.nd) dgs_nil)) g.hK g.calm)
    (of_maps (fy := fun p => .str ⟨#[third p.1 p.2]⟩) fun p hp => ⟨_, rfl, fun s H C cl' fp N' hK g' => ?_⟩) (ok := blkOk_by (by rfl)) (hds := by rw [List.length_map, List.length_zip]; exact size4' (by omega))) da_nil) (m_joinm (by rw [List.length_zip]; omega))) ?_), .rt⟩
  · obtain ⟨hp1, hp2⟩ := zip_mem hp
    exact de_call g' cl (da_cons (de_var 2) (da_cons (de_var 3) da_nil)) ⟨p.1, p.2, hLA.all _ hp1, hLB.all _ hp2, rfl, rfl, rfl⟩
  · rw [List.zip, List.map_zipWith]
    rfl
end
end K58
set_option Elab.async false
set_option linter.all false
set_option maxRecDepth 100000
set_option maxHeartbeats 4000000
set_option autoImplicit false
namespace K58
open PySem PySem.Spec PyProof.Rows L2 Dl Cq
structure TC (K : PySem.W.Frag) (mg : Str → Option Value) (C : Addr) : Prop where
  ci : ClsI K C
  nL : NoAttr K C "letters"
  nS : NoAttr K C "sign"
  at_ : mg "Word" = some (.ref C)
  sf : PySem.W.selfFirst K C = true
  nf : PySem.W.notFirst K C (.ref C) = true
  ne : NeOk K C
def pm (s : Int) : Prop := s = 1 ∨ s = -1
def wF : List Str := ["letters", "sign"]
def rInit (C : Addr) : Rel := fun ss μ r μ' => ∃ (j : Nat) (L : List Nat) (s : Int), okL L ∧ pm s ∧ ss = [.l j, .p (.str (sgn L s))] ∧ μ[j]? = some (.obj C [] []) ∧ r = .v (.p .non) ∧ μ' = μ.set j (.obj C wF [.str (st L), .int s])
theorem scInit : FnScope ["self", "text", "letters"] ["self", "text"] (defScope sInit) := ⟨rfl, rfl, rfl, by decide +kernel, rfl, by decide +kernel, by decide +kernel⟩
theorem kit_same {K : PySem.W.Frag} {t : Value} : PySem.W.kitOne K t t = some true := by
  unfold PySem.W.kitOne
  rw [if_pos (by simp)]
theorem sgn_prefix {L : List Nat} {s : Int} (h : okL L) : Txt.removeprefix (sgn L s) (Str.ofString "-") = st L := by
  obtain ⟨h1, h4, ha⟩ := h
  unfold sgn
  split
  · match L, h1, h4 with
    | [a], _, _ => rfl
    | [a, b], _, _ => rfl
    | [a, b, c], _, _ => rfl
    | [a, b, c, d], _, _ => rfl
  · match L, h1, h4, ha with
    | a :: l, _, h4, ha =>
      have hm := ha a (by simp)
      clear ha
      simp only [IXYZ, List.mem_cons, List.not_mem_nil, or_false] at hm
      rcases hm with rfl | rfl | rfl | rfl <;> (match l, h4 with
        | [], _ => rfl
        | [b], _ => rfl
        | [b, c], _ => rfl
        | [b, c, d], _ => rfl)
theorem sgn_starts {L : List Nat} {s : Int} (h : okL L) : Txt.startswith (sgn L s) (Str.ofString "-") = decide (s < 0) := by
  obtain ⟨h1, h4, ha⟩ := h
  unfold sgn
  split
  · rename_i hs
    rw [decide_eq_true hs]
    match L, h1, h4 with
    | [a], _, _ => rfl
    | [a, b], _, _ => rfl
    | [a, b, c], _, _ => rfl
    | [a, b, c, d], _, _ => rfl
  · rename_i hs
    rw [decide_eq_false hs]
    match L, h1, h4, ha with
    | a :: l, _, h4, ha =>
      have hm := ha a (by simp)
      clear ha
      simp only [IXYZ, List.mem_cons, List.not_mem_nil, or_false] at hm
      rcases hm with rfl | rfl | rfl | rfl <;> (match l, h4 with
        | [], _ => rfl
        | [b], _ => rfl
        | [b, c], _ => rfl
        | [b, c, d], _ => rfl)
section
variable {P : Program} {w : World} {K : PySem.W.Frag} {mg : Str → Option Value} {base : Heap} {qa ta f C : Addr} {fd : FuncData}
theorem ok_init (F : Fun K "__init__" "Word.__init__" sInit f fd) (T : TW w K mg qa ta) (T2 : TC K mg C) (ca : Cf P w K mg base 1 "are_letters" [] rAre) : FnOk P w K mg base (L2.CX P w) 2 f fd ["self", "text"] (spD K (rInit C)) := by
  refine fn_D (k := 1) F scInit (fun ss μ r μ' h => by obtain ⟨j, L, s, _, _, rfl, _⟩ := h; rfl) ?_
  intro cdv A0 outer s0 H E N W ss μ r μ' g hA hR
  obtain ⟨j, L, s, hL, hs, rfl, hj, rfl, rfl⟩ := hR
  have h4 := hL.four
  have hlen : (sgn L s).length ≤ sizeLine := by
    unfold sgn
    rw [st_len]
    split
    · exact size4 (by rw [List.length_cons]; omega)
    · exact size4 (by omega)
  refine ⟨_, dss_skip (dt_not (dt_val (de_callB (id := "isinstance") (da_cons (de_var 1) (da_cons (de_ty T.str (by decide +kernel)) da_nil)) (c_isi g (.str _) (.ty _) kit_same) T.isi (by decide +kernel))))
    (dss_cons (ds_set 2 (de_of (de_bm PySem.F.plainAttrs_str PySem.F.slot_str_removeprefix PySem.F.type_str_removeprefix (de_var 1) (da_cons de_str da_nil) (m_removeprefix hlen)) (congrArg D.str (sgn_prefix hL))) g.nd) (cn
    (dss_skip (dt_not (dt_val (de_call g ca (da_cons (de_var 2) da_nil) ⟨L, hL, rfl, rfl, rfl⟩)))
    (dss_cons (ds_fldNew (de_var 2) (de_var 0) T2.ci.cl T2.nL hj) (cn
    (dss_cons (ds_fldNew (de_if (r := .v (.p (.int s))) (k := decide (s < 0)) (dt_of (dt_val (de_bm PySem.F.plainAttrs_str PySem.F.slot_str_startswith PySem.F.type_str_startswith (de_var 1) (da_cons de_str da_nil) m_startswith)) (sgn_starts hL)) (fun h => de_of (de_un de_int u_neg) (congrArg D.int ?_)) (fun h => de_of de_int (congrArg D.int ?_))) (de_var 0) T2.ci.cl T2.nS (List.getElem?_set_self (List.getElem?_eq_some_iff.mp hj).1)) (cn dss_nil))))))), ?_⟩
  · rcases hs with rfl | rfl
    · simp at h
    · rfl
  · rcases hs with rfl | rfl
    · rfl
    · simp at h
  · rw [List.set_set]
    exact .nx
end
section
variable {X : Cx} {N : En} {W : WX} {n : Nat} {δ : List (Option S)} {μ μ1 μ2 : List M} {e o a b : Expr} {p pos apos : Pos} {C : Addr} {L A B : List Nat} {s t : Int}
theorem de_word (g : Go X N W n) (ci : Ci X.prog X.w X.K X.mg X.base 2 C "Word" [] (rInit C)) (hL : okL L) (hs : pm s) (h : DE X N W δ μ e (.v (.p (.str (sgn L s)))) μ1) (hk : 2 + 1 ≤ n := by decide) (hg : Gl X "Word" := by rfl)
    (he : starEach [e] X.env = (false, eval e X.env) :: starEach [] X.env := by rfl) (hpl : (backTo pos (starEach [] X.env)).any (·.1) = false := by rfl) : DE X N W δ μ (.Call (.Name "Word" p) [e] [] pos) (.v (.p (wd C L s))) μ1 := by
  refine de_make g ci (da_cons h da_nil he) (μ0 := (μ1 ++ [M.obj C [] []]).set μ1.length (M.obj C wF [.str (st L), .int s])) ⟨μ1.length, L, s, hL, hs, rfl, by simp, rfl, rfl⟩ (List.getElem?_set_self (by simp)) ?_ hk hg (by decide) he hpl
  rw [List.set_append_right _ _ (Nat.le_refl _)]
  simp
end
section
variable {P : Program} {w : World} {K : PySem.W.Frag} {mg : Str → Option Value} {base : Heap} {qa ta f C : Addr} {fd : FuncData}
theorem pm_small {s : Int} (h : pm s) : -(2 ^ 64) < s ∧ s < 2 ^ 64 := by
  rcases h with rfl | rfl <;> decide
end
end K58
set_option Elab.async false
set_option linter.all false
set_option maxRecDepth 100000
set_option maxHeartbeats 4000000
set_option autoImplicit false
namespace K58
open PySem PySem.Spec PyProof.Rows L2 Dl Cq
theorem scPot : FnScope ["script", "k", "cell", "own", "small"] ["script", "k"] (defScope sPot) := ⟨rfl, rfl, rfl, by decide +kernel, rfl, by decide +kernel, by decide +kernel⟩
theorem scTake : FnScope ["pot", "upto", "digit", "prime", "blend"] ["pot", "upto"] (defScope sTake) := ⟨rfl, rfl, rfl, by decide +kernel, rfl, by decide +kernel, by decide +kernel⟩
theorem scCells : FnScope ["script", "most"] ["script", "most"] (defScope sCells) := ⟨rfl, rfl, rfl, by decide +kernel, rfl, by decide +kernel, by decide +kernel⟩
/-! ### the pot of digits -/
structure Pot where
  a : Int
  b : Int
  c : Int
def Pot.m (p : Pot) : M := .lst [.int p.a, .int p.b, .int p.c]
structure Pot.ok (n : Nat) (p : Pot) : Prop where
  b0 : 0 ≤ p.b
  b1 : p.b < 2 ^ 62
  c0 : 0 ≤ p.c
  c1 : p.c ≤ n
def absF (c : Int) : Int := if c < 0 then -c else c
def cellF (ns : List Int) (i : Nat) : Int := if i < ns.length then ns.getD i 0 else 151 * (i : Int) + 169
def potF (ns : List Int) (i : Nat) : Pot :=
  ⟨absF (cellF ns i) % ((10 ^ 60) ^ 5) * (if decide ((10 : Int) ^ 18 ≤ absF (cellF ns i)) then 1 else 0), (cellF ns i % 2305843009213693951 * 70591 + 8461 * (i : Int) * (i : Int) + 295) % 2305843009213693921, 0⟩
theorem potF_ok (ns : List Int) (i : Nat) : (potF ns i).ok 0 :=
  ⟨Int.emod_nonneg _ (by decide), Int.lt_trans (Int.emod_lt_of_pos _ (by decide)) (by decide), Int.le_refl _, Int.le_refl _⟩
def primeF (c : Int) : Int := ([2147483647, 2147483629, 2147483587, 2147483579, 2147483563] : List Int).getD (c % 5).toNat 0
def blendF (b c : Int) : Int := (b + 94085 * c * c + 115) ^ 3 % primeF c
def takeF (p : Pot) (u : Int) : Int × Pot :=
  if 0 < p.a then (p.a % u, ⟨p.a / u, p.b, p.c⟩) else (blendF p.b (p.c + 1) * (blendF p.b (p.c + 1) % 10145 + 179 * (p.c + 1)) % 2305843009213693907 / 151 % u, ⟨p.a, p.b, p.c + 1⟩)
theorem takeF_ok {n : Nat} {p : Pot} {u : Int} (h : p.ok n) : (takeF p u).2.ok (n + 1) := by
  obtain ⟨h1, h2, h3, h4⟩ := h
  unfold takeF
  split
  · exact ⟨h1, h2, h3, by show p.c ≤ _; omega⟩
  · exact ⟨h1, h2, by show 0 ≤ p.c + 1; omega, by show p.c + 1 ≤ _; omega⟩
theorem takeF_lt {p : Pot} {u : Int} (h : 0 < u) : 0 ≤ (takeF p u).1 ∧ (takeF p u).1 < u := by
  unfold takeF
  split
  · exact ⟨Int.emod_nonneg _ (by omega), Int.emod_lt_of_pos _ h⟩
  · exact ⟨Int.emod_nonneg _ (by omega), Int.emod_lt_of_pos _ h⟩
theorem prime_in (c : Int) : ∃ k : Nat, c % 5 = (k : Int) ∧ k < 5 := by
  have h1 := Int.emod_nonneg c (show (5 : Int) ≠ 0 by decide)
  have h2 := Int.emod_lt_of_pos c (show (0 : Int) < 5 by decide)
  exact ⟨(c % 5).toNat, by omega, by omega⟩
theorem prime_at (c : Int) : atI [D.int 2147483647, .int 2147483629, .int 2147483587, .int 2147483579, .int 2147483563] (c % 5) = some (.int (primeF c)) := by
  obtain ⟨k, h1, h2⟩ := prime_in c
  unfold primeF
  rw [h1]
  match k, h2 with
  | 0, _ => rfl
  | 1, _ => rfl
  | 2, _ => rfl
  | 3, _ => rfl
  | 4, _ => rfl
theorem prime_pos (c : Int) : 0 < primeF c ∧ primeF c < 2 ^ 31 := by
  obtain ⟨k, h1, h2⟩ := prime_in c
  unfold primeF
  rw [h1]
  match k, h2 with
  | 0, _ => decide
  | 1, _ => decide
  | 2, _ => decide
  | 3, _ => decide
  | 4, _ => decide
theorem blend_pos (b c : Int) : 0 ≤ blendF b c ∧ blendF b c < 2 ^ 31 := by
  have h := prime_pos c
  exact ⟨Int.emod_nonneg _ (by omega), Int.lt_trans (Int.emod_lt_of_pos _ h.1) h.2⟩
def rPot : Rel := fun ss μ r μ' => ∃ (ns : List Int) (i : Nat), i ≤ 100 ∧ ss = [.p (.sc ns), .p (.int (i : Int))] ∧ r = .v (.l μ.length) ∧ μ' = μ ++ [(potF ns i).m]
def rTake : Rel := fun ss μ r μ' => ∃ (j : Nat) (p : Pot) (u : Int), p.ok 9000 ∧ 0 < u ∧ u < 1000 ∧ ss = [.l j, .p (.int u)] ∧ μ[j]? = some p.m ∧ r = .v (.p (.int (takeF p u).1)) ∧ μ' = μ.set j (takeF p u).2.m
section
variable {P : Program} {w : World} {K : PySem.W.Frag} {mg : Str → Option Value} {base : Heap} {f C : Addr} {fd : FuncData}
theorem cell_at {ns : List Int} {i : Nat} (h : i < ns.length) : ns[i]? = some (cellF ns i) := by
  unfold cellF
  rw [if_pos h, List.getD, List.getElem?_eq_getElem h]
  rfl
theorem ite01 (q : Bool) : -(2 ^ 64) < (if q then (1 : Int) else 0) ∧ (if q then (1 : Int) else 0) < 2 ^ 64 := by cases q <;> decide
theorem ok_pot (F : Fun K "_law_pot" "_law_pot" sPot f fd) (T : TM mg) : FnOk P w K mg base (L2.CX P w) 1 f fd ["script", "k"] (spD K rPot) := by
  refine fn_D (k := 0) F scPot (fun ss μ r μ' h => by obtain ⟨ns, i, _, rfl, _⟩ := h; rfl) ?_
  intro cdv A0 outer s0 H E N W ss μ r μ' g hA hR
  obtain ⟨ns, i, hi, rfl, rfl, rfl⟩ := hR
  refine ⟨_, dss_cons (ds_set 2 (de_if (r := .v (.p (.int (cellF ns i)))) (k := decide ((i : Int) < (ns.length : Int))) (dt_cmp (de_var 1) (de_callB (id := "len") (da_cons (de_var 0) da_nil) (c_lenSc g) T.len (by decide +kernel)) o_lt)
      (fun h => de_ix (de_var 0) (de_var 1) (i_sc g (cell_at (by have := of_decide_eq_true h; omega)))) (fun h => de_of (de_bin (de_bin de_int (de_var 1) (o_mul (.inl (by decide)))) de_int o_add) (congrArg D.int ?_))) g.nd) (cn
    (dss_cons (ds_set 3 (de_of (de_bin (de_bin (de_callT (T := "int") (da_cons (de_callB (id := "abs") (da_cons (de_var 2) da_nil) c_abs T.abs (by decide +kernel)) da_nil) c_int T.int (by decide +kernel)) (de_bin (de_bin de_int de_int (o_pow ?_)) de_int (o_pow ?_)) (o_mod ?_))
      (de_callT (T := "int") (da_cons (de_cmp (de_callB (id := "abs") (da_cons (de_var 2) da_nil) c_abs T.abs (by decide +kernel)) (de_bin de_int de_int (o_pow ?_)) o_ge) da_nil) c_intB T.int (by decide +kernel)) (o_mul (.inr ?_))) (congrArg D.int (show _ = (potF ns i).a from rfl))) g.nd) (cn
    (dss_cons (ds_set 4 (de_bin (de_callT (T := "int") (da_cons (de_var 2) da_nil) c_int T.int (by decide +kernel)) de_int (o_mod (by decide))) g.nd) (cn
    (dss_ret (de_lstM (dp_cons (de_var 3) (dp_cons (de_of (de_bin (de_callT (T := "int") (da_cons (de_bin (de_bin (de_bin (de_var 4) de_int (o_mul (.inr (by decide)))) (de_bin (de_bin de_int (de_var 1) (o_mul (.inl (by decide)))) (de_var 1) (o_mul (.inr (by omega)))) o_add) de_int o_add) da_nil) c_int T.int (by decide +kernel)) de_int (o_mod (by decide))) (congrArg D.int (show _ = (potF ns i).b from rfl))) (dp_cons (de_of de_int (congrArg D.int (show _ = (potF ns i).c from rfl))) dp_nil)))))))))), .rt⟩
  · unfold cellF
    rw [if_neg (fun z => of_decide_eq_false h (by omega))]
  · exact ⟨by decide, by decide +kernel⟩
  · exact ⟨by decide, by decide +kernel⟩
  · decide +kernel
  · exact ⟨by decide, by decide +kernel⟩
  · exact ite01 _
theorem set_at {μ : List M} {j : Nat} {m x : M} (h : μ[j]? = some m) : (μ.set j x)[j]? = some x := List.getElem?_set_self (List.getElem?_eq_some_iff.mp h).1
theorem ok_take (F : Fun K "_law_take" "_law_take" sTake f fd) (T : TM mg) : FnOk P w K mg base (L2.CX P w) 1 f fd ["pot", "upto"] (spD K rTake) := by
  refine fn_D (k := 0) F scTake (fun ss μ r μ' h => by obtain ⟨j, p, u, _, _, _, rfl, _⟩ := h; rfl) ?_
  intro cdv A0 outer s0 H E N W ss μ r μ' g hA hR
  obtain ⟨j, p, u, hp, hu, hu2, rfl, hj, rfl, rfl⟩ := hR
  obtain ⟨b0, b1, c0, c1⟩ := hp
  by_cases ha : 0 < p.a
  · have e : takeF p u = (p.a % u, ⟨p.a / u, p.b, p.c⟩) := if_pos ha
    rw [e]
    exact ⟨_, dss_ifT (dt_of (dt_cmp (de_ix (de_var 0) de_int (i_lstM (i := 0) hj rfl)) de_int o_gt) (decide_eq_true ha))
      (dss_cons (ds_set 2 (de_bin (de_callT (T := "int") (da_cons (de_ix (de_var 0) de_int (i_lstM (i := 0) hj rfl)) da_nil) c_int T.int (by decide +kernel)) (de_var 1) (o_mod hu)) g.nd) (cn
      (dss_cons (ds_setM (de_bin (de_ix (de_var 0) de_int (i_lstM (i := 0) hj rfl)) (de_var 1) (o_div ⟨hu, by omega⟩)) (de_var 0) de_int hj rfl) (cn
      (dss_ret (de_var 2)))))) cr, .rt⟩
  · have e : takeF p u = (blendF p.b (p.c + 1) * (blendF p.b (p.c + 1) % 10145 + 179 * (p.c + 1)) % 2305843009213693907 / 151 % u, ⟨p.a, p.b, p.c + 1⟩) := if_neg ha
    rw [e]
    have hc : (0 : Int) ≤ p.c + 1 ∧ p.c + 1 ≤ 9001 := by omega
    have hb := blend_pos p.b (p.c + 1)
    have hm : 94085 * (p.c + 1) * (p.c + 1) ≤ 94085 * 9001 * 9001 := Int.mul_le_mul (by omega) hc.2 hc.1 (by decide)
    have hm0 : 0 ≤ 94085 * (p.c + 1) * (p.c + 1) := Int.mul_nonneg (by omega) hc.1
    refine ⟨_, dss_skip (dt_of (dt_cmp (de_ix (de_var 0) de_int (i_lstM (i := 0) hj rfl)) de_int o_gt) (decide_eq_false ha))
      (dss_cons (ds_setM (de_bin (de_ix (de_var 0) de_int (i_lstM (i := 2) hj rfl)) de_int o_add) (de_var 0) de_int hj rfl) (cn
      (dss_cons (ds_set 3 (de_ix (de_lst (dp_cons de_int (dp_cons de_int (dp_cons de_int (dp_cons de_int (dp_cons de_int dp_nil)))))) (de_bin (de_callT (T := "int") (da_cons (de_ix (de_var 0) de_int (i_lstM (i := 2) (set_at hj) rfl)) da_nil) c_int T.int (by decide +kernel)) de_int (o_mod (by decide))) (i_lst g (prime_at _))) g.nd) (cn
      (dss_cons (ds_set 4 (de_of (de_bin (de_callT (T := "int") (da_cons (de_bin (de_callT (T := "int") (da_cons (de_bin (de_bin (de_ix (de_var 0) de_int (i_lstM (i := 1) (set_at hj) rfl)) (de_bin (de_bin de_int (de_ix (de_var 0) de_int (i_lstM (i := 2) (set_at hj) rfl)) (o_mul (.inl (by decide)))) (de_ix (de_var 0) de_int (i_lstM (i := 2) (set_at hj) rfl)) (o_mul (.inr (by omega)))) o_add) de_int o_add) da_nil) c_int T.int (by decide +kernel)) de_int (o_pow ?_)) da_nil) c_int T.int (by decide +kernel)) (de_var 3) (o_mod (prime_pos _).1)) (congrArg D.int (show _ = blendF p.b (p.c + 1) from rfl))) g.nd) (cn
      (dss_cons (ds_set 4 (de_bin (de_callT (T := "int") (da_cons (de_bin (de_var 4) (de_bin (de_bin (de_callT (T := "int") (da_cons (de_var 4) da_nil) c_int T.int (by decide +kernel)) de_int (o_mod (by decide))) (de_bin de_int (de_ix (de_var 0) de_int (i_lstM (i := 2) (set_at hj) rfl)) (o_mul (.inl (by decide)))) o_add) (o_mul (.inl (by omega)))) da_nil) c_int T.int (by decide +kernel)) de_int (o_mod (by decide))) g.nd) (cn
      (dss_ret (de_bin (de_callT (T := "int") (da_cons (de_bin (de_var 4) de_int (o_div ⟨by decide, by decide⟩)) da_nil) c_int T.int (by decide +kernel)) (de_var 1) (o_mod hu))))))))))), .rt⟩
    refine ⟨by decide, ?_⟩
    have hx := intBits_le_64 (k := p.b + 94085 * (p.c + 1) * (p.c + 1) + 115) (by omega) (by omega)
    show ((Builtin.Int.intBits (p.b + 94085 * (p.c + 1) * (p.c + 1) + 115) : Nat) : Int) * 3 ≤ _
    omega
end
theorem Pot.ok.mono {n m : Nat} {p : Pot} (h : p.ok n) (q : n ≤ m) : p.ok m := ⟨h.b0, h.b1, h.c0, by have := h.c1; omega⟩
theorem set_self {μ : List M} {j : Nat} {m : M} (h : μ[j]? = some m) : μ.set j m = μ := by
  obtain ⟨h1, h2⟩ := List.getElem?_eq_some_iff.mp h
  subst h2
  exact List.set_getElem_self h1
/-! ### choices -/
def tk (p : Pot) (u : Nat) : Nat := (takeF p u).1.toNat
def tkP (p : Pot) (u : Nat) : Pot := (takeF p u).2
theorem tk_lt {p : Pot} {u : Nat} (h : 0 < u) : tk p u < u := by
  have := takeF_lt (p := p) (u := (u : Int)) (by omega)
  unfold tk
  omega
theorem tk_eq {p : Pot} {u : Nat} (h : 0 < u) : (takeF p u).1 = ((tk p u : Nat) : Int) := by
  have := takeF_lt (p := p) (u := (u : Int)) (by omega)
  unfold tk
  omega
theorem tkP_ok {n : Nat} {p : Pot} {u : Nat} (h : p.ok n) : (tkP p u).ok (n + 1) := takeF_ok h
def rTk : Rel := fun ss μ r μ' => ∃ (j : Nat) (p : Pot) (u : Nat), p.ok 9000 ∧ 0 < u ∧ u < 1000 ∧ ss = [.l j, .p (.int (u : Nat))] ∧ μ[j]? = some p.m ∧ r = .v (.p (.int (tk p u : Nat))) ∧ μ' = μ.set j (tkP p u).m
theorem tk_of {ss : List S} {μ : List M} {r : Rx} {μ' : List M} (h : rTk ss μ r μ') : rTake ss μ r μ' := by
  obtain ⟨j, p, u, h1, h2, h3, h4, h5, h6, h7⟩ := h
  exact ⟨j, p, (u : Int), h1, by omega, by omega, h4, h5, by rw [h6, tk_eq h2], h7⟩
theorem at_getD {α : Type} {q : α → D} {d : α} {l : List α} {i : Nat} (h : i < l.length) : atI (l.map q) ((i : Nat) : Int) = some (q (l.getD i d)) := by
  refine atI_nat ?_
  rw [List.getElem?_map, List.getElem?_eq_getElem h, List.getD_eq_getElem?_getD, List.getElem?_eq_getElem h]
  rfl
theorem at_getN {l : List Nat} {d i : Nat} (h : i < l.length) : atI l ((i : Nat) : Int) = some (l.getD i d) := by
  refine atI_nat ?_
  rw [List.getElem?_eq_getElem h, List.getD_eq_getElem?_getD, List.getElem?_eq_getElem h]
  rfl
def cellsN (ns : List Int) : Nat := max 1 (min 4 ns.length)
def rCells : Rel := fun ss μ r μ' => ∃ (ns : List Int), ss = [.p (.sc ns), .p (.int 4)] ∧ r = .v (.p (.lst (rangeD 0 (cellsN ns)))) ∧ μ' = μ
section
variable {P : Program} {w : World} {K : PySem.W.Frag} {mg : Str → Option Value} {base : Heap} {f C : Addr} {fd : FuncData}
theorem ok_tk (F : Fun K "_law_take" "_law_take" sTake f fd) (T : TM mg) : FnOk P w K mg base (L2.CX P w) 1 f fd ["pot", "upto"] (spD K rTk) := by
  exact (ok_take (P := P) (w := w) (base := base) F T).imp fun vs H Q E h => by
    obtain ⟨F1, A1, ss, μ, r, μ', h1, h2⟩ := h
    exact ⟨F1, A1, ss, μ, r, μ', tk_of h1, h2⟩
theorem ok_cells (F : Fun K "_law_cells" "_law_cells" sCells f fd) (T : TM mg) : FnOk P w K mg base (L2.CX P w) 1 f fd ["script", "most"] (spD K rCells) := by
  refine fn_D (k := 0) F scCells (fun ss μ r μ' h => by obtain ⟨ns, rfl, _⟩ := h; rfl) ?_
  intro cdv A0 outer s0 H E N W ss μ r μ' g hA hR
  obtain ⟨ns, rfl, rfl, rfl⟩ := hR
  refine ⟨_, dss_ret (de_of (de_listRg g (de_callB (id := "max") (da_cons de_int (da_cons (de_callB (id := "min") (da_cons (de_var 1) (da_cons (de_callB (id := "len") (da_cons (de_var 0) da_nil) (c_lenSc g) T.len (by decide +kernel)) da_nil)) (c_min2 g) T.min (by decide +kernel)) da_nil)) (c_max2 g) T.max (by decide +kernel)) T.list T.range ?_) ?_), .rt⟩
  · split <;> split at * <;> omega
  · congr 2
    unfold cellsN
    split <;> split at * <;> omega
end
end K58
set_option Elab.async false
set_option linter.all false
set_option maxRecDepth 100000
set_option maxHeartbeats 4000000
set_option autoImplicit false
namespace K58
open PySem PySem.Spec PyProof.Rows L2 Dl Cq
abbrev inD (a : Nat) : D := .int (a : Nat)
theorem rng_in (n : Nat) : rangeD 0 n = (List.range n).map inD := by
  unfold rangeD inD
  exact List.map_congr_left fun i _ => by simp
/-! ### values of any kind, for tables -/
end K58
set_option Elab.async false
set_option linter.all false
set_option maxRecDepth 100000
set_option maxHeartbeats 4000000
set_option autoImplicit false
namespace K58
open PySem PySem.Spec PyProof.Rows L2 Dl Cq
/-! ### a Table is made -/
section
variable {X : Cx} {N : En} {W : WX} {n : Nat} {μ : List M}
theorem inV_ints (z : Int) : ∀ zs : List Int, inV (.int z) (zs.map V.int) = decide (z ∈ zs)
  | [] => rfl
  | y :: zs => by
    have := inV_ints z zs
    unfold inV at *
    rw [List.map_cons, List.any_cons, this]
    show ((y == z) || decide (z ∈ zs)) = decide (z ∈ y :: zs)
    by_cases h : y = z
    · subst h; simp
    · have h2 : ¬ z = y := fun e => h e.symm
      simp [h, h2]
end
def idx {α : Type} : Nat → List α → List (Nat × α)
  | _, [] => []
  | k, a :: l => (k, a) :: idx (k + 1) l
theorem idx_enum {α : Type} (q : α → D) : ∀ (l : List α) (k : Nat), enumD k (l.map q) = (idx k l).map fun p => .tup [inD p.1, q p.2]
  | [], _ => rfl
  | a :: l, k => by
    show _ :: enumD (k + 1) (l.map q) = _
    rw [idx_enum q l]
    rfl
theorem idx_mem {α : Type} : ∀ {l : List α} {k i : Nat} {a : α}, (i, a) ∈ idx k l ↔ ∃ j, i = k + j ∧ l[j]? = some a
  | [], k, i, a => by simp [idx]
  | b :: l, k, i, a => by
    show (i, a) ∈ (k, b) :: idx (k + 1) l ↔ _
    rw [List.mem_cons, idx_mem (l := l)]
    constructor
    · rintro (h | ⟨j, h1, h2⟩)
      · injection h with h1 h2
        subst h1 h2
        exact ⟨0, rfl, rfl⟩
      · exact ⟨j + 1, by omega, by simpa using h2⟩
    · rintro ⟨j, h1, h2⟩
      cases j with
      | zero =>
        left
        simp at h2
        subst h2
        simp [h1]
      | succ j => exact .inr ⟨j, by omega, by simpa using h2⟩
def rTextP (C : Addr) : Rel := fun ss μ r μ' => ∃ (L : List Nat) (s : Int), okL L ∧ ss = [.p (wd C L s)] ∧ r = .v (.p (.str (sgn L s))) ∧ μ' = μ
theorem scWTextP : FnScope ["self"] ["self"] (defScope sWTextP) := ⟨rfl, rfl, rfl, by decide +kernel, rfl, by decide +kernel, by decide +kernel⟩
section
variable {P : Program} {w : World} {K : PySem.W.Frag} {mg : Str → Option Value} {base : Heap} {qa ta f C CT CB : Addr} {fd : FuncData}
theorem ok_textP (F : Fun K "text" "Word.text" sWTextP f fd) (T2 : TC K mg C) (cs : Cf P w K mg base 1 "signed_text" [] rSigned) : FnOk P w K mg base (L2.CX P w) 2 f fd ["self"] (spD K (rTextP C)) := by
  refine fn_D (k := 1) F scWTextP (fun ss μ r μ' h => by obtain ⟨L, s, _, rfl, _⟩ := h; rfl) ?_
  intro cdv A0 outer s0 H E N W ss μ r μ' g hA hR
  obtain ⟨L, s, hL, rfl, rfl, rfl⟩ := hR
  exact ⟨_, dss_ret (de_call g cs (da_cons (de_fld (de_var 0) g T2.ci.cl T2.nL) (da_cons (de_fld (de_var 0) g T2.ci.cl T2.nS) da_nil)) ⟨L, s, hL.four, rfl, rfl, rfl⟩), .rt⟩
end
end K58
set_option Elab.async false
set_option linter.all false
set_option maxRecDepth 100000
set_option maxHeartbeats 4000000
set_option autoImplicit false
namespace Cq
open PySem PySem.Spec PyProof.Rows L2 Dl
theorem evens_pairs {α β : Type} (a b : β → α) : ∀ ps : List β, evens (ps.flatMap fun p => [a p, b p]) = ps.map a
  | [] => rfl
  | p :: ps => by
    show a p :: evens (ps.flatMap fun p => [a p, b p]) = _
    rw [evens_pairs a b ps]
    rfl
theorem evens_pairs' {α β : Type} (a b : β → α) : ∀ ps : List β, evens ((ps.flatMap fun p => [a p, b p]).drop 1) = ps.map b
  | [] => rfl
  | [p] => rfl
  | p :: q :: ps => by
    show b p :: evens (((q :: ps).flatMap fun p => [a p, b p]).drop 1) = _
    rw [evens_pairs' a b (q :: ps)]
    rfl
theorem zip_self {β : Type} (a b : β → D) : ∀ ps : List β, (ps.map a).zipWith (fun x y => D.tup [x, y]) (ps.map b) = ps.map fun p => .tup [a p, b p]
  | [] => rfl
  | p :: ps => by
    show D.tup [a p, b p] :: _ = _
    rw [zip_self a b ps]
    rfl
theorem flat_len {β α : Type} (a b : β → α) : ∀ ps : List β, (ps.flatMap fun p => [a p, b p]).length = 2 * ps.length
  | [] => rfl
  | p :: ps => by
    rw [List.flatMap_cons, List.length_append, flat_len a b ps, List.length_cons]
    show 2 + 2 * ps.length = 2 * (ps.length + 1)
    omega
/-- the knobs of all turns are few -/
theorem knobs_len {w : Nat} : ∀ {ls : List Ln}, (∀ l ∈ ls, okLn w l) → (ls.flatMap formK).length ≤ 3 * (ls.filter isT).length
  | [], _ => Nat.zero_le _
  | l :: ls, h => by
    have ih := knobs_len (ls := ls) fun x hx => h x (by simp [hx])
    have h0 := h l (by simp)
    rw [List.flatMap_cons, List.length_append, List.filter_cons]
    cases l with
    | tn s L ps =>
      have h3 : (formK (.tn s L ps)).length ≤ 3 := by
        show ((formF ps).map (·.1)).length ≤ 3
        rw [List.length_map]
        exact Nat.le_trans (formF_len ps) h0.2.2.1
      rw [if_pos (show isT (.tn s L ps) = true from rfl), List.length_cons]
      omega
    | ab q s L => rw [if_neg (show ¬ isT (.ab q s L) = true from nofun)]; show 0 + _ ≤ _; omega
    | h a => rw [if_neg (show ¬ isT (.h a) = true from nofun)]; show 0 + _ ≤ _; omega
    | pr k a b => rw [if_neg (show ¬ isT (.pr k a b) = true from nofun)]; show 0 + _ ≤ _; omega
def isTD : D → Bool
  | .tup (.str z :: _) => decide (z = st wTurn)
  | _ => false
def esT : D → List D
  | .tup [_, _, _, .tup fs] => fs
  | _ => []
def fstD : D → D
  | .tup [a, _] => a
  | _ => .non
theorem st_no {L M : List Nat} (h : L ≠ M) : decide (st L = st M) = false := decide_eq_false fun e => h (st_inj.mp e)
theorem isTD_stp : ∀ l : Ln, isTD (stpD l) = isT l
  | .ab q s L => by
    show decide (st (if q then wQuarter else wFlip) = st wTurn) = false
    cases q
    · exact st_no (by decide)
    · exact st_no (by decide)
  | .h a => by
    show decide (st [104] = st wTurn) = false
    exact st_no (by decide)
  | .pr k a b => by
    show decide (st (pn k) = st wTurn) = false
    refine st_no ?_
    unfold pn
    split
    · decide
    · split <;> decide
  | .tn s L ps => by
    show decide (st wTurn = st wTurn) = true
    exact decide_eq_true rfl
theorem flat_knobs : ∀ ls : List Ln, flat2 isTD esT (fun _ e => fstD e) (ls.map stpD) = (ls.flatMap formK).map D.str
  | [] => rfl
  | l :: ls => by
    show (if isTD (stpD l) = true then (esT (stpD l)).map (fun e => fstD e) else []) ++ flat2 isTD esT (fun _ e => fstD e) (ls.map stpD) = _
    rw [flat_knobs ls, isTD_stp, List.flatMap_cons, List.map_append]
    congr 1
    cases l with
    | tn s L ps =>
      show ((formF ps).map Dl.pairD).map fstD = ((formF ps).map (·.1)).map D.str
      rw [List.map_map, List.map_map]
      rfl
    | ab q s L => rfl
    | h a => rfl
    | pr k a b => rfl
end Cq
set_option Elab.async false
set_option linter.all false
set_option maxRecDepth 100000
set_option maxHeartbeats 4000000
set_option autoImplicit false
namespace Cq
open PySem PySem.Spec PyProof.Rows L2 Dl
/-! ## what a text begins with -/
/-! ## contrary lines -/
/-! ## circuits out of circuits -/
theorem okC.sub {w : Nat} {ls ms : List Ln} (h : okC w ls) (q : ms.Sublist ls) : okC w ms :=
  ⟨h.w1, h.w4, fun l hl => h.ok l (q.subset hl), Nat.le_trans q.length_le h.len, Nat.le_trans (q.filter _).length_le h.six⟩
theorem join_ct (w : Nat) (ls : List Ln) : Txt.join (Str.ofString "\n") ((wT w :: ls.map lt).map st) = st (ct w ls) := SX.join_S [10] _
theorem sum_len : ∀ (ws : List (List Nat)) (m : Nat), (∀ v ∈ ws, v.length ≤ m) → ((ws.map st).map (·.length)).sum ≤ ws.length * m
  | [], m, _ => Nat.zero_le _
  | v :: ws, m, h => by
    have := sum_len ws m fun x hx => h x (by simp [hx])
    have h0 := h v (by simp)
    rw [List.map_cons, List.map_cons, List.sum_cons, List.length_cons, Nat.succ_mul, st_len]
    omega
theorem ct_sum {w : Nat} {ls : List Ln} (h : okC w ls) : (((wT w :: ls.map lt).map st).map (·.length)).sum + ((wT w :: ls.map lt).map st).length * (Str.ofString "\n").length ≤ 16777216 := by
  have h1 := sum_len (wT w :: ls.map lt) 81 (fun v hv => by
    rcases List.mem_cons.mp hv with rfl | hv
    · show 7 ≤ 81; decide
    · obtain ⟨l, hl, rfl⟩ := List.mem_map.mp hv
      exact lt_len (h.ok l hl))
  have h2 : (wT w :: ls.map lt).length ≤ 41 := by have := h.len; simp; omega
  have h3 : (wT w :: ls.map lt).length * 81 ≤ 41 * 81 := Nat.mul_le_mul_right _ h2
  rw [List.length_map, show (Str.ofString "\n").length = 1 from rfl, Nat.mul_one]
  omega
/-- a comprehension with a test -/
theorem of_filt {X : Cx} {K : PySem.W.Frag} {nn : Nat} {scope : Scope} {c elt : Expr} {f : As} {δ : List (Option S)} {μ : List M} {α : Type} {gd fy : α → D} {q : α → Bool} : ∀ {l : List α}, (∀ a ∈ l, ∃ δt, f (gd a) δ = some δt ∧ DTB X K nn scope c δt μ (q a) μ ∧ (q a = true → DEB X K nn scope elt δt μ (fy a) μ)) → CmpL (El1 X K nn scope c elt) f δ (l.map gd) μ ((l.filter q).map fy) μ
  | [], _ => .nil
  | a :: l, h => by
    obtain ⟨δt, h1, h2, h3⟩ := h a (by simp)
    have ih := of_filt (l := l) fun b hb => h b (by simp [hb])
    rw [List.filter_cons]
    cases hq : q a with
    | true =>
      rw [hq] at h2
      exact .keep h1 ⟨μ, h2, h3 hq⟩ ih
    | false =>
      rw [hq] at h2
      exact .drop h1 ⟨μ, h2, rfl⟩ ih
/-- numbers of lines that are turns, in a comprehension over enumerate -/
theorem of_enum {X : Cx} {K : PySem.W.Frag} {nn : Nat} {scope : Scope} {c elt : Expr} {f : As} {δ : List (Option S)} {μ : List M} {gd : Ln → D} {fy : Nat → D} : ∀ {l : List Ln} (k : Nat), (∀ a ∈ l, ∀ i : Nat, ∃ δt, f (.tup [.int ((i : Nat) : Int), gd a]) δ = some δt ∧ DTB X K nn scope c δt μ (isT a) μ ∧ (isT a = true → DEB X K nn scope elt δt μ (fy i) μ)) → CmpL (El1 X K nn scope c elt) f δ (enumD k (l.map gd)) μ ((turnsG k l).map fy) μ
  | [], k, _ => .nil
  | a :: l, k, h => by
    obtain ⟨δt, h1, h2, h3⟩ := h a (by simp) k
    have ih := of_enum (l := l) (fy := fy) (k + 1) fun b hb => h b (by simp [hb])
    show CmpL _ f δ (.tup [.int ((k : Nat) : Int), gd a] :: enumD (k + 1) (l.map gd)) μ _ μ
    unfold turnsG
    cases hq : isT a with
    | true =>
      rw [hq] at h2
      exact .keep h1 ⟨μ, h2, h3 hq⟩ ih
    | false =>
      rw [hq] at h2
      exact .drop h1 ⟨μ, h2, rfl⟩ ih
/-! ## knobs and turns of the contrary circuit -/
end Cq
set_option Elab.async false
set_option linter.all false
set_option maxRecDepth 100000
set_option maxHeartbeats 4000000
set_option autoImplicit false
namespace Dl
/-! ## words led by quarters: products go along -/
abbrev Wp := Int × List Nat
structure okX (n : Nat) (x : Wp) : Prop where
  ok : okL x.2
  len : x.2.length = n
  pm : x.1 = 1 ∨ x.1 = -1
end Dl
set_option Elab.async false
set_option linter.all false
set_option maxRecDepth 100000
set_option maxHeartbeats 4000000
set_option autoImplicit false
namespace Dl
/-! ## maps of words that keep products; words put together of letters -/
/-! letters at one wire -/
def ln1 (n k c : Nat) : List Nat := List.replicate k 73 ++ [c] ++ List.replicate (n - k - 1) 73
def lones (n : Nat) : List Wp := (List.range n).flatMap fun k => [(1, ln1 n k 88), (1, ln1 n k 90)]
end Dl
set_option Elab.async false
set_option linter.all false
set_option maxRecDepth 100000
set_option maxHeartbeats 4000000
set_option autoImplicit false
namespace Cq
open PySem PySem.Spec PyProof.Rows L2 Dl
/-! ## words led back through fixed lines, by tables of letters -/
def hL (a : Nat) : List Nat := if a = 88 then [90] else if a = 90 then [88] else [a]
def hS (a : Nat) : Int := if a = 89 then -1 else 1
def czT : List (List Nat × List Nat × Int) := [([73, 73], [73, 73], 1), ([73, 88], [90, 88], 1), ([73, 89], [90, 89], 1), ([73, 90], [73, 90], 1), ([88, 73], [88, 90], 1), ([88, 88], [89, 89], 1), ([88, 89], [89, 88], -1), ([88, 90], [88, 73], 1), ([89, 73], [89, 90], 1), ([89, 88], [88, 89], -1), ([89, 89], [88, 88], 1), ([89, 90], [89, 73], 1), ([90, 73], [90, 73], 1), ([90, 88], [73, 88], 1), ([90, 89], [73, 89], 1), ([90, 90], [90, 90], 1)]
def cxT : List (List Nat × List Nat × Int) := [([73, 73], [73, 73], 1), ([73, 88], [73, 88], 1), ([73, 89], [90, 89], 1), ([73, 90], [90, 90], 1), ([88, 73], [88, 88], 1), ([88, 88], [88, 73], 1), ([88, 89], [89, 90], 1), ([88, 90], [89, 89], -1), ([89, 73], [89, 88], 1), ([89, 88], [89, 73], 1), ([89, 89], [88, 90], -1), ([89, 90], [88, 89], 1), ([90, 73], [90, 73], 1), ([90, 88], [90, 88], 1), ([90, 89], [73, 89], 1), ([90, 90], [73, 90], 1)]
def pT (T : List (List Nat × List Nat × Int)) (a b : Nat) : List Nat × Int := ((T.find? fun e => decide (e.1 = [a, b])).map (·.2)).getD ([73, 73], 1)
def exL (L ps u : List Nat) : List Nat := (ps.zip u).foldl (fun r p => r.set p.1 p.2) L
def at7 (L : List Nat) (i : Nat) : Nat := L.getD i 73
def abF (q : Bool) (s : Int) (A L : List Nat) : List Nat × Int := if qs A L % 2 = 0 then (L, 1) else if q = false then (L, -1) else (mk A L, sg (qs A L + 1) * s)
def prF (k a b : Nat) (L : List Nat) : List Nat × Int := if k = 0 then (exL L [a, b] (pT czT (at7 L a) (at7 L b)).1, (pT czT (at7 L a) (at7 L b)).2) else if k = 1 then (exL L [a, b] (pT cxT (at7 L a) (at7 L b)).1, (pT cxT (at7 L a) (at7 L b)).2) else (exL L [a, b] [at7 L b, at7 L a], 1)
def thr1 : Ln → List Nat → List Nat × Int
  | .h a, L => (exL L [a] (hL (at7 L a)), hS (at7 L a))
  | .ab q s A, L => abF q s A L
  | .pr k a b, L => prF k a b L
  | .tn _ _ _, L => (L, 1)
def thrX (l : Ln) (x : Wp) : Wp := (x.1 * (thr1 l x.2).2, (thr1 l x.2).1)
def thrF (ls : List Ln) (x : Wp) : Wp := ls.reverse.foldl (fun x l => thrX l x) x
def fixF (ls : List Ln) : List Ln := ls.filter fun l => !isT l
theorem at7_in {L : List Nat} (h : ∀ c ∈ L, c ∈ IXYZ) (i : Nat) : at7 L i ∈ IXYZ := by
  unfold at7
  rw [List.getD_eq_getElem?_getD]
  cases e : L[i]? with
  | none => show 73 ∈ IXYZ; decide
  | some c => exact h c (List.mem_of_getElem? e)
theorem hL_ok : ∀ a ∈ IXYZ, okL (hL a) ∧ (hS a = 1 ∨ hS a = -1) ∧ (hL a).length = 1 := by
  have : ∀ a ∈ IXYZ, (1 ≤ (hL a).length ∧ (hL a).length ≤ 4 ∧ ∀ c ∈ hL a, c ∈ IXYZ) ∧ (hS a = 1 ∨ hS a = -1) ∧ (hL a).length = 1 := by decide
  intro a ha
  obtain ⟨⟨q1, q2, q3⟩, h2, h3⟩ := this a ha
  exact ⟨⟨q1, q2, q3⟩, h2, h3⟩
theorem pT_ok : ∀ T ∈ [czT, cxT], ∀ a ∈ IXYZ, ∀ b ∈ IXYZ, okL (pT T a b).1 ∧ ((pT T a b).2 = 1 ∨ (pT T a b).2 = -1) ∧ (pT T a b).1.length = 2 := by
  have : ∀ T ∈ [czT, cxT], ∀ a ∈ IXYZ, ∀ b ∈ IXYZ, (1 ≤ (pT T a b).1.length ∧ (pT T a b).1.length ≤ 4 ∧ ∀ c ∈ (pT T a b).1, c ∈ IXYZ) ∧ ((pT T a b).2 = 1 ∨ (pT T a b).2 = -1) ∧ (pT T a b).1.length = 2 := by decide +kernel
  intro T hT a ha b hb
  obtain ⟨⟨q1, q2, q3⟩, h2, h3⟩ := this T hT a ha b hb
  exact ⟨⟨q1, q2, q3⟩, h2, h3⟩
theorem exL_len : ∀ (z : List (Nat × Nat)) (L : List Nat), (z.foldl (fun r p => r.set p.1 p.2) L).length = L.length
  | [], _ => rfl
  | p :: z, L => by rw [List.foldl_cons, exL_len z, List.length_set]
theorem exL_in : ∀ (z : List (Nat × Nat)) (L : List Nat), (∀ c ∈ L, c ∈ IXYZ) → (∀ p ∈ z, p.2 ∈ IXYZ) → ∀ c ∈ z.foldl (fun r p => r.set p.1 p.2) L, c ∈ IXYZ
  | [], _, h, _ => h
  | p :: z, L, h, k => by
    rw [List.foldl_cons]
    refine exL_in z _ (fun c hc => ?_) (fun q hq => k q (List.mem_cons_of_mem _ hq))
    rcases List.mem_or_eq_of_mem_set hc with hc | rfl
    · exact h c hc
    · exact k p List.mem_cons_self
theorem exL_ok {L ps u : List Nat} (h : okL L) (hu : ∀ c ∈ u, c ∈ IXYZ) : okL (exL L ps u) ∧ (exL L ps u).length = L.length := by
  have l := exL_len (ps.zip u) L
  refine ⟨⟨Nat.le_trans h.1 (Nat.le_of_eq l.symm), Nat.le_trans (Nat.le_of_eq l) h.four, exL_in _ _ h.all fun p hp => hu _ (List.of_mem_zip (show (p.1, p.2) ∈ ps.zip u from hp)).2⟩, l⟩
theorem thr1_ok {n : Nat} {l : Ln} {L : List Nat} (hl : okLn n l) (h : okL L) (e : L.length = n) : okL (thr1 l L).1 ∧ (thr1 l L).1.length = n ∧ ((thr1 l L).2 = 1 ∨ (thr1 l L).2 = -1) := by
  cases l with
  | h a =>
    obtain ⟨p1, p2, _⟩ := hL_ok _ (at7_in h.all a)
    obtain ⟨q1, q2⟩ := exL_ok (ps := [a]) h p1.all
    exact ⟨q1, q2.trans e, p2⟩
  | ab q s A =>
    have hA : okWd n s A := hl
    show okL (abF q s A L).1 ∧ (abF q s A L).1.length = n ∧ ((abF q s A L).2 = 1 ∨ (abF q s A L).2 = -1)
    unfold abF
    split
    · exact ⟨h, e, .inl rfl⟩
    · split
      · exact ⟨h, e, .inr rfl⟩
      · have hln : A.length = L.length := hA.len.trans e.symm
        have m := mk_ok hA.okL h hln
        refine ⟨m, (mk_len hln).trans hA.len, ?_⟩
        have h1 : sg (qs A L + 1) = 1 ∨ sg (qs A L + 1) = -1 := by unfold sg; split <;> simp
        show sg (qs A L + 1) * s = 1 ∨ sg (qs A L + 1) * s = -1
        rcases h1 with h1 | h1 <;> rcases hA.pm with h2 | h2 <;> rw [h1, h2] <;> decide
  | pr k a b =>
    have ha := at7_in h.all a
    have hb := at7_in h.all b
    show okL (prF k a b L).1 ∧ (prF k a b L).1.length = n ∧ ((prF k a b L).2 = 1 ∨ (prF k a b L).2 = -1)
    unfold prF
    split
    · obtain ⟨p1, p2, _⟩ := pT_ok czT (by simp) _ ha _ hb
      obtain ⟨q1, q2⟩ := exL_ok (ps := [a, b]) h p1.all
      exact ⟨q1, q2.trans e, p2⟩
    · split
      · obtain ⟨p1, p2, _⟩ := pT_ok cxT (by simp) _ ha _ hb
        obtain ⟨q1, q2⟩ := exL_ok (ps := [a, b]) h p1.all
        exact ⟨q1, q2.trans e, p2⟩
      · obtain ⟨q1, q2⟩ := exL_ok (ps := [a, b]) (u := [at7 L b, at7 L a]) h (fun c hc => by
          simp only [List.mem_cons, List.not_mem_nil, or_false] at hc
          rcases hc with rfl | rfl
          · exact hb
          · exact ha)
        exact ⟨q1, q2.trans e, .inl rfl⟩
  | tn s A ps => exact ⟨h, e, .inl rfl⟩
theorem pm_mul {s t : Int} (h : s = 1 ∨ s = -1) (k : t = 1 ∨ t = -1) : s * t = 1 ∨ s * t = -1 := by
  rcases h with rfl | rfl <;> rcases k with rfl | rfl <;> decide
theorem thrX_ok {n : Nat} {l : Ln} {x : Wp} (hl : okLn n l) (h : okX n x) : okX n (thrX l x) := by
  obtain ⟨a, b, c⟩ := thr1_ok hl h.ok h.len
  exact ⟨a, b, pm_mul h.pm c⟩
theorem thrF_ok {n : Nat} : ∀ {ls : List Ln} {x : Wp}, (∀ l ∈ ls, okLn n l) → okX n x → okX n (thrF ls x) := by
  intro ls x h hx
  unfold thrF
  have : ∀ (ms : List Ln) (x : Wp), (∀ l ∈ ms, okLn n l) → okX n x → okX n (ms.foldl (fun x l => thrX l x) x) := by
    intro ms
    induction ms with
    | nil => exact fun x _ h => h
    | cons l ms ih => exact fun x h k => ih _ (fun m hm => h m (List.mem_cons_of_mem _ hm)) (thrX_ok (h l List.mem_cons_self) k)
  exact this _ x (fun l hl => h l (List.mem_reverse.mp hl)) hx
end Cq
set_option Elab.async false
set_option linter.all false
set_option maxRecDepth 100000
set_option maxHeartbeats 4000000
set_option autoImplicit false
namespace Dl
open PySem PySem.Spec PyProof.Rows L2
end Dl
set_option Elab.async false
set_option linter.all false
set_option maxRecDepth 100000
set_option maxHeartbeats 4000000
set_option autoImplicit false
namespace Dl
open PySem PySem.Spec PyProof.Rows L2
/-! ## list(x), x a text: a list that changes -/
abbrev charV (c : Nat) : V := .str ⟨#[c]⟩
section
variable {X : Cx}
theorem vals_signs {z : Str} {acc : Array Value} (h : ItemsOf (SignAt z) acc z.cps.size) : Vals (z.cps.toList.map charV) acc.toList := by
  obtain ⟨h1, h2⟩ := h
  have key : ∀ (l : List Nat) (k : Nat) (vs : List Value), l.length = vs.length → (∀ (j : Nat) (v : Value), vs[j]? = some v → ∃ (c : Nat) (u : Tok), l[j]? = some c ∧ v = Value.str ⟨#[c]⟩ u) → Vals (l.map charV) vs := by
    intro l
    induction l with
    | nil =>
      intro k vs hl _
      cases vs with
      | nil => exact .nil
      | cons v vs => simp at hl
    | cons a l ih =>
      intro k vs hl h
      cases vs with
      | nil => simp at hl
      | cons v vs =>
        obtain ⟨c, u, e1, e2⟩ := h 0 v rfl
        have e1' : a = c := by simpa using e1
        subst e1' e2
        exact .cons ⟨u, rfl⟩ (ih k vs (by simpa using hl) fun j v hj => h (j + 1) v hj)
  refine key z.cps.toList 0 acc.toList (by simp [h1]) fun j v hj => ?_
  rw [Array.getElem?_toList] at hj
  obtain ⟨c, u, e1, e2⟩ := h2 j v hj
  exact ⟨c, u, by rw [Array.getElem?_toList]; exact e1, e2⟩
theorem call_listS (hc : X.calm = true) : CallR X (.type "list") (fun xs H Q => ∃ z, xs = [V.str z] ∧ z.cps.size ≤ sizeLine ∧ ∀ l, H l = none → Q (.ref l) (upd H l (.lst (z.cps.toList.map charV)))) := by
  intro pins s σ H xs us Q I r h
  obtain ⟨z, rfl, hz, q⟩ := h
  obtain ⟨u, rfl, t, rfl⟩ := vals1 r
  refine call_list_str (I.ok.hd hc) z t (fun h' tk acc' c' kp e it => ?_) hz
  have hv := vals_signs it
  exact ⟨.ref s.heap.objs.size, _, I.laid (t' := tk) kp (Nat.le_refl _) (show ObjOk X.prog X.w _ h' _ (.lst (z.cps.toList.map charV)) from ⟨by simpa using hz, acc'.toList, c', hv, by simpa using e⟩), rfl, q _ (I.hok.fresh (Nat.le_refl _))⟩
end
section
variable {X : Cx} {N : En} {W : WX} {n : Nat} {δ : List (Option S)} {μ μ1 : List M} {e : Expr} {pos p2 p3 p4 : Pos}
theorem reps_signs {K : PySem.W.Frag} {F : Hp} : ∀ l : List Nat, Reps K F (l.map charV) (l.map fun c => D.str ⟨#[c]⟩)
  | [] => .nil
  | _ :: l => .cons (.str _) (reps_signs l)
theorem c_listS (g : Go X N W n) {L : List Nat} (hl : L.length ≤ 1000) : CallOk X N W (.type "list") μ [.p (.str (st L))] (.v (.l μ.length)) (μ ++ [.lst (L.map fun c => .str ⟨#[c]⟩)]) :=
  ⟨_, call_listS g.calm, fun σ δ F A H vs Q R rv k => by
    obtain ⟨v, rfl, h⟩ := one_of rv
    cases (show Rep N.K F v (.str (st L)) from h)
    refine ⟨st L, rfl, by show L.toArray.size ≤ sizeLine; rw [List.size_toArray, sizeLine_eq]; omega, fun p np => ?_⟩
    have pp : A <+: A ++ [p] := List.prefix_append _ _
    have e : (st L).cps.toList = L := rfl
    rw [e]
    refine k (.ref p) _ (A ++ [p]) _ (Same.refl _) pp (R.to (Same.refl _) pp (R.rc.newM np ⟨_, upd_same, reps_signs L⟩)) ⟨p, rfl, ?_⟩
    rw [← R.rc.len]; simp⟩
theorem made_rev (a b : Nat) (t u : Tok) : sliceMade (st [a, b]) t none none (some (-1, u)) = Made.str ⟨#[b, a]⟩ := by
  have p : slicePicked (st [a, b]) none none (some (-1, u)) = [1, 0] := by
    show Builtin.Str.strSliceIndices none none (-1) 2 = [1, 0]
    decide +kernel
  unfold sliceMade
  rw [p]
  rfl
/-- ab[::-1], two letters -/
theorem pe_revS {te : TE} {tc : TO} {st_ : Expr} (he : PE X e te) (hc : PO X (some st_) tc) : PE X (.Subscript e (.Slice none none (some st_) p2) pos) (fun σ H Q => te σ H fun x H1 => tc σ H1 fun c H2 => ∃ a b, x = .str (st [a, b]) ∧ c = some (-1) ∧ Q (.str (st [b, a])) H2) := by
  refine ⟨fun pins s σ H Q I h => ?_⟩
  refine Subscript_ (thn (he.run pins s σ H _ I h) fun v s1 ⟨x, H1, I1, r1, q1⟩ => ?_)
  refine wpAny_Slice ?_
  rw [evalPart_none]; refine wpAny_pure ?_
  refine wpAny_pure ?_
  refine thn (hc.run pins s1 σ H1 _ I1 q1) fun vc s4 ⟨c, H4, I4, pc, q4⟩ => ?_
  have I5 : Inv X pins σ H4 { s4 with heap := s4.heap.push { cls := .type "slice", data := .fields #[.none, .none, vc] } } := I4.kept (t' := s4.toks) fun b ob q => Heap.get?_push_of_some _ q
  obtain ⟨a, b, rfl, rfl, q⟩ := q4
  obtain ⟨t, rfl⟩ := r1
  obtain ⟨l, rfl, hl⟩ := IsPart.raw pc
  cases l with
  | none => cases hl
  | some iu =>
    obtain ⟨i, u⟩ := iu
    have hl' : i = -1 := by simpa using hl
    subst hl'
    have z : wpAny (model X.prog X.w) X.A (getItem (.str (st [a, b]) t) (.ref s4.heap.objs.size)) (EP X pins σ Q) X.xe { s4 with heap := s4.heap.push { cls := .type "slice", data := .fields #[.none, .none, .int (-1) u] } } := by
      refine wpAny_getItem_str_slice (l := none) (u := none) (st := some (-1, u)) ⟨_, Heap.get?_push_size _ rfl, rfl, rfl⟩ rfl ?_
      rw [made_rev]
      exact ⟨by show 2 ≤ sizeLine; decide, .str (st [b, a]), H4, I5.tok _, ⟨_, rfl⟩, q⟩
    show wpAny (model X.prog X.w) X.A (subscriptTail e (.Slice none none (some st_) p2) (.str (st [a, b]) t) (.ref s4.heap.objs.size)) (EP X pins σ Q) X.xe { s4 with heap := s4.heap.push { cls := .type "slice", data := .fields #[.none, .none, .int (-1) u] } }
    exact tail_any (ops := [.ref s4.heap.objs.size, .str (st [a, b]) t]) (typeIs_str _ _ _) F.slot_str_getitem.lookup z (by with_unfolding_all rfl)
theorem de_revS {kk} {a b : Nat} (g : Go X N W n) (he : DE X N W δ μ e (.v (.p (.str (st [a, b])))) μ1) : DE X N W δ μ (.Subscript e (.Slice none none (some (.UnaryOp .USub (.Constant (.int 1) kk p3) p4)) p2) pos) (.v (.p (.str (st [b, a])))) μ1 :=
  PE.imp (pe_revS he (po_some (de_un (N := N) (W := W) (δ := δ) (μ := μ1) de_int u_neg))) fun σ H Q ⟨F, A, R, k⟩ => ⟨F, A, R, fun v F1 A1 H1 e1 a1 R1 rv => by
    cases (show Rep N.K F1 v (.str (st [a, b])) from rv)
    refine ⟨F1, A1, R1, fun z F2 A2 H2 e2 a2 R2 rz => ?_⟩
    cases (show Rep N.K F2 z (.int (-1)) from rz)
    exact ⟨-1, rfl, a, b, rfl, rfl, k _ F2 A2 H2 (e1.trans e2) (a1.trans a2) R2 (.str _)⟩⟩
end
end Dl
set_option Elab.async false
set_option linter.all false
set_option maxRecDepth 100000
set_option maxHeartbeats 4000000
set_option autoImplicit false
namespace Dl
open PySem PySem.Spec PyProof.Rows L2
/-! ## comprehensions over a list that changes, elements that change nothing -/
section
variable {X : Cx} {N : En} {W : WX} {n : Nat} {δ : List (Option S)} {μ μ1 : List M} {elt tg iter : Expr} {pos : Pos} {α : Type} {gd fy : α → D} {l : List α} {scope : Scope} {own : List (Str × Nat)} {f : As} {ix : List Nat} {j : Nat}
theorem lcm_go (g : Go X N W n) {a : Addr} {F1 : Hp} {A1 : List Addr} {H1 : Hp} {σ : L2.St} {D0 : Addr} {Qd : Hp → Prop} (hds : (l.map gd).length < sizeLine) (R1 : Rl N F1 A1 H1 σ δ μ1) (ha : A1[j]? = some a) (hm : μ1[j]? = some (.lst (l.map gd))) (hD : H1 D0 = none) (hix : ∀ i ∈ ix, i ∈ own.map (·.2))
    (hl : ∀ d ∈ l, ∃ δt, f (gd d) (wipeD δ (own.map (·.2))) = some δt ∧ DEB X N.K n scope elt δt μ1 (fy d) μ1)
    (hq : ∀ F' A' H' vs, Same F1 F' → A1 <+: A' → Rc N F' A' H' μ1 → H' D0 = some (.lst vs) → F' D0 = none → D0 ∉ A' → Reps N.K F' vs (l.map fy) → Qd H') :
    ∃ Wt : Nat → Nat → Hp → Prop, (∃ m, Wt 0 m (upd H1 D0 (.lst []))) ∧ ∀ i m H, Wt i m H →
      ((Itl N.K a).stop i H ∧ Qd H) ∨ ((Itl N.K a).go i H ∧ ∃ Nx : Hp → Prop, (∀ H', Nx H' → ∃ m', m' < m ∧ Wt (i + 1) m' H') ∧ ∀ x H', (Itl N.K a).yld i H x H' → tGd N f ix x (wipe σ (own.map (·.2))) H' fun σ2 H2 => wipe σ2 (own.map (·.2)) = wipe σ (own.map (·.2)) ∧ tYes σ2 H2 fun b H3 =>
        if b = true then teB X N.K n scope elt σ2 H3 fun y H4 => ∃ acc, H4 D0 = some (.lst acc) ∧ acc.length < sizeLine ∧ Nx (upd H4 D0 (.lst (acc ++ [y]))) else Nx H3) := by
  have h0 := R1.rc.fresh hD
  refine ⟨fun i m H => i ≤ l.length ∧ m = l.length - i ∧ ∃ F A vs, Same F1 F ∧ A1 <+: A ∧ Rc N F A H μ1 ∧ H D0 = some (.lst vs) ∧ F D0 = none ∧ D0 ∉ A ∧ Reps N.K F vs ((l.take i).map fy),
    ⟨l.length, Nat.zero_le _, by simp, F1, A1, [], Same.refl _, List.prefix_refl _, R1.rc.junk hD _, upd_same, h0.2.1, h0.2.2, by simp only [List.take_zero, List.map_nil]; exact .nil⟩, ?_⟩
  rintro i m H ⟨hi, rfl, F, A, vs, e, p, R, hv, hF, hA, hr⟩
  obtain ⟨ws, hw1, hw2⟩ := R.mus j a _ (getElem?_pre p ha) hm
  have hwl := hw2.length
  have wk := walk_list (K := N.K) (a := a) (xs := ws)
  rw [List.length_map] at hwl hds
  by_cases hlt : i < l.length
  · refine .inr ⟨wk.goes i H (by omega) (SqL.of hw1), fun H' => ∃ F A vs, Same F1 F ∧ A1 <+: A ∧ Rc N F A H' μ1 ∧ H' D0 = some (.lst vs) ∧ F D0 = none ∧ D0 ∉ A ∧ Reps N.K F vs ((l.take (i + 1)).map fy),
      fun H' ⟨F, A, vs, a⟩ => ⟨l.length - (i + 1), by omega, hlt, rfl, F, A, vs, a⟩, fun x H' hyd => ?_⟩
    obtain ⟨rfl, hx⟩ := wk.yields i H x H' (by omega) (SqL.of hw1) hyd
    obtain ⟨d0, hd0, rx⟩ := hw2.get' hx
    rw [List.getElem?_map] at hd0
    obtain ⟨d, hd, rfl⟩ := Option.map_eq_some_iff.mp hd0
    have Rf : Rl N F A H' σ δ μ1 := R1.to e p R
    obtain ⟨δt, hf, hde⟩ := hl d (List.mem_of_getElem? hd)
    refine ⟨F, A, _, μ1, gd d, _, Rf.wiped (own.map (·.2)), rx, hf, fun σ2 w2 R3 => ⟨(wipe_sub hix w2).trans (by
      apply List.ext_getElem?
      intro j
      rw [wipe_get, wipe_get]
      by_cases hj : j ∈ own.map (·.2)
      · rw [if_pos hj, if_pos hj]; cases σ[j]? <;> rfl
      · rw [if_neg hj, if_neg hj]), ?_⟩⟩
    have R3' : Rl ⟨N.K, H', F, A⟩ F A H' σ2 δt μ1 := ⟨R3.rc.entry, R3.len, R3.sl⟩
    unfold tYes
    simp only [if_true]
    refine ⟨⟨N.K, H', F, A⟩, F, A, δt, μ1, fy d, μ1, rfl, R3', hde, fun v F4 A4 H4 e4 p4 R4 rv => ?_⟩
    have b4 : Rc N F4 A4 H4 μ1 := R3.rc.back R4.rc
    have k4 : H4 D0 = some (.lst vs) := R4.rc.keep D0 _ hv hA
    have f4 : F4 D0 = none := by
      cases q : F4 D0 with
      | none => rfl
      | some o =>
        rcases R4.rc.new D0 o q with ⟨o', z⟩ | z | ⟨_, xs, z⟩
        · have z' : F D0 = some o' := z
          rw [hF] at z'; cases z'
        · have z' : H' D0 = none := z
          rw [hv] at z'; cases z'
        · have z' : H' D0 = some (.tup xs) := z
          rw [hv] at z'; cases z'
    have a4 : D0 ∉ A4 := fun hm => by
      obtain ⟨B, eB, hB⟩ := R4.rc.pre
      rw [eB] at hm
      rcases List.mem_append.mp hm with z | z
      · exact hA z
      · have z' : H' D0 = none := hB _ z
        rw [hv] at z'; cases z'
    have vl := hr.length
    rw [List.length_map, List.length_take] at vl
    refine ⟨vs, k4, by omega, F4, A4, vs ++ [v], e.trans e4, p.trans p4, b4.poke f4 a4 h0.1 _, upd_same, f4, a4, ?_⟩
    rw [List.take_succ, hd, Option.toList_some, List.map_append]
    exact (hr.mono e4).snoc rv
  · have hi' : i = l.length := by omega
    subst hi'
    refine .inl ⟨?_, ?_⟩
    · have := wk.stops H (SqL.of hw1)
      rw [hwl] at this
      exact this
    rw [List.take_length] at hr
    exact hq F A H vs e p R hv hF hA hr
theorem lcm_read (g : Go X N W n) (hds : (l.map gd).length < sizeLine) (hix : ∀ i ∈ ix, i ∈ own.map (·.2)) (hm : μ1[j]? = some (.lst (l.map gd))) (hl : ∀ d ∈ l, ∃ δt, f (gd d) (wipeD δ (own.map (·.2))) = some δt ∧ DEB X N.K n scope elt δt μ1 (fy d) μ1)
    {σ : L2.St} {H : Hp} {Q : VK} {F : Hp} {A : List Addr} (R : Rl N F A H σ δ μ)
    (hq : ∀ D0 F' A' H' vs, Same F F' → A <+: A' → Rc N F' A' H' μ1 → H' D0 = some (.lst vs) → F' D0 = none → D0 ∉ A' → N.H0 D0 = none → Reps N.K F' vs (l.map fy) → Q (.ref D0) H') :
    tLc (iList X.K (tD N W δ μ (.v (.l j)) μ1)) (tGd N f ix) tYes (teB X N.K n scope elt) (own.map (·.2)) σ H Q :=
  ⟨F, A, R, fun v F1 A1 H1 e1 p1 R1 rv => by
    obtain ⟨a, rfl, ha⟩ := rv
    obtain ⟨ws, hw1, hw2⟩ := R1.rc.mus j a _ ha hm
    have hK := g.hK
    refine ⟨a, rfl, ⟨ws, SqL.of hw1⟩, fun D0 hD => ?_⟩
    rw [← hK]
    exact lcm_go g hds R1 ha hm hD hix hl fun F' A' H' vs e p r a b c d => hq D0 F' A' H' vs (e1.trans e) (p1.trans p) r a b c (R1.rc.fresh hD).1 d⟩
theorem de_lcL (g : Go X N W n) (own : List (Str × Nat)) (hi : DE X N W δ μ iter (.v (.l j)) μ1) (hm : μ1[j]? = some (.lst (l.map gd))) (hg : ∀ s H C cl fp, DG (blkX X scope s H C cl fp) N tg f ix) (hl : ∀ d ∈ l, ∃ δt, f (gd d) (wipeD δ (own.map (·.2))) = some δt ∧ DEB X N.K n scope elt δt μ1 (fy d) μ1)
    (ok : BlkOk X.N X.env.scope scope own := by exact blkOk_by (by decide +kernel)) (hds : (l.map gd).length < sizeLine := by first | (show _ < sizeLine; decide) | (simp; decide)) (hix : ∀ i ∈ ix, i ∈ own.map (·.2) := by decide) (hs : ∀ x, foldedSetIterable iter X.env x = pure x := by intro _; rfl) :
    DE X N W δ μ (.ListComp elt [⟨tg, iter, [], 0⟩] scope pos) (.v (.p (.lst (l.map fy)))) μ1 :=
  PE.imp (pe_lc (own := own) g.calm g.nd (pi_list hi) ok hg (fun _ _ _ _ _ => pts_nil) (fun s H C cl fp => pe_teB g) hs) fun σ H Q ⟨F, A, R, k⟩ => lcm_read g hds hix hm hl R (lc_frz (W := W) R k)
end
end Dl
set_option Elab.async false
set_option linter.all false
set_option maxRecDepth 100000
set_option maxHeartbeats 4000000
set_option autoImplicit false
namespace Dl
open PySem PySem.Spec PyProof.Rows L2
/-! ## ends of which one comes -/
def tDy (N : En) (W : WX) (δ : List (Option S)) (μ : List M) (O : Os → Prop) : TS := fun K σ H => ∃ F A, Rl N F A H σ δ μ ∧ ∀ o, O o → EndS N W F A K o
def Dy (X : Cx) (N : En) (W : WX) (δ : List (Option S)) (μ : List M) (st : Stmt) (O : Os → Prop) : Prop := PS X st (tDy N W δ μ O)
def Dys (X : Cx) (N : En) (W : WX) (δ : List (Option S)) (μ : List M) (sts : List Stmt) (O : Os → Prop) : Prop := PSs X sts (tDy N W δ μ O)
def isNx : Os → Prop
  | .nx _ _ => True
  | _ => False
section
variable {X : Cx} {N : En} {W : WX} {n : Nat} {δ δ1 : List (Option S)} {μ μ1 μ2 μ3 : List M} {e a b o c iter tg : Expr} {es : List Expr} {pos p p2 tpos : Pos} {ds : List D} {elts : List Expr} {kk : Nat} {d : D} {st : Stmt} {sts rest : List Stmt} {O O1 : Os → Prop} {o1 : Os} {m : M} {s : S}
theorem dy_of (h : DS X N W δ μ st o1) (ho : O o1) : Dy X N W δ μ st O := PS.imp h fun K σ H ⟨F, A, R, k⟩ => ⟨F, A, R, k o1 ho⟩
theorem dys_of (h : DSs X N W δ μ sts o1) (ho : O o1) : Dys X N W δ μ sts O := PSs.imp h fun K σ H ⟨F, A, R, k⟩ => ⟨F, A, R, k o1 ho⟩
theorem dys_nil (h : O (.nx δ μ)) : Dys X N W δ μ [] O := dys_of dss_nil h
theorem dys_cons (h : Dy X N W δ μ st O1) (hn : ∀ δ1 μ1, O1 (.nx δ1 μ1) → Dys X N W δ1 μ1 rest O) (ho : ∀ o, O1 o → ¬ isNx o → O o) : Dys X N W δ μ (st :: rest) O := by
  have hb : PSs X rest (fun K σ H => ∃ δt μt, O1 (.nx δt μt) ∧ tDy N W δt μt O K σ H) := ⟨fun p s σ H K I ⟨δt, μt, h1, q⟩ => (hn δt μt h1).run p s σ H K I q⟩
  refine PSs.imp (pss_cons h hb) fun K σ H ⟨F, A, R, k⟩ => ⟨F, A, R, fun o h1 => ?_⟩
  cases o with
  | nx δ1 μ1 => exact fun σ1 F1 A1 H1 e1 p1 R1 => ⟨δ1, μ1, h1, F1, A1, R1, fun o2 h2 => (k o2 h2).to e1 p1⟩
  | rt s μ1 => exact k _ (ho _ h1 id)
  | xx C d δ1 μ1 => exact k _ (ho _ h1 id)
  | bk δ1 μ1 => exact k _ (ho _ h1 id)
  | ct δ1 μ1 => exact k _ (ho _ h1 id)
/-- a statement of one end ahead -/
theorem dys_one (h : DS X N W δ μ st (.nx δ1 μ1)) (h' : Dys X N W δ1 μ1 rest O) : Dys X N W δ μ (st :: rest) O :=
  dys_cons (O1 := fun o => o = .nx δ1 μ1) (dy_of h rfl) (fun δ2 μ2 e => by cases e; exact h') (fun o e hn => by subst e; exact (hn trivial).elim)
theorem dy_if {A B : List Stmt} {k : Bool} (h : DT X N W δ μ c k μ1) (ha : k = true → Dys X N W δ μ1 A O) (hb : k = false → Dys X N W δ μ1 B O) : Dy X N W δ μ (.If c A B pos) O := by
  cases k with
  | true => exact PS.imp (ps_if h (ha rfl) pss_no) fun K σ H ⟨F, A, R, q⟩ => ⟨F, A, R, fun F1 A1 H1 e1 p1 R1 => iteT ⟨F1, A1, R1, fun o ho => (q o ho).to e1 p1⟩⟩
  | false => exact PS.imp (ps_if h pss_no (hb rfl)) fun K σ H ⟨F, A, R, q⟩ => ⟨F, A, R, fun F1 A1 H1 e1 p1 R1 => iteF ⟨F1, A1, R1, fun o ho => (q o ho).to e1 p1⟩⟩
/-! ## for, by what stays true -/
def YG (N : En) (F1 : Hp) (A1 : List Addr) (J : It) (ds : List D) (I : Nat → List (Option S) → List M → Prop) : Prop :=
  ∀ i H' F' A' σ' δ' μ', Same F1 F' → A1 <+: A' → Rl N F' A' H' σ' δ' μ' → I i δ' μ' → (i < ds.length → J.go i H' ∧ ∀ x H2, J.yld i H' x H2 → ∃ d, ds[i]? = some d ∧ ItemAt N.K F' H' x H2 d) ∧ (i = ds.length → J.stop i H')
def DIy (X : Cx) (N : En) (W : WX) (δ : List (Option S)) (μ : List M) (tg iter : Expr) (ds : List D) (μ1 : List M) (I : Nat → List (Option S) → List M → Prop) : Prop :=
  PI X tg iter (fun σ H Rk => ∃ F A, Rl N F A H σ δ μ ∧ ∀ J F' A' H', Same F F' → A <+: A' → Rl N F' A' H' σ δ μ1 → YG N F' A' J ds I → Rk J H')
theorem dy_for {body : List Stmt} {f : As} {ix : List Nat} {I : Nat → List (Option S) → List M → Prop} (g : Go X N W n) (hi : DIy X N W δ μ tg iter ds μ1 I) (hg : DG X N tg f ix) (h0 : I 0 δ μ1)
    (hl : ∀ i d, ds[i]? = some d → ∀ δ' μ', I i δ' μ' → ∃ δt, f d δ' = some δt ∧ Dys X N W δt μ' body (fun o => ∃ δ2 μ2, o = .nx δ2 μ2 ∧ I (i + 1) δ2 μ2)) (hs : ∀ x, foldedSetIterable iter X.env x = pure x := by intro _; rfl) :
    Dy X N W δ μ (.For tg iter body [] pos) (fun o => ∃ δ' μ', o = .nx δ' μ' ∧ I ds.length δ' μ') := by
  have hb : PSs X body (fun K σ H => ∃ δt μt O, Dys X N W δt μt body O ∧ tDy N W δt μt O K σ H) := ⟨fun p s σ H K I ⟨δt, μt, O, hd, q⟩ => hd.run p s σ H K I q⟩
  refine PS.imp (ps_for g.po g.calm hi hg hb hs) fun K σ H ⟨F, A, R, k⟩ => ⟨F, A, R, fun J F1 A1 H1 e1 p1 R1 y => ?_⟩
  refine ⟨fun i m σ' H' => i ≤ ds.length ∧ m = ds.length - i ∧ ∃ F' A' δ' μ', Same F1 F' ∧ A1 <+: A' ∧ Rl N F' A' H' σ' δ' μ' ∧ I i δ' μ', ⟨ds.length, Nat.zero_le _, by simp, F1, A1, δ, μ1, Same.refl _, List.prefix_refl _, R1, h0⟩, ?_⟩
  rintro i m σ' H' ⟨hi, rfl, F', A', δ', μ', e', p', R', hI⟩
  obtain ⟨y1, y2⟩ := y i H' F' A' σ' δ' μ' e' p' R' hI
  by_cases hlt : i < ds.length
  · obtain ⟨y3, y4⟩ := y1 hlt
    refine .inr ⟨y3, fun σ2 H2 => ∃ F2 A2 δ2 μ2, Same F1 F2 ∧ A1 <+: A2 ∧ Rl N F2 A2 H2 σ2 δ2 μ2 ∧ I (i + 1) δ2 μ2, fun σ2 H2 ⟨F2, A2, δ2, μ2, a, b, c, d⟩ => ⟨ds.length - (i + 1), by omega, hlt, rfl, F2, A2, δ2, μ2, a, b, c, d⟩, fun x H2 hy => ?_⟩
    obtain ⟨d, hd, it⟩ := y4 x H2 hy
    obtain ⟨F2, e2, R2, rx⟩ := R'.item it
    obtain ⟨δt, hf, hbd⟩ := hl i d hd δ' μ' hI
    exact ⟨F2, A', δ', μ', d, _, R2, rx, hf, fun σ3 _ R3 => ⟨_, _, _, hbd, F2, A', R3, fun o ⟨δ4, μ4, eo, hI4⟩ => by
      subst eo
      exact fun σ4 F4 A4 H4 e4 p4 R4 => ⟨F4, A4, δ4, μ4, (e'.trans e2).trans e4, p'.trans p4, R4, hI4⟩⟩⟩
  · have e : i = ds.length := by omega
    subst e
    exact .inl ⟨y2 rfl, ((k _ ⟨δ', μ', rfl, hI⟩).to (e1.trans e') (p1.trans p')) σ' F' A' H' (Same.refl _) (List.prefix_refl _) R'⟩
theorem yg_of {F : Hp} {A : List Addr} {J : It} {I : Nat → List (Option S) → List M → Prop} (y : Yl N.K J F ds) : YG N F A J ds I := fun i H' F' A' σ' δ' μ' e p R hI => by
  have y' := y.mono e
  exact ⟨fun hlt => ⟨y'.goes i H' hlt R.rc.sub, fun x H2 hy => y'.yields i H' x H2 hlt R.rc.sub hy⟩, fun e => by subst e; exact y'.stops H' R.rc.sub⟩
theorem diy_of {I : Nat → List (Option S) → List M → Prop} (h : DI X N W δ μ tg iter ds μ1) : DIy X N W δ μ tg iter ds μ1 I :=
  PI.imp h fun σ H Rk ⟨F, A, R, k⟩ => ⟨F, A, R, fun J F1 A1 H1 e1 p1 R1 y => k J F1 A1 H1 e1 p1 R1 (yg_of y)⟩
/-- enumerate of a list that changes, as long as it stays -/
theorem diy_enumM {I : Nat → List (Option S) → List M → Prop} {j : Nat} (g : Go X N W n) (ha : DA X N W δ μ [e] [.l j] μ1) (hm1 : μ1[j]? = some (.lst ds)) (hI : ∀ i δ' μ', I i δ' μ' → μ'[j]? = some (.lst ds)) (hm : X.mg "enumerate" = none) (hg : Gl X "enumerate" := by rfl) (hs : starEach [e] X.env = [(false, eval e X.env)] := by rfl) :
    DIy X N W δ μ (.Tuple elts kk tpos) (.Call (.Name "enumerate" p) [e] [] pos) (enumD 0 ds) μ1 I :=
  PI.imp (pi_enum hg hm ha hs) fun σ H Rk ⟨F, A, R, k⟩ => ⟨F, A, R, fun vs F1 A1 H1 e1 p1 R1 rv => by
    cases rv with
    | cons r1 r2 =>
      cases r2
      have hK := g.hK
      rw [← hK]
      obtain ⟨a, rfl, ha⟩ := r1
      obtain ⟨ws, h1, h2⟩ := R1.rc.mus j a _ ha hm1
      refine ⟨a, ws, rfl, SqL.of h1, k _ F1 A1 H1 e1 p1 R1 fun i H' F' A' σ' δ' μ' e' p' R' hi => ?_⟩
      obtain ⟨vs, h3, h4⟩ := R'.rc.mus j a _ (getElem?_pre p' ha) (hI _ _ _ hi)
      have wk := walk_enum (K := N.K) (a := a) (xs := vs)
      have hl := h4.length
      rw [enumD_len]
      refine ⟨fun hlt => ⟨wk.goes i H' (by omega) (SqL.of h3), fun x H2 hy => ?_⟩, fun e => ?_⟩
      · obtain ⟨T, u, v, q1, q2, q3, q4, q5⟩ := wk.yields i H' x H2 (by omega) (SqL.of h3) hy
        obtain ⟨d, h6, h7⟩ := h4.get' q5
        have q4' : V.int (i : Nat) = u := by simpa using q4
        subst q4'
        refine ⟨_, enumD_at h6, .inr (.inl ⟨T, _, _, q1, q2, q3, rfl, .cons ?_ (.cons h7 .nil)⟩)⟩
        rw [Nat.zero_add]
        exact .int _
      · have := wk.stops H' (SqL.of h3)
        rw [hl, ← e] at this
        exact this⟩
/-! ## what stands at a known place -/
theorem Rc.pinned {F : Hp} {A : List Addr} {H : Hp} {k : Nat} {b : Addr} (R : Rc N F A H μ) (h : μ[k]? = some (.pin b m)) : A[k]? = some b := by
  obtain ⟨a, h1, h2, _⟩ := R.at' h
  rw [h1, h2]
theorem Rl.unpin {F : Hp} {A : List Addr} {H : Hp} {σ : L2.St} {k : Nat} {b : Addr} (R : Rl N F A H σ δ μ) (h : μ[k]? = some (.pin b m)) : Rl N F A H σ δ (μ.set k m) := by
  have r := R.rc
  refine ⟨⟨r.sub, r.base, r.new, r.keep, r.pre, r.nd, by rw [List.length_set]; exact r.len, fun j a m' h1 h2 => ?_, fun j a m' h1 h2 h3 => ?_⟩, R.len, R.sl⟩
  · by_cases hj : k = j
    · subst hj
      rw [List.getElem?_set_self (List.getElem?_eq_some_iff.mp h).1] at h2
      cases h2
      exact (r.mus _ _ _ h1 h).2
    · rw [List.getElem?_set_ne hj] at h2
      exact r.mus _ _ _ h1 h2
  · by_cases hj : k = j
    · subst hj
      exact r.fr _ _ _ h1 h trivial
    · rw [List.getElem?_set_ne hj] at h2
      exact r.fr _ _ _ h1 h2 h3
theorem Rl.pin {F : Hp} {A : List Addr} {H : Hp} {σ : L2.St} {k : Nat} {b : Addr} (R : Rl N F A H σ δ μ) (h : μ[k]? = some m) (ha : A[k]? = some b) (ng : notGone m) : Rl N F A H σ δ (μ.set k (.pin b m)) := by
  have r := R.rc
  refine ⟨⟨r.sub, r.base, r.new, r.keep, r.pre, r.nd, by rw [List.length_set]; exact r.len, fun j a m' h1 h2 => ?_, fun j a m' h1 h2 h3 => ?_⟩, R.len, R.sl⟩
  · by_cases hj : k = j
    · subst hj
      rw [List.getElem?_set_self (List.getElem?_eq_some_iff.mp h).1] at h2
      cases h2
      rw [ha] at h1
      cases h1
      exact ⟨rfl, r.mus _ _ _ ha h⟩
    · rw [List.getElem?_set_ne hj] at h2
      exact r.mus _ _ _ h1 h2
  · by_cases hj : k = j
    · subst hj
      exact r.fr _ _ _ h1 h ng
    · rw [List.getElem?_set_ne hj] at h2
      exact r.fr _ _ _ h1 h2 h3
/-- an address that is known to change -/
theorem de_adr {k : Nat} {b : Addr} (h : DE X N W δ μ e (.v (.p (.adr b))) μ1) (hm : μ1[k]? = some (.pin b m)) : DE X N W δ μ e (.v (.l k)) μ1 :=
  PE.imp h fun σ H Q ⟨F, A, R, q⟩ => ⟨F, A, R, fun v F1 A1 H1 e1 p1 R1 rv => q v F1 A1 H1 e1 p1 R1 ⟨b, rep_adr rv, R1.rc.pinned hm⟩⟩
/-- a slot that holds it -/
theorem dys_slot {i k : Nat} {b : Addr} (hi : δ[i]? = some (some (.p (.adr b)))) (hm : μ[k]? = some (.pin b m)) (h : Dys X N W (δ.set i (some (.l k))) μ sts O) : Dys X N W δ μ sts O :=
  PSs.imp h fun K σ H ⟨F, A, R, q⟩ => ⟨F, A, ⟨R.rc, by rw [List.length_set]; exact R.len, fun j s hj => by
    by_cases hij : i = j
    · subst hij
      rw [List.getElem?_set_self (List.getElem?_eq_some_iff.mp hi).1] at hj
      cases hj
      obtain ⟨v, h1, h2⟩ := R.sl _ _ hi
      exact ⟨v, h1, b, rep_adr h2, R.rc.pinned hm⟩
    · rw [List.getElem?_set_ne hij] at hj
      exact R.sl _ _ hj⟩, q⟩
theorem dt_unp {k : Nat} {b : Addr} {t : Bool} {m1 : M} (hm : μ[k]? = some (.pin b m)) (h : DT X N W δ (μ.set k m) e t μ1) (h1 : μ1[k]? = some m1) (ng : notGone m1) (h2 : μ2 = μ1.set k (.pin b m1)) : DT X N W δ μ e t μ2 := by
  subst h2
  exact PT.imp h fun σ H Q ⟨F, A, R, q⟩ => ⟨F, A, R.unpin hm, fun F1 A1 H1 e1 p1 R1 => q F1 A1 H1 e1 p1 (R1.pin h1 (getElem?_pre p1 (R.rc.pinned hm)) ng)⟩
theorem m_appendP {j : Nat} {ds : List D} {b : Addr} (hj : μ[j]? = some (.pin b (.lst ds))) (hj0 : μ1[j]? = some (.pin b (.lst ds))) (hl : ds.length < sizeLine) : MtOk X N W "list" "list.append" μ μ1 (.l j) [.p d] (.v (.p .non)) (μ1.set j (.pin b (.lst (ds ++ [d])))) :=
  ⟨_, mt_append, fun σ δ F A H x R rx => by
    obtain ⟨a, rfl, ha⟩ := rx
    obtain ⟨_, ws, h1, h2⟩ := R.rc.mus j a _ ha hj
    exact .inl ⟨rfl, ws, SqL.of h1⟩, fun σ δ F A H x vs Q R rx rv k => by
    obtain ⟨v, rfl, h⟩ := one_of rv
    obtain ⟨a, rfl, ha⟩ := rx
    obtain ⟨hb, ws, h1, h2⟩ := R.rc.mus j a _ ha hj0
    refine ⟨a, ws, v, rfl, rfl, h1, by rw [h2.length]; exact hl, ?_⟩
    exact k .non F A _ (Same.refl _) (List.prefix_refl _) (R.to (Same.refl _) (List.prefix_refl _) (R.rc.write ha hj0 trivial ⟨hb, _, upd_same, h2.snoc h⟩)) .non⟩
/-- tuple(xs), xs a list that changes -/
theorem c_tupM {j : Nat} {ds : List D} (hm : μ[j]? = some (.lst ds)) : CallOk X N W (.type "tuple") μ [.l j] (.v (.p (.tup ds))) μ :=
  ⟨_, call_tuple_of, fun σ δ F A H vs Q R rv k => by
    obtain ⟨v, rfl, h⟩ := one_of rv
    obtain ⟨a, rfl, ha⟩ := h
    obtain ⟨ws, h1, h2⟩ := R.rc.mus j a _ ha hm
    refine ⟨a, ws, rfl, .inl ⟨SqL.of h1, fun p np => ?_⟩⟩
    have sm := same_updN (o := .tup ws) (R.rc.fresh np).2.1
    exact k (.ref p) _ A _ sm (List.prefix_refl _) (R.to sm (List.prefix_refl _) (R.rc.frozen np _)) (.tup (.inl (.inl upd_same)) (h2.mono sm))⟩
theorem c_tupP {j : Nat} {ds : List D} {b : Addr} (hm : μ[j]? = some (.pin b (.lst ds))) : CallOk X N W (.type "tuple") μ [.l j] (.v (.p (.tup ds))) μ :=
  ⟨_, call_tuple_of, fun σ δ F A H vs Q R rv k => by
    obtain ⟨v, rfl, h⟩ := one_of rv
    obtain ⟨a, rfl, ha⟩ := h
    obtain ⟨_, ws, h1, h2⟩ := R.rc.mus j a _ ha hm
    refine ⟨a, ws, rfl, .inl ⟨SqL.of h1, fun p np => ?_⟩⟩
    have sm := same_updN (o := .tup ws) (R.rc.fresh np).2.1
    exact k (.ref p) _ A _ sm (List.prefix_refl _) (R.to sm (List.prefix_refl _) (R.rc.frozen np _)) (.tup (.inl (.inl upd_same)) (h2.mono sm))⟩
/-- xs.append([]): a new list in one that changes -/
theorem dy_appNew {j : Nat} {apos lpos cpos : Pos} (ho : DE X N W δ μ o (.v (.l j)) μ1) (hj : μ1[j]? = some (.lst ds)) (hl : ds.length < sizeLine)
    (hbase : attributeBase o "append" X.env (eval o X.env) = eval o X.env := by rfl)
    (hfew : ((backTo cpos (starEach [.List [] lpos] X.env)).all (fun x => !x.1) && (backToKw cpos (keywordEach [] X.env)).all (fun x => x.1.isSome)
      && decide ([Expr.List [] lpos].length + ([] : List Keyword).length + (if ([] : List Keyword).isEmpty then 0 else 1) < 30)) = true := by rfl)
    (hline : (apos.endLine == cpos.line) = true := by rfl) (hs : starEach [.List [] lpos] X.env = (false, eval (.List [] lpos) X.env) :: starEach [] X.env := by rfl) (hplain : (backTo cpos (starEach [] X.env)).any (·.1) = false := by rfl)
    (hsw : swapsWith (.Call (.Attribute o "append" apos) [.List [] lpos] [] cpos) none pos.line X.env = pure false := by rfl) :
    Dy X N W δ μ (.Expr (.Call (.Attribute o "append" apos) [.List [] lpos] [] cpos) pos) (fun o => ∃ b, o = .nx δ (μ1.set j (.lst (ds ++ [.adr b])) ++ [.pin b (.lst [])])) := by
  have ha : DA X N W δ μ1 [.List [] lpos] [.l μ1.length] (μ1 ++ [.lst []]) := da_cons (de_lstM dp_nil) da_nil
  have hjl := (List.getElem?_eq_some_iff.mp hj).1
  refine PS.imp (ps_expr (pe_bm PySem.F.plainAttrs_list PySem.F.slot_list_append PySem.F.type_list_append mt_append ho ha hbase hfew hline hs hplain) hsw) fun K σ H ⟨F, A, R, k⟩ => ⟨F, A, R, fun x F1 A1 H1 e1 p1 R1 rx => ?_⟩
  obtain ⟨a, rfl, ha⟩ := rx
  refine ⟨?_, F1, A1, R1, fun vs F2 A2 H2 e2 p2 R2 rv => ?_⟩
  · obtain ⟨ws, h1, h2⟩ := R1.rc.mus j a _ ha hj
    exact .inl ⟨rfl, ws, SqL.of h1⟩
  · obtain ⟨v, rfl, h⟩ := one_of rv
    obtain ⟨b, rfl, hb⟩ := h
    have hj2 : (μ1 ++ [M.lst []])[j]? = some (.lst ds) := by rw [List.getElem?_append_left hjl]; exact hj
    have ha2 := getElem?_pre p2 ha
    obtain ⟨ws, h1, h2⟩ := R2.rc.mus j a _ ha2 hj2
    refine ⟨a, ws, _, rfl, rfl, h1, by rw [h2.length]; exact hl, ?_⟩
    have R3 := R2.to (Same.refl _) (List.prefix_refl _) (R2.rc.write ha2 hj2 trivial (m' := .lst (ds ++ [.adr b])) (o := .lst (ws ++ [.ref b])) ⟨_, upd_same, h2.snoc (.adr b)⟩)
    rw [List.set_append_left _ _ hjl] at R3
    have hn : (μ1.set j (M.lst (ds ++ [D.adr b])) ++ [M.lst []])[μ1.length]? = some (.lst []) := by
      rw [List.getElem?_append_right (by simp), List.length_set, Nat.sub_self]; rfl
    have R4 := R3.pin hn hb trivial
    rw [List.set_append_right _ _ (by simp), List.length_set, Nat.sub_self] at R4
    exact k _ ⟨b, rfl⟩ _ F2 A2 _ (e1.trans e2) (p1.trans p2) R4
end
/-! ## a def by its body, with ends of which one comes -/
theorem fn_Dy {P : Program} {w : World} {K : PySem.W.Frag} {mg : Str → Option Value} {base : Heap} {x qual : Str} {st : Stmt} {f : Addr} {fd : FuncData} {Nn ps : List Str} {k : Nat} {R : Rel} (F : Fun K x qual st f fd) (Sc : FnScope Nn ps (defScope st)) (hlen : ∀ ss μ r μ', R ss μ r μ' → ss.length = ps.length)
    (body : ∀ (cdv : Value) (A : Around) (outer : List Env) (s : Shared) (H : Hp) (E : XK) (N : En) (W : WX) (ss : List S) (μ : List M) (r : Rx) (μ' : List M), Go (cxOf (L2.CX P w) P w K mg base Nn qual (defScope st) f cdv A outer s H E) N W k → N.A0.length = μ.length → R ss μ r μ' →
      Dys (cxOf (L2.CX P w) P w K mg base Nn qual (defScope st) f cdv A outer s H E) N W (starts Nn ss) μ (defBody st) (fun o => Fit μ.length o r μ')) :
    FnOk P w K mg base (L2.CX P w) (k + 1) f fd ps (spD K R) := by
  refine F.okX Sc (fun vs H Q E h => ?_) (fun cdv A outer s H vs Q E hr h => ?_)
  · obtain ⟨F0, A0, ss, μ, r, μ', hR, _, rv, _⟩ := h
    rw [rv.length]
    exact hlen _ _ _ _ hR
  · obtain ⟨F0, A0, ss, μ, r, μ', hR, rc, rv, hq⟩ := h
    have g : Go (cxOf (L2.CX P w) P w K mg base Nn qual (defScope st) f cdv A outer s H E) ⟨K, H, F0, A0⟩ (fun cls d _ H => E cls d H) k :=
      ⟨takes_of rfl rfl rfl rfl, rfl, rfl, hr, passes_of rfl, Sc.nd⟩
    have h0 : A0.length = μ.length := rc.len
    have hd := body cdv A outer s H E ⟨K, H, F0, A0⟩ _ ss μ r μ' g h0 hR
    refine ⟨_, hd, F0, A0, ⟨rc, (start_slots (N := ⟨K, H, F0, A0⟩) Nn rv).1, (start_slots (N := ⟨K, H, F0, A0⟩) Nn rv).2⟩, fun o fit => ?_⟩
    · cases fit with
      | rt => exact fun v F' A' H' e p rc' rv' => hq v F' A' H' rc' rv'
      | rtT hn => exact fun v F' A' H' e p rc' rv' => hq v F' _ H' (rc'.trim (by show A0.length ≤ _; omega)) rv'
      | nx => exact fun σ' F' A' H' e p R' => hq .non F' A' H' R'.rc .non
      | nxT hn => exact fun σ' F' A' H' e p R' => hq .non F' _ H' (R'.rc.trim (by show A0.length ≤ _; omega)) .non
      | xx => exact fun σ' dx v F' A' H' e p R' h1 h2 => hq dx v F' A' H' R'.rc h1 h2
      | xxT hn => exact fun σ' dx v F' A' H' e p R' h1 h2 => hq dx v F' _ H' (R'.rc.trim (by show A0.length ≤ _; omega)) h1 h2
end Dl
set_option Elab.async false
set_option linter.all false
set_option maxRecDepth 100000
set_option maxHeartbeats 4000000
set_option autoImplicit false
namespace K58
open PySem PySem.Spec PyProof.Rows L2 Dl Cq
/-! ### words led back through fixed lines, as the program does -/
theorem scPassBy : FnScope ["one", "other"] ["one", "other"] (defScope sPassBy) := ⟨rfl, rfl, rfl, by decide +kernel, rfl, by decide +kernel, by decide +kernel⟩
theorem scBentF : FnScope ["one", "other", "sign"] ["one", "other"] (defScope sBentF) := ⟨rfl, rfl, rfl, by decide +kernel, rfl, by decide +kernel, by decide +kernel⟩
theorem scLedThr : FnScope ["steps", "letters", "sign", "step", "made", "other"] ["steps", "letters", "sign"] (defScope sLedThr) := ⟨rfl, rfl, rfl, by decide +kernel, rfl, by decide +kernel, by decide +kernel⟩
theorem scThrOne : FnScope ["step", "letters", "name", "pair"] ["step", "letters"] (defScope sThrOne) := ⟨rfl, rfl, rfl, by decide +kernel, rfl, by decide +kernel, by decide +kernel⟩
theorem scThrAbout : FnScope ["step", "letters", "name", "about", "turned", "made", "sign"] ["step", "letters"] (defScope sThrAbout) := ⟨rfl, rfl, rfl, by decide +kernel, rfl, by decide +kernel, by decide +kernel⟩
theorem scExch : FnScope ["letters", "places", "text", "row", "place", "letter"] ["letters", "places", "text"] (defScope sExch) := ⟨rfl, rfl, rfl, by decide +kernel, rfl, by decide +kernel, by decide +kernel⟩
section
variable {X : Cx} {N : En} {W : WX} {f : As} {body : List Stmt}
theorem loop_fo {T α : Type} {mu : T → List M} {nx : α → T → T} {gd : α → D} (I : Nat → T → Prop) (Δ : T → List (Option S) → Prop) :
    ∀ (l : List α) (δ : List (Option S)) (t : T), (∀ a ∈ l, ∀ k t δ, Δ t δ → I (k + 1) t → I k (nx a t) ∧ ∃ δt δ1, f (gd a) δ = some δt ∧ DSs X N W δt (mu t) body (.nx δ1 (mu (nx a t))) ∧ Δ (nx a t) δ1) → Δ t δ → I l.length t →
      ∃ δ', Loop X N W f body (l.map gd) δ (mu t) (.nx δ' (mu (l.foldl (fun t a => nx a t) t))) ∧ Δ (l.foldl (fun t a => nx a t) t) δ' ∧ I 0 (l.foldl (fun t a => nx a t) t)
  | [], δ, t, _, h0, hi => ⟨δ, .nil, h0, hi⟩
  | a :: l, δ, t, h, h0, hi => by
    obtain ⟨h1, δt, δ1, h2, h3, h4⟩ := h a List.mem_cons_self l.length t δ h0 hi
    obtain ⟨δ', h5, h6, h7⟩ := loop_fo I Δ l δ1 (nx a t) (fun b hb => h b (List.mem_cons_of_mem _ hb)) h4 h1
    exact ⟨δ', .next h2 h3 h5, h6, h7⟩
theorem ds_to {δ δ' : List (Option S)} {μ μ1 μ2 : List M} {stm : Stmt} (h : DS X N W δ μ stm (.nx δ' μ1)) (q : μ1 = μ2) : DS X N W δ μ stm (.nx δ' μ2) := q ▸ h
end
abbrev chS (c : Nat) : D := .str ⟨#[c]⟩
def resD (x : List Nat × Int) : D := .tup [.str (st x.1), .int x.2]
structure TD (w : World) (K : PySem.W.Frag) (mg : Str → Option Value) (ha za xa : Addr) : Prop where
  mh : mg "H" = some (.ref ha)
  mz : mg "CZ" = some (.ref za)
  mx : mg "CX" = some (.ref xa)
  kh : ∃ es m, KDict K w ha es m
  kz : ∃ es m, KDict K w za es m
  kx : ∃ es m, KDict K w xa es m
  dh : ∀ a ∈ IXYZ, ∃ u, PySem.W.nsIn K ha (st [a]) = some (some u) ∧ RelV (.str (sgn (hL a) (hS a))) u
  dz : ∀ a ∈ IXYZ, ∀ b ∈ IXYZ, ∃ u, PySem.W.nsIn K za (st [a, b]) = some (some u) ∧ RelV (.str (sgn (pT czT a b).1 (pT czT a b).2)) u
  dx : ∀ a ∈ IXYZ, ∀ b ∈ IXYZ, ∃ u, PySem.W.nsIn K xa (st [a, b]) = some (some u) ∧ RelV (.str (sgn (pT cxT a b).1 (pT cxT a b).2)) u
def rPassBy : Rel := fun ss μ r μ' => ∃ (A B : List Nat), okL A ∧ okL B ∧ A.length = B.length ∧ ss = [.p (.str (st A)), .p (.str (st B))] ∧ r = .v (.p (.bl (decide (qs A B % 2 = 0)))) ∧ μ' = μ
def rBentF : Rel := fun ss μ r μ' => ∃ (A B : List Nat), okL A ∧ okL B ∧ A.length = B.length ∧ ss = [.p (.str (st A)), .p (.str (st B))] ∧ r = .v (.p (resD (mk A B, sg (qs A B + 1)))) ∧ μ' = μ
def rExch : Rel := fun ss μ r μ' => ∃ (L ps u : List Nat) (s : Int), okL L ∧ okL u ∧ pm s ∧ ps.length ≤ 2 ∧ (∀ p ∈ ps, p < L.length) ∧ ss = [.p (.str (st L)), .p (.tup (ps.map inD)), .p (.str (sgn u s))] ∧ r = .v (.p (resD (exL L ps u, s))) ∧ μ' = μ
def rThrAbout : Rel := fun ss μ r μ' => ∃ (n : Nat) (q : Bool) (s : Int) (A L : List Nat), okWd n s A ∧ okL L ∧ L.length = n ∧ ss = [.p (stpD (.ab q s A)), .p (.str (st L))] ∧ r = .v (.p (resD (abF q s A L))) ∧ μ' = μ
def rThrOne : Rel := fun ss μ r μ' => ∃ (n : Nat) (l : Ln) (L : List Nat), okLn n l ∧ isT l = false ∧ okL L ∧ L.length = n ∧ ss = [.p (stpD l), .p (.str (st L))] ∧ r = .v (.p (resD (thr1 l L))) ∧ μ' = μ
def rLedThr : Rel := fun ss μ r μ' => ∃ (n : Nat) (ls : List Ln) (x : Wp), (∀ l ∈ ls, okLn n l ∧ isT l = false) ∧ ls.length ≤ 100 ∧ okX n x ∧ ss = [.p (.lst (ls.map stpD)), .p (.str (st x.2)), .p (.int x.1)] ∧ r = .v (.p (resD ((thrF ls x).2, (thrF ls x).1))) ∧ μ' = μ
section
variable {P : Program} {w : World} {K : PySem.W.Frag} {mg : Str → Option Value} {base : Heap} {qa ta ha za xa f C : Addr} {fd : FuncData}
theorem ok_passby (F : Fun K "pass_by" "pass_by" sPassBy f fd) (cq : Cf P w K mg base 1 "quarters" [] rQuarters) : FnOk P w K mg base (L2.CX P w) 2 f fd ["one", "other"] (spD K rPassBy) := by
  refine fn_D (k := 1) F scPassBy (fun ss μ r μ' h => by obtain ⟨_, _, _, _, _, rfl, _⟩ := h; rfl) ?_
  intro cdv A0 outer s0 H E N W ss μ r μ' g hA hR
  obtain ⟨A, B, hLA, hLB, hl, rfl, rfl, rfl⟩ := hR
  exact ⟨_, dss_ret (de_cmp (de_bin (de_call g cq (da_cons (de_var 0) (da_cons (de_var 1) da_nil)) ⟨A, B, hLA, hLB, hl, rfl, rfl, rfl⟩) de_int (o_mod (by decide))) de_int o_eqI), .rt⟩
theorem ok_bentf (F : Fun K "bent" "bent" sBentF f fd) (cq : Cf P w K mg base 1 "quarters" [] rQuarters) (cm : Cf P w K mg base 2 "made_letters" [] rMade) : FnOk P w K mg base (L2.CX P w) 3 f fd ["one", "other"] (spD K rBentF) := by
  refine fn_D (k := 2) F scBentF (fun ss μ r μ' h => by obtain ⟨_, _, _, _, _, rfl, _⟩ := h; rfl) ?_
  intro cdv A0 outer s0 H E N W ss μ r μ' g hA hR
  obtain ⟨A, B, hLA, hLB, hl, rfl, rfl, rfl⟩ := hR
  refine ⟨_, dss_cons (ds_set 2 (de_if (r := .v (.p (.int (sg (qs A B + 1))))) (k := decide ((qs A B + 1) % 4 = 0)) (dt_cmp (de_bin (de_bin (de_call g cq (da_cons (de_var 0) (da_cons (de_var 1) da_nil)) ⟨A, B, hLA, hLB, hl, rfl, rfl, rfl⟩) de_int o_add) de_int (o_mod (by decide))) de_int o_eqI) (fun h => de_of de_int (congrArg D.int ?_)) (fun h => de_of (de_un de_int u_neg) (congrArg D.int ?_))) g.nd) (cn
    (dss_ret (de_tup (dp_cons (de_call g cm (da_cons (de_var 0) (da_cons (de_var 1) da_nil)) ⟨A, B, hLA, hLB, hl, rfl, rfl, rfl⟩) (dp_cons (de_var 2) dp_nil))))), .rt⟩
  · unfold sg; rw [if_pos (of_decide_eq_true h)]
  · unfold sg; rw [if_neg (of_decide_eq_false h)]
theorem zip_tup (ps u : List Nat) : (ps.map inD).zipWith (fun a b => D.tup [a, b]) (chars (st u)) = (ps.zip u).map fun p => .tup [inD p.1, chS p.2] := by
  rw [chars_st, List.zipWith_map, List.zip, List.map_zipWith]
theorem sgn_len {u : List Nat} (h : okL u) (s : Int) : (sgn u s).length ≤ sizeLine := by
  have h4 := h.four
  unfold sgn
  rw [st_len]
  split
  · exact size4 (by rw [List.length_cons]; omega)
  · exact size4 (by omega)
theorem ok_exch (F : Fun K "_exchanged" "_exchanged" sExch f fd) (T : TM mg) : FnOk P w K mg base (L2.CX P w) 1 f fd ["letters", "places", "text"] (spD K rExch) := by
  refine fn_D (k := 0) F scExch (fun ss μ r μ' h => by obtain ⟨_, _, _, _, _, _, _, _, _, rfl, _⟩ := h; rfl) ?_
  intro cdv A0 outer s0 H E N W ss μ r μ' g hA hR
  obtain ⟨L, ps, u, s, hL, hu, hs, hp2, hps, rfl, rfl, rfl⟩ := hR
  have h4 := hL.four
  obtain ⟨δ', hlo, ⟨x4, x5, rfl⟩, hI⟩ := loop_fo (X := cxOf (L2.CX P w) P w K mg base ["letters", "places", "text", "row", "place", "letter"] "_exchanged" (defScope sExch) f cdv A0 outer s0 H E) (N := N) (W := W) (f := asTup [asName 4, asName 5]) (body := bodyOf sExch 1) (T := List Nat) (mu := fun t => μ' ++ [.lst (t.map chS)]) (nx := fun p t => t.set p.1 p.2) (gd := fun p : Nat × Nat => D.tup [inD p.1, chS p.2])
    (fun _ t => t.length = L.length) (fun t δ => ∃ x4 x5, δ = [some (.p (.str (st L))), some (.p (.tup (ps.map inD))), some (.p (.str (sgn u s))), some (.l μ'.length), x4, x5]) (ps.zip u) [some (.p (.str (st L))), some (.p (.tup (ps.map inD))), some (.p (.str (sgn u s))), some (.l μ'.length), none, none] L
    (fun p hp k t δ hδ hI => by
      obtain ⟨x4, x5, rfl⟩ := hδ
      have hlt : p.1 < t.length := by rw [hI]; exact hps _ (List.of_mem_zip (show (p.1, p.2) ∈ ps.zip u from hp)).1
      refine ⟨by rw [List.length_set]; exact hI, _, _, rfl, dss_cons (ds_to (ds_setM (k := p.1) (de_var 5) (de_var 3) (de_var 4) (end_at rfl) ?_) (by rw [end_set rfl, ← List.map_set])) (cn dss_nil), _, _, rfl⟩
      unfold ixN
      rw [List.length_map]
      simp
      omega) ⟨_, _, rfl⟩ rfl
  have e2 : (μ' ++ [M.lst ((exL L ps u).map chS)]).set μ'.length .gone = μ' ++ [.gone] := end_set rfl
  have hle : (exL L ps u).length = L.length := exL_len _ _
  refine ⟨_, dss_cons (ds_set 3 (de_callT (T := "list") (da_cons (de_var 0) da_nil) (c_listS g (by omega)) T.list (by decide +kernel)) g.nd) (cn (dss_cons (ds_for g (di_of (di_zip g (da_cons (de_var 1) (da_cons (de_of (d' := .str (st u)) (de_bm PySem.F.plainAttrs_str PySem.F.slot_str_removeprefix PySem.F.type_str_removeprefix (de_var 2) (da_cons de_str da_nil) (m_removeprefix (sgn_len hu s))) (congrArg D.str (sgn_prefix hu))) da_nil)) (.tup _) (.str _) T.zip) (zip_tup ps u)) (dg_tup (dgs_cons (dg_name 4 g.nd) (dgs_cons (dg_name 5 g.nd) dgs_nil)) g.hK g.calm) hlo) (cn
    (dss_freeze (j := μ'.length) (ds := (exL L ps u).map chS) (end_at rfl) (by omega) 3 rfl (Eq.mp (congrArg (fun ν => DSs _ N W _ ν _ _) e2.symm) (dss_ret (de_tup (dp_cons (de_of (d' := .str (st (exL L ps u))) (de_bm PySem.F.plainAttrs_str PySem.F.slot_str_join PySem.F.type_str_join de_str (da_cons (de_var 3) da_nil) (m_joinm (l := exL L ps u) (q := fun c => c) (by rw [hle]; omega))) (by rw [List.map_id'] <;> rfl))
      (dp_cons (de_if (r := .v (.p (.int s))) (k := decide (s < 0)) (dt_of (dt_val (de_bm PySem.F.plainAttrs_str PySem.F.slot_str_startswith PySem.F.type_str_startswith (de_var 2) (da_cons de_str da_nil) m_startswith)) (sgn_starts hu)) (fun h => de_of (de_un de_int u_neg) (congrArg D.int ?_)) (fun h => de_of de_int (congrArg D.int ?_))) dp_nil))))))))), ?_⟩
  · rcases hs with rfl | rfl
    · simp at h
    · rfl
  · rcases hs with rfl | rfl
    · rfl
    · simp at h
  · have e : (μ' ++ [M.gone]).take μ'.length = μ' := List.take_left ..
    conv => rhs; rw [← e, ← e2]
    exact .rtT (Nat.le_refl _)
theorem ok_thrabout (F : Fun K "_through_about" "_through_about" sThrAbout f fd) (cp : Cf P w K mg base 2 "pass_by" [] rPassBy) (cb : Cf P w K mg base 3 "bent" [] rBentF) : FnOk P w K mg base (L2.CX P w) 4 f fd ["step", "letters"] (spD K rThrAbout) := by
  refine fn_D (k := 3) F scThrAbout (fun ss μ r μ' h => by obtain ⟨_, _, _, _, _, _, _, _, rfl, _⟩ := h; rfl) ?_
  intro cdv A0 outer s0 H E N W ss μ r μ' g hA hR
  obtain ⟨n, q, s, A, L, hA0, hL, hl, rfl, rfl, rfl⟩ := hR
  have hln : A.length = L.length := hA0.len.trans hl.symm
  have d0 : DS (cxOf (L2.CX P w) P w K mg base ["step", "letters", "name", "about", "turned", "made", "sign"] "_through_about" (defScope sThrAbout) f cdv A0 outer s0 H E) N W (starts ["step", "letters", "name", "about", "turned", "made", "sign"] [.p (stpD (.ab q s A)), .p (.str (st L))]) μ' ((defBody sThrAbout).getD 0 (.Pass ⟨0, 0, 0, 0⟩)) (.nx [some (.p (stpD (.ab q s A))), some (.p (.str (st L))), some (.p (.str (st (if q then wQuarter else wFlip)))), some (.p (.str (st A))), some (.p (.int s)), none, none] μ') :=
    ds_asg (de_var 0) (dg_tup (dgs_cons (dg_name 2 g.nd) (dgs_cons (dg_name 3 g.nd) (dgs_cons (dg_name 4 g.nd) dgs_nil))) g.hK g.calm) rfl
  by_cases h1 : qs A L % 2 = 0
  · rw [show abF q s A L = (L, 1) from if_pos h1]
    exact ⟨_, dss_cons d0 (cn (dss_ifT (dt_of (dt_val (de_call g cp (da_cons (de_var 3) (da_cons (de_var 1) da_nil)) ⟨A, L, hA0.okL, hL, hln, rfl, rfl, rfl⟩)) (decide_eq_true h1)) (dss_ret (de_tup (dp_cons (de_var 1) (dp_cons de_int dp_nil)))) cr)), .rt⟩
  · cases q with
    | false =>
      rw [show abF false s A L = (L, -1) from by unfold abF; rw [if_neg h1, if_pos rfl]]
      exact ⟨_, dss_cons d0 (cn (dss_skip (dt_of (dt_val (de_call g cp (da_cons (de_var 3) (da_cons (de_var 1) da_nil)) ⟨A, L, hA0.okL, hL, hln, rfl, rfl, rfl⟩)) (decide_eq_false h1)) (dss_ifT (dt_of (dt_cmp (de_var 2) de_str o_eqS) (by decide)) (dss_ret (de_tup (dp_cons (de_var 1) (dp_cons (de_un de_int u_neg) dp_nil)))) cr))), .rt⟩
    | true =>
      rw [show abF true s A L = (mk A L, sg (qs A L + 1) * s) from by unfold abF; rw [if_neg h1, if_neg (by decide)]]
      have d3 : DS (cxOf (L2.CX P w) P w K mg base ["step", "letters", "name", "about", "turned", "made", "sign"] "_through_about" (defScope sThrAbout) f cdv A0 outer s0 H E) N W [some (.p (stpD (.ab true s A))), some (.p (.str (st L))), some (.p (.str (st wQuarter))), some (.p (.str (st A))), some (.p (.int s)), none, none] μ' ((defBody sThrAbout).getD 3 (.Pass ⟨0, 0, 0, 0⟩)) (.nx [some (.p (stpD (.ab true s A))), some (.p (.str (st L))), some (.p (.str (st wQuarter))), some (.p (.str (st A))), some (.p (.int s)), some (.p (.str (st (mk A L)))), some (.p (.int (sg (qs A L + 1))))] μ') :=
        ds_asg (de_call g cb (da_cons (de_var 3) (da_cons (de_var 1) da_nil)) ⟨A, L, hA0.okL, hL, hln, rfl, rfl, rfl⟩) (dg_tup (dgs_cons (dg_name 5 g.nd) (dgs_cons (dg_name 6 g.nd) dgs_nil)) g.hK g.calm) rfl
      have sm : -(2 ^ 64) < sg (qs A L + 1) ∧ sg (qs A L + 1) < 2 ^ 64 := by unfold sg; split <;> decide
      exact ⟨_, dss_cons d0 (cn (dss_skip (dt_of (dt_val (de_call g cp (da_cons (de_var 3) (da_cons (de_var 1) da_nil)) ⟨A, L, hA0.okL, hL, hln, rfl, rfl, rfl⟩)) (decide_eq_false h1)) (dss_skip (dt_of (dt_cmp (de_var 2) de_str o_eqS) (by decide)) (dss_cons d3 (cn (dss_ret (de_tup (dp_cons (de_var 5) (dp_cons (de_bin (de_var 6) (de_var 4) (o_mul (.inl sm))) dp_nil))))))))), .rt⟩
end
end K58
set_option Elab.async false
set_option linter.all false
set_option maxRecDepth 100000
set_option maxHeartbeats 4000000
set_option autoImplicit false
namespace K58F
open PySem PySem.Spec PyProof.Rows L2 Dl Cq
def top (i : Nat) : Stmt := PySem.Challenge.pw_looseknobs_k58_told_in_one_way_by_hand.main.body.getD i (.Pass ⟨0, 0, 0, 0⟩)
abbrev sName : Stmt := top 17
abbrev sAsc : Stmt := top 19
abbrev sMerged : Stmt := top 20
abbrev sInit : Stmt := inClass (top 26) 0
abbrev sAre : Stmt := top 27
abbrev sReadC : Stmt := top 41
abbrev sReadL : Stmt := top 42
abbrev sIsTurn : Stmt := top 43
abbrev sAbout : Stmt := top 44
abbrev sTurn : Stmt := top 45
abbrev sIsAbout : Stmt := top 46
abbrev sWires : Stmt := top 47
abbrev sCInit : Stmt := inClass (top 49) 0
abbrev sIsWhole : Stmt := top 16
theorem scMerged : FnScope ["runs", "one", "other", "found", "at", "by"] ["runs"] (defScope sMerged) := ⟨rfl, rfl, rfl, by decide +kernel, rfl, by decide +kernel, by decide +kernel⟩
theorem scAsc : FnScope ["rows", "row", "runs", "at", "run"] ["rows"] (defScope sAsc) := ⟨rfl, rfl, rfl, by decide +kernel, rfl, by decide +kernel, by decide +kernel⟩
theorem scName : FnScope ["value", "letter"] ["value"] (defScope sName) := ⟨rfl, rfl, rfl, by decide +kernel, rfl, by decide +kernel, by decide +kernel⟩
theorem scAre : FnScope ["text", "letter"] ["text"] (defScope sAre) := ⟨rfl, rfl, rfl, by decide +kernel, rfl, by decide +kernel, by decide +kernel⟩
theorem scInit : FnScope ["self", "text", "letters"] ["self", "text"] (defScope sInit) := ⟨rfl, rfl, rfl, by decide +kernel, rfl, by decide +kernel, by decide +kernel⟩
structure TM (mg : Str → Option Value) : Prop where
  len : mg "len" = none
  int : mg "int" = none
  abs : mg "abs" = none
  max : mg "max" = none
  min : mg "min" = none
  range : mg "range" = none
  list : mg "list" = none
  all : mg "all" = none
  isinstance : mg "isinstance" = none
  str : mg "str" = none
  tuple : mg "tuple" = none
  enum : mg "enumerate" = none
  zip : mg "zip" = none
  set : mg "set" = none
  repr : mg "repr" = none
end K58F
set_option Elab.async false
set_option linter.all false
set_option maxRecDepth 100000
set_option maxHeartbeats 4000000
set_option autoImplicit false
namespace K58F
open PySem PySem.Spec PyProof.Rows L2 Dl Cq
/-! ### what is compared by < and == -/
structure KdOk (T : Type) [DecidableEq T] (toD : T → D) (le : T → T → Bool) (ok : T → Prop) : Prop where
  l : ∀ {X : Cx} {N : En} {W : WX} {n : Nat} {μ : List M}, Go X N W n → ∀ p q : T, OpOk X N W (compareOp .Lt) μ (.p (toD p)) (.p (toD q)) (.v (.p (.bl (le p q)))) μ
  e : ∀ {X : Cx} {N : En} {W : WX} {n : Nat} {μ : List M}, Go X N W n → ∀ p q : T, ok p → ok q → OpOk X N W (compareOp .Eq) μ (.p (toD p)) (.p (toD q)) (.v (.p (.bl (decide (p = q))))) μ
theorem pair_py (p : Str × Int) : PyD (pairD p) (.tuple [.str p.1, .int p.2]) := .tup (.cons (.str _) (.cons (.int _) .nil))
theorem pair_eqv (p q : Str × Int) : PyData.eqv (.tuple [.str p.1, .int p.2]) (.tuple [.str q.1, .int q.2]) = decide (p = q) := by
  obtain ⟨a, b⟩ := p
  obtain ⟨c, d⟩ := q
  simp [PyData.eqv, PyData.eqvAll, Bool.beq_eq_decide_eq, Prod.ext_iff]
def okS (_ : Str) : Prop := True
def okP (p : Str × Int) : Prop := PyData.strOk p.1 = true
theorem pair_shaped {p : Str × Int} (h : okP p) : SeqAt.shaped (.tuple [.str p.1, .int p.2]) = true := by
  unfold SeqAt.shaped
  have e1 : (PyData.tuple [.str p.1, .int p.2]).canLay0 = true := by
    rw [PyData.canLay0]
    simp only [PyData.canLayAll0, PyData.canLay0, Bool.and_true]
    exact h
  rw [e1]
  rfl
theorem kd_str : KdOk Str D.str sltB okS := ⟨fun _ _ _ => o_ltS, fun _ _ _ _ _ => o_eqS⟩
theorem kd_pair : KdOk (Str × Int) pairD pltB okP := ⟨fun g _ _ => o_ltP g, fun g p q h1 h2 => o_eqD g (pair_py p) (pair_py q) (pair_shaped h1) (pair_shaped h2) (pair_eqv p q)⟩
def mRel {T : Type} [DecidableEq T] (toD : T → D) (le : T → T → Bool) (ok : T → Prop) : Rel := fun ss μ r μ' => μ' = μ ∧
  ((∃ xs : List T, ss = [.p (.lst [.lst (xs.map toD)])] ∧ r = .v (.p (.lst (xs.map toD)))) ∨
   ∃ xs ys : List T, (∀ x ∈ xs, ok x) ∧ (∀ x ∈ ys, ok x) ∧ xs.length ≤ 100 ∧ ys.length ≤ 100 ∧ ss = [.p (.lst [.lst (xs.map toD), .lst (ys.map toD)])] ∧ r = .v (.p (.lst ((mrg le xs ys).map toD))))
def rMerged : Rel := fun ss μ r μ' => mRel D.str sltB okS ss μ r μ' ∨ mRel pairD pltB okP ss μ r μ'
def aRel {T : Type} [DecidableEq T] (toD : T → D) (le : T → T → Bool) (ok : T → Prop) : Rel := fun ss μ r μ' => μ' = μ ∧ ∃ xs : List T, (∀ x ∈ xs, ok x) ∧ xs.length ≤ 50 ∧ ss = [.p (.lst (xs.map toD))] ∧ r = .v (.p (.tup ((ascF le xs).map toD)))
def rAsc : Rel := fun ss μ r μ' => aRel D.str sltB okS ss μ r μ' ∨ aRel pairD pltB okP ss μ r μ'
theorem end_at {μ : List M} {a : M} {k : Nat} (h : μ.length = k) : (μ ++ [a])[k]? = some a := by
  subst h
  rw [List.getElem?_append_right (Nat.le_refl _), Nat.sub_self]
  rfl
theorem end_set {μ : List M} {a b : M} {k : Nat} (h : μ.length = k) : (μ ++ [a]).set k b = μ ++ [b] := by
  subst h
  rw [List.set_append_right _ _ (Nat.le_refl _)]
  simp
theorem sz {n : Nat} (h : n ≤ 100000) : n ≤ sizeLine := by rw [sizeLine_eq]; omega
theorem sz' {n : Nat} (h : n ≤ 100000) : n < sizeLine := by rw [sizeLine_eq]; omega
def whB (s : Stmt) (i : Nat) : List Stmt := match (defBody s).getD i (.Pass ⟨0, 0, 0, 0⟩) with
  | .While _ b _ _ => b
  | _ => []
def whC (s : Stmt) (i : Nat) : Expr := match (defBody s).getD i (.Pass ⟨0, 0, 0, 0⟩) with
  | .While c _ _ _ => c
  | _ => .Constant .none 0 ⟨0, 0, 0, 0⟩
theorem atm {T : Type} {toD : T → D} {xs : List T} {a : Nat} (h : a < xs.length) : atI (xs.map toD) (a : Int) = some (toD xs[a]) := atI_nat (by rw [List.getElem?_map, List.getElem?_eq_getElem h]; rfl)
theorem dropA {T : Type} {xs : List T} {a : Nat} (h : a < xs.length) : xs.drop a = xs[a] :: xs.drop (a + 1) := List.drop_eq_getElem_cons h
theorem mrg_nil {T : Type} [DecidableEq T] {le : T → T → Bool} (xs : List T) : mrg le xs [] = xs := by
  cases xs <;> unfold mrg <;> rfl
theorem mrg_nil' {T : Type} [DecidableEq T] {le : T → T → Bool} (xs : List T) : mrg le [] xs = xs := by unfold mrg; rfl
section
variable {P : Program} {w : World} {K : PySem.W.Frag} {mg : Str → Option Value} {base : Heap} {f C : Addr} {fd : FuncData}
abbrev dM (T1 : Type) (toD : T1 → D) (xs ys : List T1) (j a b : Nat) : List (Option S) := [some (.p (.lst [.lst (xs.map toD), .lst (ys.map toD)])), some (.p (.lst (xs.map toD))), some (.p (.lst (ys.map toD))), some (.l j), some (.p (.int (a : Nat))), some (.p (.int (b : Nat)))]
theorem mer_loop {T1 : Type} [DecidableEq T1] {toD : T1 → D} {le : T1 → T1 → Bool} {ok : T1 → Prop} (kd : KdOk T1 toD le ok) (T : TM mg) {cdv : Value} {A0 : Around} {outer : List Env} {s0 : Shared} {H : Hp} {E : XK} {N : En} {W : WX} {μ : List M} (g : Go (cxOf (L2.CX P w) P w K mg base ["runs", "one", "other", "found", "at", "by"] "_merged" (defScope sMerged) f cdv A0 outer s0 H E) N W 0) (xs ys : List T1) (ox : ∀ x ∈ xs, ok x) (oy : ∀ x ∈ ys, ok x) (lx : xs.length ≤ 100) (ly : ys.length ≤ 100) :
    ∀ (m a b : Nat) (acc : List T1), (xs.length - a) + (ys.length - b) ≤ m → a ≤ xs.length → b ≤ ys.length → acc.length ≤ a + b → ∃ q a' b' acc', Wl (cxOf (L2.CX P w) P w K mg base ["runs", "one", "other", "found", "at", "by"] "_merged" (defScope sMerged) f cdv A0 outer s0 H E) N W (whC sMerged 5) (whB sMerged 5) q (dM T1 toD xs ys μ.length a b) (μ ++ [.lst (acc.map toD)]) (.nx (dM T1 toD xs ys μ.length a' b') (μ ++ [.lst (acc'.map toD)])) ∧ a' ≤ xs.length ∧ b' ≤ ys.length ∧ acc'.length ≤ a' + b' ∧ acc' ++ xs.drop a' ++ ys.drop b' = acc ++ mrg le (xs.drop a) (ys.drop b) := by
  intro m
  induction m with
  | zero =>
    intro a b acc hm ha hb hl
    refine ⟨0, a, b, acc, .stop ?_, ha, hb, hl, ?_⟩
    · exact dt_w (k := false) (dw_and (k := false) (k' := true) (dt_of (dt_cmp (de_var 4) (de_callB (id := "len") (da_cons (de_var 1) da_nil) (c_lenL g) T.len (by decide +kernel)) o_lt) (decide_eq_false (by rw [List.length_map]; omega))) (fun h => by cases h))
    · rw [List.drop_of_length_le (show xs.length ≤ a by omega), List.drop_of_length_le (show ys.length ≤ b by omega), mrg_nil]
      simp
  | succ m ih =>
    intro a b acc hm ha hb hl
    by_cases h1 : a < xs.length
    case neg =>
      refine ⟨0, a, b, acc, .stop ?_, ha, hb, hl, ?_⟩
      · exact dt_w (k := false) (dw_and (k := false) (k' := true) (dt_of (dt_cmp (de_var 4) (de_callB (id := "len") (da_cons (de_var 1) da_nil) (c_lenL g) T.len (by decide +kernel)) o_lt) (decide_eq_false (by rw [List.length_map]; omega))) (fun h => by cases h))
      · rw [List.drop_of_length_le (show xs.length ≤ a by omega), mrg_nil']
        simp
    by_cases h2 : b < ys.length
    case neg =>
      refine ⟨0, a, b, acc, .stop ?_, ha, hb, hl, ?_⟩
      · exact dt_w (k := false) (dw_and (k := true) (k' := false) (dt_of (dt_cmp (de_var 4) (de_callB (id := "len") (da_cons (de_var 1) da_nil) (c_lenL g) T.len (by decide +kernel)) o_lt) (decide_eq_true (by rw [List.length_map]; omega))) (fun h => dw_and1 (dt_of (dt_cmp (de_var 5) (de_callB (id := "len") (da_cons (de_var 2) da_nil) (c_lenL g) T.len (by decide +kernel)) o_lt) (decide_eq_false (by rw [List.length_map]; omega)))))
      · rw [List.drop_of_length_le (show ys.length ≤ b by omega), mrg_nil]
        simp
    have cond : ∀ ν, DT (cxOf (L2.CX P w) P w K mg base ["runs", "one", "other", "found", "at", "by"] "_merged" (defScope sMerged) f cdv A0 outer s0 H E) N W (dM T1 toD xs ys μ.length a b) ν (whC sMerged 5) true ν := fun ν => dt_w (k := true) (dw_and (k := true) (k' := true) (dt_of (dt_cmp (de_var 4) (de_callB (id := "len") (da_cons (de_var 1) da_nil) (c_lenL g) T.len (by decide +kernel)) o_lt) (decide_eq_true (by rw [List.length_map]; omega))) (fun h => dw_and1 (dt_of (dt_cmp (de_var 5) (de_callB (id := "len") (da_cons (de_var 2) da_nil) (c_lenL g) T.len (by decide +kernel)) o_lt) (decide_eq_true (by rw [List.length_map]; omega)))))
    have e1 : ((a : Int) + 1) = ((a + 1 : Nat) : Int) := by omega
    have e2 : ((b : Int) + 1) = ((b + 1 : Nat) : Int) := by omega
    have app : ∀ z : T1, μ ++ [M.lst ((acc ++ [z]).map toD)] = (μ ++ [M.lst (acc.map toD)]).set μ.length (.lst (acc.map toD ++ [toD z])) := fun z => by rw [end_set rfl, List.map_append]; rfl
    rw [dropA h1, dropA h2]
    unfold mrg
    cases hc : le xs[a] ys[b] with
    | true =>
      obtain ⟨q, a', b', acc', w1, w2, w3, w4, w5⟩ := ih (a + 1) b (acc ++ [xs[a]]) (by omega) h1 hb (by rw [List.length_append]; simp; omega)
      refine ⟨q + 1, a', b', acc', .turn (cond _) (dss_ifT (dt_of (dt_cmp (de_ix (de_var 1) (de_var 4) (i_lst g (atm h1))) (de_ix (de_var 2) (de_var 5) (i_lst g (atm h2))) (kd.l g _ _)) hc) (dss_cons (ds_expr (de_bm PySem.F.plainAttrs_list PySem.F.slot_list_append PySem.F.type_list_append (de_var 3) (da_cons (de_ix (de_var 1) (de_var 4) (i_lst g (atm h1))) da_nil) (m_append (end_at rfl) (end_at rfl) (by rw [List.length_map]; exact sz' (by omega))))) (cn (dss_cons (ds_inc 4 de_int rfl g.nd) (cn dss_nil)))) (cn dss_nil)) (by rw [e1, ← app]; exact w1), w2, w3, w4, ?_⟩
      rw [w5, if_pos rfl, dropA h2]
      simp
    | false =>
      by_cases he : xs[a] = ys[b]
      · obtain ⟨q, a', b', acc', w1, w2, w3, w4, w5⟩ := ih (a + 1) (b + 1) (acc ++ [ys[b]]) (by omega) h1 h2 (by rw [List.length_append]; simp; omega)
        refine ⟨q + 1, a', b', acc', .turn (cond _) (dss_ifF (dt_of (dt_cmp (de_ix (de_var 1) (de_var 4) (i_lst g (atm h1))) (de_ix (de_var 2) (de_var 5) (i_lst g (atm h2))) (kd.l g _ _)) hc) (dss_ifT (dt_of (dt_cmp (de_ix (de_var 1) (de_var 4) (i_lst g (atm h1))) (de_ix (de_var 2) (de_var 5) (i_lst g (atm h2))) (kd.e g _ _ (ox _ (List.getElem_mem h1)) (oy _ (List.getElem_mem h2)))) (decide_eq_true he)) (dss_cons (ds_inc 4 de_int rfl g.nd) (cn dss_nil)) (cn (dss_cons (ds_expr (de_bm PySem.F.plainAttrs_list PySem.F.slot_list_append PySem.F.type_list_append (de_var 3) (da_cons (de_ix (de_var 2) (de_var 5) (i_lst g (atm h2))) da_nil) (m_append (end_at rfl) (end_at rfl) (by rw [List.length_map]; exact sz' (by omega))))) (cn (dss_cons (ds_inc 5 de_int rfl g.nd) (cn dss_nil)))))) (cn dss_nil)) (by rw [e1, e2, ← app]; exact w1), w2, w3, w4, ?_⟩
        rw [w5, if_neg (by simp), if_pos he]
        simp
      · obtain ⟨q, a', b', acc', w1, w2, w3, w4, w5⟩ := ih a (b + 1) (acc ++ [ys[b]]) (by omega) ha h2 (by rw [List.length_append]; simp; omega)
        refine ⟨q + 1, a', b', acc', .turn (cond _) (dss_ifF (dt_of (dt_cmp (de_ix (de_var 1) (de_var 4) (i_lst g (atm h1))) (de_ix (de_var 2) (de_var 5) (i_lst g (atm h2))) (kd.l g _ _)) hc) (dss_skip (dt_of (dt_cmp (de_ix (de_var 1) (de_var 4) (i_lst g (atm h1))) (de_ix (de_var 2) (de_var 5) (i_lst g (atm h2))) (kd.e g _ _ (ox _ (List.getElem_mem h1)) (oy _ (List.getElem_mem h2)))) (decide_eq_false he)) (dss_cons (ds_expr (de_bm PySem.F.plainAttrs_list PySem.F.slot_list_append PySem.F.type_list_append (de_var 3) (da_cons (de_ix (de_var 2) (de_var 5) (i_lst g (atm h2))) da_nil) (m_append (end_at rfl) (end_at rfl) (by rw [List.length_map]; exact sz' (by omega))))) (cn (dss_cons (ds_inc 5 de_int rfl g.nd) (cn dss_nil))))) (cn dss_nil)) (by rw [e2, ← app]; exact w1), w2, w3, w4, ?_⟩
        rw [w5, if_neg (by simp), if_neg he, dropA h1]
        simp
theorem mer_body {T1 : Type} [DecidableEq T1] {toD : T1 → D} {le : T1 → T1 → Bool} {ok : T1 → Prop} (kd : KdOk T1 toD le ok) (T : TM mg) {cdv : Value} {A0 : Around} {outer : List Env} {s0 : Shared} {H : Hp} {E : XK} {N : En} {W : WX} {ss : List S} {μ μ' : List M} {r : Rx} (g : Go (cxOf (L2.CX P w) P w K mg base ["runs", "one", "other", "found", "at", "by"] "_merged" (defScope sMerged) f cdv A0 outer s0 H E) N W 0) (hA : N.A0.length = μ.length) (hR : mRel toD le ok ss μ r μ') : ∃ o, DSs (cxOf (L2.CX P w) P w K mg base ["runs", "one", "other", "found", "at", "by"] "_merged" (defScope sMerged) f cdv A0 outer s0 H E) N W (starts ["runs", "one", "other", "found", "at", "by"] ss) μ (defBody sMerged) o ∧ Fit μ.length o r μ' := by
  obtain ⟨rfl, (⟨xs, rfl, rfl⟩ | ⟨xs, ys, ox, oy, lx, ly, rfl, rfl⟩)⟩ := hR
  · exact ⟨_, (dss_ifT (dt_of (dt_cmp (de_callB (id := "len") (da_cons (de_var 0) da_nil) (c_lenL g) T.len (by decide +kernel)) de_int o_eqI) rfl) (dss_ret (de_ix (de_var 0) de_int (i_lst g rfl))) cr), .rt⟩
  · obtain ⟨q, a', b', acc, w1, w2, w3, w4, w5⟩ := mer_loop (μ := μ') kd T g xs ys ox oy lx ly (xs.length + ys.length) 0 0 [] (by omega) (Nat.zero_le _) (Nat.zero_le _) (Nat.le_refl _)
    refine ⟨_, dss_skip (dt_of (dt_cmp (de_callB (id := "len") (da_cons (de_var 0) da_nil) (c_lenL g) T.len (by decide +kernel)) de_int o_eqI) rfl) (dss_cons (ds_asg (de_var 0) (dg_lst (dgs_cons (dg_name 1 g.nd) (dgs_cons (dg_name 2 g.nd) dgs_nil)) g.hK g.calm) rfl) (cn (dss_cons (ds_set 3 (de_lstM dp_nil) g.nd) (cn (dss_cons (ds_set 4 de_int g.nd) (cn (dss_cons (ds_set 5 de_int g.nd) (cn (dss_cons (ds_while g (by exact w1)) (cn
      (dss_freeze (end_at rfl) (by omega) 3 rfl (dss_ret (de_of (d' := .lst ((mrg le xs ys).map toD)) (de_lst (dp_star (de_var 3) (dp_star (de_cutLf g (de_var 1) (de_var 4)) (dp_star (de_cutLf g (de_var 2) (de_var 5)) dp_nil g.hK) g.hK) g.hK) ?hl) ?hd))))))))))))), ?_⟩
    case hl =>
      rw [cutX_from, cutX_from, List.append_nil]
      simp only [List.length_append, List.length_map, List.length_drop]
      exact sz (by omega)
    case hd =>
      rw [cutX_from, cutX_from, List.append_nil, ← List.map_drop, ← List.map_drop, ← List.map_append, ← List.map_append, ← List.append_assoc, w5]
      rfl
    rw [end_set rfl]
    have e2 : (μ' ++ [M.gone]).take μ'.length = μ' := by simp
    conv => rhs; rw [← e2]
    exact .rtT (Nat.le_refl _)
theorem ok_merged (F : Fun K "_merged" "_merged" sMerged f fd) (T : TM mg) : FnOk P w K mg base (L2.CX P w) 1 f fd ["runs"] (spD K rMerged) := by
  refine fn_D (k := 0) F scMerged (fun ss μ r μ' h => by obtain (⟨_, (⟨_, rfl, _⟩ | ⟨_, _, _, _, _, _, rfl, _⟩)⟩ | ⟨_, (⟨_, rfl, _⟩ | ⟨_, _, _, _, _, _, rfl, _⟩)⟩) := h <;> rfl) ?_
  intro cdv A0 outer s0 H E N W ss μ r μ' g hA hR
  rcases hR with hR | hR
  · exact mer_body kd_str T g hA hR
  · exact mer_body kd_pair T g hA hR
end
end K58F
set_option Elab.async false
set_option linter.all false
set_option maxRecDepth 100000
set_option maxHeartbeats 4000000
set_option autoImplicit false
namespace K58F
open PySem PySem.Spec PyProof.Rows L2 Dl Cq
theorem pairUp_at {T1 : Type} [DecidableEq T1] (le : T1 → T1 → Bool) : ∀ (rs : List (List T1)) (i : Nat), i < (rs.length + 1) / 2 → (∃ a, a ∈ rs ∧ (rs.drop (2 * i)).take 2 = [a] ∧ (pairUp le rs).getD i [] = a) ∨ (∃ a b, a ∈ rs ∧ b ∈ rs ∧ (rs.drop (2 * i)).take 2 = [a, b] ∧ (pairUp le rs).getD i [] = mrg le a b)
  | [], i, h => by simp at h
  | [a], i, h => by
    have : i = 0 := by simp at h; omega
    subst this
    exact .inl ⟨a, by simp, rfl, rfl⟩
  | a :: b :: r, 0, _ => .inr ⟨a, b, by simp, by simp, rfl, rfl⟩
  | a :: b :: r, i + 1, h => by
    have h' : i < (r.length + 1) / 2 := by simp at h; omega
    have e : (a :: b :: r).drop (2 * (i + 1)) = r.drop (2 * i) := by
      rw [show 2 * (i + 1) = 2 * i + 2 by omega]
      rfl
    rw [e]
    rcases pairUp_at le r i h' with ⟨x, h1, h2, h3⟩ | ⟨x, y, h1, h2, h3, h4⟩
    · exact .inl ⟨x, by simp [h1], h2, h3⟩
    · exact .inr ⟨x, y, by simp [h1], by simp [h2], h3, h4⟩
abbrev lsD {T1 : Type} (toD : T1 → D) (rs : List (List T1)) : List D := rs.map fun r => .lst (r.map toD)
theorem range_getD {α β : Type} (q : α → β) (d : α) (l : List α) : (List.range l.length).map (fun i => q (l.getD i d)) = l.map q := by
  apply List.ext_getElem?
  intro i
  rw [List.getElem?_map, List.getElem?_map]
  by_cases h : i < l.length
  · rw [List.getElem?_range h, List.getElem?_eq_getElem h]
    simp [List.getD, h]
  · rw [List.getElem?_eq_none (by simpa using h), List.getElem?_eq_none (by omega)]
    rfl
def esL : D → List D
  | .lst l => l
  | _ => []
theorem flat_ls {T1 : Type} (toD : T1 → D) : ∀ rs : List (List T1), flat2 (fun _ => true) esL (fun _ e => e) (lsD toD rs) = rs.flatten.map toD
  | [] => rfl
  | a :: r => by
    show (esL (.lst (a.map toD))).map (fun e => e) ++ flat2 (fun _ => true) esL (fun _ e => e) (lsD toD r) = _
    rw [flat_ls toD r, List.flatten_cons, List.map_append, List.map_id']
    rfl
theorem rg_two {n : Nat} (h : n ≤ 50) : RgC 0 (n : Int) 2 ((n + 1) / 2) := by
  have hs : Builtin.Range.rangeSize 0 (n : Int) 2 = (((n + 1) / 2 : Nat) : Int) := by
    unfold Builtin.Range.rangeSize
    rw [if_pos (by decide)]
    split <;> omega
  refine ⟨by decide, by decide, ?_, hs⟩
  unfold Builtin.Range.small
  rw [hs]
  have h2 : (n : Int) ≤ 50 := by omega
  have h0 : (0 : Int) ≤ n := by omega
  have h3 : (((n + 1) / 2 : Nat) : Int) ≤ 50 := by omega
  have h4 : (0 : Int) ≤ (((n + 1) / 2 : Nat) : Int) := by omega
  generalize (((n + 1) / 2 : Nat) : Int) = k at h3 h4
  generalize (n : Int) = m at h2 h0
  simp only [Builtin.Range.rangeFitsLong, Bool.and_eq_true, Bool.or_eq_true, decide_eq_true_eq, beq_iff_eq, show ((2 : Int) > 0) by decide, if_true]
  omega
theorem mem_flat_le {α : Type} {a : List α} : ∀ {rs : List (List α)}, a ∈ rs → a.length ≤ rs.flatten.length
  | [], h => by cases h
  | x :: r, h => by
    rw [List.flatten_cons, List.length_append]
    rcases List.mem_cons.mp h with rfl | h
    · omega
    · have := mem_flat_le h
      omega
section
variable {P : Program} {w : World} {K : PySem.W.Frag} {mg : Str → Option Value} {base : Heap} {f C : Addr} {fd : FuncData}
theorem asc_loop {T1 : Type} [DecidableEq T1] {toD : T1 → D} {le : T1 → T1 → Bool} {ok : T1 → Prop} (T : TM mg) (cm : Cf P w K mg base 1 "_merged" [] rMerged) (emb : ∀ ss μ r μ', mRel toD le ok ss μ r μ' → rMerged ss μ r μ') {cdv : Value} {A0 : Around} {outer : List Env} {s0 : Shared} {H : Hp} {E : XK} {N : En} {W : WX} {μ : List M} (g : Go (cxOf (L2.CX P w) P w K mg base ["rows", "row", "runs", "at", "run"] "ascending" (defScope sAsc) f cdv A0 outer s0 H E) N W 1) (d0 : D) :
    ∀ (m : Nat) (rs : List (List T1)), rs.length ≤ m → rs.length ≤ 50 → rs.flatten.length ≤ 50 → (∀ x ∈ rs.flatten, ok x) → ∃ q, Wl (cxOf (L2.CX P w) P w K mg base ["rows", "row", "runs", "at", "run"] "ascending" (defScope sAsc) f cdv A0 outer s0 H E) N W (whC sAsc 1) (whB sAsc 1) q [some (.p d0), none, some (.p (.lst (lsD toD rs))), none, none] μ (.nx [some (.p d0), none, some (.p (.lst (lsD toD (ascR le rs)))), none, none] μ) := by
  intro m
  induction m with
  | zero =>
    intro rs h0 h1 h2 h3
    have e : ascR le rs = rs := by unfold ascR; rw [dif_neg (by omega)]
    rw [e]
    exact ⟨0, .stop (dt_of (dt_cmp (de_callB (id := "len") (da_cons (de_var 2) da_nil) (c_lenL g) T.len (by decide +kernel)) de_int o_gt) (decide_eq_false (by rw [List.length_map]; omega)))⟩
  | succ m ih =>
    intro rs h0 h1 h2 h3
    by_cases hl : 1 < rs.length
    case neg =>
      have e : ascR le rs = rs := by unfold ascR; rw [dif_neg hl]
      rw [e]
      exact ⟨0, .stop (dt_of (dt_cmp (de_callB (id := "len") (da_cons (de_var 2) da_nil) (c_lenL g) T.len (by decide +kernel)) de_int o_gt) (decide_eq_false (by rw [List.length_map]; omega)))⟩
    have e : ascR le rs = ascR le (pairUp le rs) := by conv => lhs; unfold ascR; rw [dif_pos hl]
    have hp := pairUp_len le rs
    have hs := pairUp_sum le rs
    obtain ⟨q, hq⟩ := ih (pairUp le rs) (by omega) (by omega) (by omega) (fun x hx => h3 x ((mem_pairUp le x rs).mp hx))
    rw [e]
    refine ⟨q + 1, .turn (dt_of (dt_cmp (de_callB (id := "len") (da_cons (de_var 2) da_nil) (c_lenL g) T.len (by decide +kernel)) de_int o_gt) (decide_eq_true (by rw [List.length_map]; omega))) (dss_cons (ds_set 2 (de_lc g [("at", 3)] (di_range3 (m := (rs.length + 1) / 2) (da_cons de_int (da_cons (de_callB (id := "len") (da_cons (de_var 2) da_nil) (c_lenL g) T.len (by decide +kernel)) (da_cons de_int da_nil))) T.range ?rg) (fun s H C cl fp => dg_name 3 g.nd) (of_maps (l := List.range ((rs.length + 1) / 2)) (gd := fun i => D.int (0 + ((i : Nat) : Int) * 2)) (fy := fun i => .lst (((pairUp le rs).getD i []).map toD)) ?el) (ok := blkOk_by (by rfl)) (hds := ?hds)) g.nd) (cn dss_nil)) ?fin⟩
    case rg =>
      rw [List.length_map]
      exact rg_two h1
    case hds =>
      show (List.map _ (List.range ((rs.length + 1) / 2))).length < _
      rw [List.length_map, List.length_range]
      exact sz' (by omega)
    case fin =>
      rw [← hp, range_getD (fun r => D.lst (r.map toD)) []]
      exact hq
    case el =>
      intro i hi
      have hi : i < (rs.length + 1) / 2 := List.mem_range.mp hi
      refine ⟨_, rfl, fun s H C cl fp N' hK g' => de_call g' cm (da_cons (de_cutLm g' (de_var 2) (de_var 3) (de_bin (de_var 3) de_int o_add)) da_nil) (emb _ _ _ _ ⟨rfl, ?_⟩)⟩
      have ec : cutX (lsD toD rs) (some (0 + (i : Int) * 2)) (some (0 + (i : Int) * 2 + 2)) = lsD toD ((rs.drop (2 * i)).take 2) := by
        rw [show (0 + (i : Int) * 2) = ((2 * i : Nat) : Int) by omega, show (((2 * i : Nat) : Int) + 2) = ((2 * i + 2 : Nat) : Int) by omega, cutX_mid, show 2 * i + 2 - 2 * i = 2 by omega]
        simp only [lsD, List.map_take, List.map_drop]
      show (∃ xs : List T1, [S.p (D.lst (cutX (lsD toD rs) (some (0 + (i : Int) * 2)) (some (0 + (i : Int) * 2 + 2))))] ++ [] = _ ∧ _) ∨ _
      rcases pairUp_at le rs i hi with ⟨a, m1, h4, h5⟩ | ⟨a, b, m1, m2, h4, h5⟩
      · exact .inl ⟨a, by rw [ec, h4]; rfl, by rw [h5]⟩
      · refine .inr ⟨a, b, fun x hx => h3 x (List.mem_flatten.mpr ⟨a, m1, hx⟩), fun x hx => h3 x (List.mem_flatten.mpr ⟨b, m2, hx⟩), ?_, ?_, ?_, by rw [h5]⟩
        · have := mem_flat_le m1
          omega
        · have := mem_flat_le m2
          omega
        · show [S.p (D.lst (cutX (lsD toD rs) (some (0 + (i : Int) * 2)) (some (0 + (i : Int) * 2 + 2))))] ++ [] = _
          rw [ec, h4]
          rfl
theorem asc_body {T1 : Type} [DecidableEq T1] {toD : T1 → D} {le : T1 → T1 → Bool} {ok : T1 → Prop} (T : TM mg) (cm : Cf P w K mg base 1 "_merged" [] rMerged) (emb : ∀ ss μ r μ', mRel toD le ok ss μ r μ' → rMerged ss μ r μ') {cdv : Value} {A0 : Around} {outer : List Env} {s0 : Shared} {H : Hp} {E : XK} {N : En} {W : WX} {ss : List S} {μ μ' : List M} {r : Rx} (g : Go (cxOf (L2.CX P w) P w K mg base ["rows", "row", "runs", "at", "run"] "ascending" (defScope sAsc) f cdv A0 outer s0 H E) N W 1) (hA : N.A0.length = μ.length) (hR : aRel toD le ok ss μ r μ') : ∃ o, DSs (cxOf (L2.CX P w) P w K mg base ["rows", "row", "runs", "at", "run"] "ascending" (defScope sAsc) f cdv A0 outer s0 H E) N W (starts ["rows", "row", "runs", "at", "run"] ss) μ (defBody sAsc) o ∧ Fit μ.length o r μ' := by
  obtain ⟨rfl, xs, hl, ho, rfl, rfl⟩ := hR
  have hfl : (xs.map fun x => [x]).flatten = xs := by
    clear hl ho
    induction xs with
    | nil => rfl
    | cons x xs ih => rw [List.map_cons, List.flatten_cons, ih]; rfl
  obtain ⟨q, w1⟩ := asc_loop (le := le) (μ := μ') T cm emb g (.lst (xs.map toD)) xs.length (xs.map fun x => [x]) (by simp) (by simp; exact ho) (by rw [hfl]; exact ho) (by rw [hfl]; exact hl)
  refine ⟨_, dss_cons (ds_set 2 (de_lc g [("row", 1)] (di_lst g (de_var 0)) (fun s H C cl fp => dg_name 1 g.nd) (of_maps (gd := toD) (fy := fun x => .lst [toD x]) fun x hx => ⟨_, rfl, fun s H C cl fp N' hK g' => de_lst (dp_cons (de_var 1) dp_nil) (sz (by show 1 ≤ 100000; decide))⟩) (ok := blkOk_by (by rfl)) (hds := by rw [List.length_map]; exact sz' (by omega))) g.nd) (cn
    (dss_cons (ds_while g (by
      have e : (xs.map fun x => D.lst [toD x]) = lsD toD (xs.map fun x => [x]) := by simp [lsD, List.map_map, Function.comp_def]
      rw [e]
      exact w1)) (cn
    (dss_ret (de_of (d' := .tup ((ascF le xs).map toD)) (de_callT (T := "tuple") (da_cons (de_lc2 esL (fun _ e => e) g [("run", 4), ("row", 1)] [1] (di_lst g (de_var 2)) (fun s H C cl fp => dg_name 4 g.nd) (fun s H C cl fp => dg_name 1 g.nd) ?hf ?hz (ok := blkOk_by (by rfl))) da_nil) c_tupL T.tuple (by decide +kernel)) ?hd))))), .rt⟩
  case hf =>
    intro d hd
    obtain ⟨a, ha, rfl⟩ := List.mem_map.mp hd
    exact ⟨_, rfl, fun s H C cl fp N' hK g' => di_lst g' (de_var 4), fun e he => ⟨_, rfl, fun s H C cl fp N' hK g' => de_var 1⟩⟩
  case hz =>
    rw [flat_ls, List.length_map]
    have := ascF_len le xs
    exact sz (by unfold ascF at this; omega)
  case hd =>
    rw [flat_ls]
    rfl
theorem ok_asc (F : Fun K "ascending" "ascending" sAsc f fd) (T : TM mg) (cm : Cf P w K mg base 1 "_merged" [] rMerged) : FnOk P w K mg base (L2.CX P w) 2 f fd ["rows"] (spD K rAsc) := by
  refine fn_D (k := 1) F scAsc (fun ss μ r μ' h => by obtain (⟨_, _, _, _, rfl, _⟩ | ⟨_, _, _, _, rfl, _⟩) := h <;> rfl) ?_
  intro cdv A0 outer s0 H E N W ss μ r μ' g hA hR
  rcases hR with hR | hR
  · exact asc_body T cm (fun _ _ _ _ h => .inl h) g hA hR
  · exact asc_body T cm (fun _ _ _ _ h => .inr h) g hA hR
end
end K58F
set_option Elab.async false
set_option linter.all false
set_option maxRecDepth 100000
set_option maxHeartbeats 4000000
set_option autoImplicit false
namespace K58F
open PySem PySem.Spec PyProof.Rows L2 Dl Cq
theorem scIsTurn : FnScope ["step"] ["step"] (defScope sIsTurn) := ⟨rfl, rfl, rfl, by decide +kernel, rfl, by decide +kernel, by decide +kernel⟩
theorem scIsAbout : FnScope ["text", "wires", "letters"] ["text", "wires"] (defScope sIsAbout) := ⟨rfl, rfl, rfl, by decide +kernel, rfl, by decide +kernel, by decide +kernel⟩
theorem scWires : FnScope ["texts", "wires", "text"] ["texts", "wires"] (defScope sWires) := ⟨rfl, rfl, rfl, by decide +kernel, rfl, by decide +kernel, by decide +kernel⟩
theorem scAbout : FnScope ["name", "rest", "wires", "word"] ["name", "rest", "wires"] (defScope sAbout) := ⟨rfl, rfl, rfl, by decide +kernel, rfl, by decide +kernel, by decide +kernel⟩
def AZ : List Nat := [97, 98, 99, 100, 101, 102, 103, 104, 105, 106, 107, 108, 109, 110, 111, 112, 113, 114, 115, 116, 117, 118, 119, 120, 121, 122]
theorem mem_AZ {c : Nat} (h : 97 ≤ c ∧ c ≤ 122) : c ∈ AZ := by
  unfold AZ
  simp only [List.mem_cons, List.not_mem_nil, or_false]
  omega
/-- a tuple of texts among the module's own -/
def TupK (K : PySem.W.Frag) (a : Addr) (zs : List Str) : Prop := ∃ (o : Obj) (its : Array Value) (n : Nat), K.lookup a = some o ∧ o.cls = .type "tuple" ∧ o.data = .seq its n ∧ its.size ≤ sizeLine ∧ Vals (zs.map V.str) its.toList
def DicK (w : World) (K : PySem.W.Frag) (a : Addr) : Prop := ∃ es m, KDict K w a es m
structure TG (w : World) (K : PySem.W.Frag) (mg : Str → Option Value) (aS aT aW aA aP : Addr) : Prop where
  lets : ∃ u, mg "LETTERS" = some u ∧ RelV (.str (st IXYZ)) u
  most : ∃ u, mg "MOST_WIRES" = some u ∧ RelV (.int 4) u
  nml : ∃ u, mg "NAME_LETTERS" = some u ∧ RelV (.str (st AZ)) u
  lnm : ∃ u, mg "LONGEST_NAME" = some u ∧ RelV (.int 8) u
  mln : ∃ u, mg "MOST_LINES" = some u ∧ RelV (.int 40) u
  mtn : ∃ u, mg "MOST_TURNS" = some u ∧ RelV (.int 6) u
  mkn : ∃ u, mg "MOST_KNOBS" = some u ∧ RelV (.int 3) u
  gS : mg "SIZES" = some (.ref aS)
  gT : mg "TIMES" = some (.ref aT)
  gW : mg "WIRES" = some (.ref aW)
  gA : mg "ABOUT" = some (.ref aA)
  gP : mg "PAIRS" = some (.ref aP)
  kS : DicK w K aS
  kT : DicK w K aT
  nS : ∀ n, 1 ≤ n → n ≤ 4 → ∃ u, PySem.W.nsIn K aS (st (wT n)) = some (some u) ∧ RelV (.int (n : Nat)) u
  nT : ∀ i ∈ manys, ∃ u, PySem.W.nsIn K aT (st (mt i)) = some (some u) ∧ RelV (.int i) u
  tW : TupK K aW [st [48], st [49], st [50], st [51]]
  tA : TupK K aA [st wFlip, st wQuarter]
  tP : TupK K aP [st (pn 0), st (pn 1), st (pn 2)]
theorem reps_strs {K : PySem.W.Frag} {F : Hp} : ∀ zs : List Str, Reps K F (zs.map V.str) (zs.map D.str)
  | [] => .nil
  | z :: zs => .cons (.str z) (reps_strs zs)
theorem TupK.sq {K : PySem.W.Frag} {a : Addr} {zs : List Str} (h : TupK K a zs) : ∀ H, ∃ vs, SqT K H a vs ∧ ∀ F, Reps K F vs (zs.map D.str) := fun H => by
  obtain ⟨o, its, n, h1, h2, h3, h4, h5⟩ := h
  exact ⟨_, .inr ⟨o, its, n, h1, h2, h3, h4, h5⟩, fun F => reps_strs zs⟩
def rName : Rel := fun ss μ r μ' => ∃ k, okNm k ∧ ss = [.p (.str (st k))] ∧ r = .v (.p (.bl true)) ∧ μ' = μ
def rAre : Rel := fun ss μ r μ' => ∃ L, okL L ∧ ss = [.p (.str (st L))] ∧ r = .v (.p (.bl true)) ∧ μ' = μ
def rIsTurn : Rel := fun ss μ r μ' => ∃ l, ss = [.p (stpD l)] ∧ r = .v (.p (.bl (isT l))) ∧ μ' = μ
def rIsAbout : Rel := fun ss μ r μ' => ∃ w s L, w ≤ 4 ∧ okWd w s L ∧ ss = [.p (.str (st (sgL L s))), .p (.int (w : Nat))] ∧ r = .v (.p (.bl true)) ∧ μ' = μ
def digs (as : List Nat) : List D := as.map fun a => .str (st [48 + a])
def rWires : Rel := fun ss μ r μ' => ∃ (w : Nat) (as : List Nat), 1 ≤ w ∧ w ≤ 4 ∧ as.length ≤ 2 ∧ as.Nodup ∧ (∀ a ∈ as, a < w) ∧ ss = [.p (.lst (digs as)), .p (.int (w : Nat))] ∧ r = .v (.p (.bl true)) ∧ μ' = μ
structure TC (K : PySem.W.Frag) (mg : Str → Option Value) (C : Addr) : Prop where
  ci : ClsI K C
  nL : NoAttr K C "letters"
  nS : NoAttr K C "sign"
  at_ : mg "Word" = some (.ref C)
def pm (s : Int) : Prop := s = 1 ∨ s = -1
def wF : List Str := ["letters", "sign"]
def rInit (C : Addr) : Rel := fun ss μ r μ' => ∃ (j : Nat) (L : List Nat) (s : Int), okL L ∧ pm s ∧ ss = [.l j, .p (.str (sgn L s))] ∧ μ[j]? = some (.obj C [] []) ∧ r = .v (.p .non) ∧ μ' = μ.set j (.obj C wF [.str (st L), .int s])
def rAbout : Rel := fun ss μ r μ' => ∃ w q s L, w ≤ 4 ∧ okWd w s L ∧ ss = [.p (.str (st (if q = true then wQuarter else wFlip))), .p (.lst [.str (st (sgL L s))]), .p (.int (w : Nat))] ∧ r = .v (.p (stpD (.ab q s L))) ∧ μ' = μ
theorem sgn_sgL (L : List Nat) (s : Int) : sgn L s = st (sgL L s) := by
  unfold sgn sgL
  split <;> rfl
theorem kit_same {K : PySem.W.Frag} {t : Value} : PySem.W.kitOne K t t = some true := by
  unfold PySem.W.kitOne
  rw [if_pos (by simp)]
theorem sgn_prefix {L : List Nat} {s : Int} (h : okL L) : Txt.removeprefix (sgn L s) (Str.ofString "-") = st L := by
  obtain ⟨h1, h4, ha⟩ := h
  unfold sgn
  split
  · match L, h1, h4 with
    | [a], _, _ => rfl
    | [a, b], _, _ => rfl
    | [a, b, c], _, _ => rfl
    | [a, b, c, d], _, _ => rfl
  · match L, h1, h4, ha with
    | a :: l, _, h4, ha =>
      have hm := ha a (by simp)
      clear ha
      simp only [IXYZ, List.mem_cons, List.not_mem_nil, or_false] at hm
      rcases hm with rfl | rfl | rfl | rfl <;> (match l, h4 with
        | [], _ => rfl
        | [b], _ => rfl
        | [b, c], _ => rfl
        | [b, c, d], _ => rfl)
theorem sgn_starts {L : List Nat} {s : Int} (h : okL L) : Txt.startswith (sgn L s) (Str.ofString "-") = decide (s < 0) := by
  obtain ⟨h1, h4, ha⟩ := h
  unfold sgn
  split
  · rename_i hs
    rw [decide_eq_true hs]
    match L, h1, h4 with
    | [a], _, _ => rfl
    | [a, b], _, _ => rfl
    | [a, b, c], _, _ => rfl
    | [a, b, c, d], _, _ => rfl
  · rename_i hs
    rw [decide_eq_false hs]
    match L, h1, h4, ha with
    | a :: l, _, h4, ha =>
      have hm := ha a (by simp)
      clear ha
      simp only [IXYZ, List.mem_cons, List.not_mem_nil, or_false] at hm
      rcases hm with rfl | rfl | rfl | rfl <;> (match l, h4 with
        | [], _ => rfl
        | [b], _ => rfl
        | [b, c], _ => rfl
        | [b, c, d], _ => rfl)
theorem st_ne {L M : List Nat} (h : L ≠ M) : (!decide (st L = st M)) = true := by
  rw [decide_eq_false (fun e => h (st_inj.mp e))]
  rfl
theorem uniq_nodup : ∀ {zs : List Str}, zs.Nodup → zs.length ≤ 3 → (uniqN zs).length = zs.length
  | [], _, _ => rfl
  | [a], _, _ => rfl
  | [a, b], h, _ => by
    have h1 : ¬ b = a := fun e => by subst e; simp at h
    show (addN (addN [] a) b).length = 2
    unfold addN
    simp [h1]
  | [a, b, c], h, _ => by
    have h1 : ¬ b = a := fun e => by subst e; simp at h
    have h2 : ¬ c = a := fun e => by subst e; simp at h
    have h3 : ¬ c = b := fun e => by subst e; simp at h
    show (addN (addN (addN [] a) b) c).length = 3
    unfold addN
    simp [h1, h2, h3]
  | _ :: _ :: _ :: _ :: _, _, h => by simp at h
section
variable {P : Program} {w : World} {K : PySem.W.Frag} {mg : Str → Option Value} {base : Heap} {f C aS aT aW aA aP : Addr} {fd : FuncData}
theorem ok_are (F : Fun K "are_letters" "are_letters" sAre f fd) (T : TM mg) (Z : TG w K mg aS aT aW aA aP) : FnOk P w K mg base (L2.CX P w) 1 f fd ["text"] (spD K rAre) := by
  refine fn_D (k := 0) F scAre (fun ss μ r μ' h => by obtain ⟨L, _, rfl, _⟩ := h; rfl) ?_
  intro cdv A outer s H E N W ss μ r μ' g hA hR
  obtain ⟨L, hL, rfl, rfl, rfl⟩ := hR
  obtain ⟨u1, hu1, ru1⟩ := Z.lets
  obtain ⟨u2, hu2, ru2⟩ := Z.most
  have h4 := hL.four
  have h1 := hL.one
  refine ⟨_, dss_ret (de_of (de_and (de_chn de_int (de_callB (id := "len") (da_cons (de_var 0) da_nil) (c_lenS (by rw [st_len]; exact size4 (by omega))) T.len (by decide +kernel)) o_le (fun _ => de_glob hu2 ru2 (fun _ _ => .int 4)) (fun _ => o_le))
    (fun _ => de_one (de_callB (id := "all") (da_cons (de_lc g [("letter", 1)] (di_of (di_str (de_var 0)) (chars_st L)) (fun s H C cl fp => dg_name 1 g.nd)
      (of_maps (fy := fun c => .bl (decide (c ∈ IXYZ))) fun c hc => ⟨_, rfl, fun s H C cl fp N' hK g' => de_cmp (de_var 1) (de_glob hu1 ru1 (fun _ _ => .str _)) o_inS⟩) (ok := blkOk_by (by rfl)) (hds := by rw [List.length_map]; exact size4' (by omega))) da_nil) (c_allm g) T.all (by decide +kernel)))) ?_), .rt⟩
  rw [st_len, decide_eq_true (show (1 : Int) ≤ (L.length : Int) by omega), decide_eq_true (show (L.length : Int) ≤ 4 by omega), show (L.all fun c => decide (c ∈ IXYZ)) = true by simpa using hL.all]
  rfl
theorem ok_name (F : Fun K "is_name" "is_name" sName f fd) (T : TM mg) (Z : TG w K mg aS aT aW aA aP) : FnOk P w K mg base (L2.CX P w) 1 f fd ["value"] (spD K rName) := by
  refine fn_D (k := 0) F scName (fun ss μ r μ' h => by obtain ⟨L, _, rfl, _⟩ := h; rfl) ?_
  intro cdv A outer s H E N W ss μ r μ' g hA hR
  obtain ⟨L, hL, rfl, rfl, rfl⟩ := hR
  obtain ⟨u1, hu1, ru1⟩ := Z.nml
  obtain ⟨u2, hu2, ru2⟩ := Z.lnm
  have h4 := hL.eight
  have h1 := hL.one
  refine ⟨_, dss_skip (dt_w (dw_or (k := false) (k' := false) (dt_not (dt_val (de_callB (id := "isinstance") (da_cons (de_var 0) (da_cons (de_ty T.str (by decide +kernel)) da_nil)) (c_isi g (.str _) (.ty _) kit_same) T.isinstance (by decide +kernel)))) (fun _ => dw_or1 (dt_of (dt_not (dt_chn de_int (de_callB (id := "len") (da_cons (de_var 0) da_nil) (c_lenS (by rw [st_len]; exact size4 (by omega))) T.len (by decide +kernel)) o_le (fun _ => de_glob hu2 ru2 (fun _ _ => .int 8)) (fun _ => o_le))) ?_))))
    (dss_ret (de_of (de_callB (id := "all") (da_cons (de_lc g [("letter", 1)] (di_of (di_str (de_var 0)) (chars_st L)) (fun s H C cl fp => dg_name 1 g.nd)
      (of_maps (fy := fun c => .bl (decide (c ∈ AZ))) fun c hc => ⟨_, rfl, fun s H C cl fp N' hK g' => de_cmp (de_var 1) (de_glob hu1 ru1 (fun _ _ => .str _)) o_inS⟩) (ok := blkOk_by (by rfl)) (hds := by rw [List.length_map]; exact size4' (by omega))) da_nil) (c_allm g) T.all (by decide +kernel)) ?_)), .rt⟩
  · rw [st_len, decide_eq_true (show (1 : Int) ≤ (L.length : Int) by omega), decide_eq_true (show (L.length : Int) ≤ 8 by omega)]
    rfl
  · rw [show (L.all fun c => decide (c ∈ AZ)) = true by simpa using fun c hc => mem_AZ (hL.az c hc)]
theorem ok_init (F : Fun K "__init__" "Word.__init__" sInit f fd) (T : TM mg) (T2 : TC K mg C) (ca : Cf P w K mg base 1 "are_letters" [] rAre) : FnOk P w K mg base (L2.CX P w) 2 f fd ["self", "text"] (spD K (rInit C)) := by
  refine fn_D (k := 1) F scInit (fun ss μ r μ' h => by obtain ⟨j, L, s, _, _, rfl, _⟩ := h; rfl) ?_
  intro cdv A0 outer s0 H E N W ss μ r μ' g hA hR
  obtain ⟨j, L, s, hL, hs, rfl, hj, rfl, rfl⟩ := hR
  have h4 := hL.four
  have hlen : (sgn L s).length ≤ sizeLine := by
    unfold sgn
    rw [st_len]
    split
    · exact size4 (by rw [List.length_cons]; omega)
    · exact size4 (by omega)
  refine ⟨_, dss_skip (dt_not (dt_val (de_callB (id := "isinstance") (da_cons (de_var 1) (da_cons (de_ty T.str (by decide +kernel)) da_nil)) (c_isi g (.str _) (.ty _) kit_same) T.isinstance (by decide +kernel))))
    (dss_cons (ds_set 2 (de_of (de_bm PySem.F.plainAttrs_str PySem.F.slot_str_removeprefix PySem.F.type_str_removeprefix (de_var 1) (da_cons de_str da_nil) (m_removeprefix hlen)) (congrArg D.str (sgn_prefix hL))) g.nd) (cn
    (dss_skip (dt_not (dt_val (de_call g ca (da_cons (de_var 2) da_nil) ⟨L, hL, rfl, rfl, rfl⟩)))
    (dss_cons (ds_fldNew (de_var 2) (de_var 0) T2.ci.cl T2.nL hj) (cn
    (dss_cons (ds_fldNew (de_if (r := .v (.p (.int s))) (k := decide (s < 0)) (dt_of (dt_val (de_bm PySem.F.plainAttrs_str PySem.F.slot_str_startswith PySem.F.type_str_startswith (de_var 1) (da_cons de_str da_nil) m_startswith)) (sgn_starts hL)) (fun h => de_of (de_un de_int u_neg) (congrArg D.int ?_)) (fun h => de_of de_int (congrArg D.int ?_))) (de_var 0) T2.ci.cl T2.nS (List.getElem?_set_self (List.getElem?_eq_some_iff.mp hj).1)) (cn dss_nil))))))), ?_⟩
  · rcases hs with rfl | rfl
    · simp at h
    · rfl
  · rcases hs with rfl | rfl
    · rfl
    · simp at h
  · rw [List.set_set]
    exact .nx
theorem ok_isturn (F : Fun K "is_turn" "is_turn" sIsTurn f fd) : FnOk P w K mg base (L2.CX P w) 1 f fd ["step"] (spD K rIsTurn) := by
  refine fn_D (k := 0) F scIsTurn (fun ss μ r μ' h => by obtain ⟨l, rfl, _⟩ := h; rfl) ?_
  intro cdv A outer s H E N W ss μ r μ' g hA hR
  obtain ⟨l, rfl, rfl, rfl⟩ := hR
  cases l with
  | ab q s L => exact ⟨_, dss_ret (de_of (de_cmp (de_ix (de_var 0) de_int (i_tup (i := 0) g rfl)) de_str o_eqS) (congrArg D.bl (by cases q <;> (show decide _ = false; decide +kernel)))), .rt⟩
  | h a => exact ⟨_, dss_ret (de_of (de_cmp (de_ix (de_var 0) de_int (i_tup (i := 0) g rfl)) de_str o_eqS) (congrArg D.bl (by show decide _ = false; decide +kernel))), .rt⟩
  | pr k a b =>
    refine ⟨_, dss_ret (de_of (de_cmp (de_ix (de_var 0) de_int (i_tup (i := 0) g rfl)) de_str o_eqS) (congrArg D.bl ?_)), .rt⟩
    show decide _ = false
    unfold pn
    split
    · decide +kernel
    · split <;> decide +kernel
  | tn s L ps => exact ⟨_, dss_ret (de_of (de_cmp (de_ix (de_var 0) de_int (i_tup (i := 0) g rfl)) de_str o_eqS) (congrArg D.bl (by show decide _ = true; decide +kernel))), .rt⟩
theorem ok_isabout (F : Fun K "_is_about" "_is_about" sIsAbout f fd) (T : TM mg) (ca : Cf P w K mg base 1 "are_letters" [] rAre) : FnOk P w K mg base (L2.CX P w) 2 f fd ["text", "wires"] (spD K rIsAbout) := by
  refine fn_D (k := 1) F scIsAbout (fun ss μ r μ' h => by obtain ⟨_, _, _, _, _, rfl, _⟩ := h; rfl) ?_
  intro cdv A outer s0 H E N W ss μ r μ' g hA hR
  obtain ⟨n, s, L, hn, ⟨hL, hs, rfl, hne⟩, rfl, rfl, rfl⟩ := hR
  have h4 := hL.four
  have h1 := hL.one
  have e1 := sgn_prefix (s := s) hL
  rw [sgn_sgL] at e1
  refine ⟨_, dss_cons (ds_set 2 (de_of (de_bm PySem.F.plainAttrs_str PySem.F.slot_str_removeprefix PySem.F.type_str_removeprefix (de_var 0) (da_cons de_str da_nil) (m_removeprefix ?hl)) (congrArg D.str e1)) g.nd) (cn
    (dss_ret (de_of (d' := .bl true) (de_and (k := true) (k' := true) (de_of (de_cmp (de_callB (id := "len") (da_cons (de_var 2) da_nil) (c_lenS (by rw [st_len]; exact size4 (by omega))) T.len (by decide +kernel)) (de_var 1) o_eqI) ?e1) (fun _ => de_and (k := true) (k' := true) (de_call g ca (da_cons (de_var 2) da_nil) ⟨L, hL, rfl, rfl, rfl⟩) (fun _ => de_one (de_of (de_cmp (de_var 2) (de_bin de_str (de_var 1) (o_mulSn (c := 73) ⟨h1, h4⟩)) o_neS) ?e2)))) rfl))), .rt⟩
  case hl =>
    rw [st_len]
    unfold sgL
    split
    · exact size4 (by rw [List.length_cons]; omega)
    · exact size4 (by omega)
  case e1 => rw [st_len]; simp
  case e2 => exact congrArg D.bl (st_ne hne)
theorem ok_wires (F : Fun K "_are_wires" "_are_wires" sWires f fd) (T : TM mg) (Z : TG w K mg aS aT aW aA aP) : FnOk P w K mg base (L2.CX P w) 1 f fd ["texts", "wires"] (spD K rWires) := by
  refine fn_D (k := 0) F scWires (fun ss μ r μ' h => by obtain ⟨_, _, _, _, _, _, _, rfl, _⟩ := h; rfl) ?_
  intro cdv A outer s0 H E N W ss μ r μ' g hA hR
  obtain ⟨n, as, h1, h4, hl, hnd, hlt, rfl, rfl, rfl⟩ := hR
  have hu : (uniqN (as.map fun a => st [48 + a])).length = as.length := by
    rw [uniq_nodup ?_ (by rw [List.length_map]; omega), List.length_map]
    refine List.Pairwise.map _ (fun a b hab e => hab ?_) hnd
    have := st_inj.mp e
    simpa using this
  have hin : ∀ a ∈ as, decide (st [48 + a] ∈ ([st [48], st [49], st [50], st [51]] : List Str).take n) = true := fun a ha => by
    have := hlt a ha
    refine decide_eq_true ?_
    match n, a, this, h4 with
    | 1, 0, _, _ => simp
    | 2, 0, _, _ => simp
    | 2, 1, _, _ => simp
    | 3, 0, _, _ => simp
    | 3, 1, _, _ => simp
    | 3, 2, _, _ => simp
    | 4, 0, _, _ => simp
    | 4, 1, _, _ => simp
    | 4, 2, _, _ => simp
    | 4, 3, _, _ => simp
  refine ⟨_, dss_ret (de_of (d' := .bl true) (de_and (k := true) (k' := true) (de_of (de_callB (id := "all") (da_cons (de_lc g [("text", 2)] (di_lst g (de_var 0)) (fun s H C cl fp => dg_name 2 g.nd) (of_maps (gd := fun a => .str (st [48 + a])) (fy := fun a => .bl (decide (st [48 + a] ∈ ([st [48], st [49], st [50], st [51]] : List Str).take n))) fun a ha => ⟨_, rfl, fun s H C cl fp N' hK g' => de_cmp (de_var 2) (de_of (d' := .tup ((([st [48], st [49], st [50], st [51]] : List Str).take n).map D.str)) (de_cutTt g' (de_globT g' Z.gW Z.tW.sq) (de_var 1)) ?cut) (o_inStrT g')⟩) (ok := blkOk_by (by rfl)) (hds := by rw [List.length_map]; exact size4' (by omega))) da_nil) (c_allm g) T.all (by decide +kernel)) ?all) (fun _ => de_one (de_of (de_cmp (de_lenSet (zs := as.map fun a => st [48 + a]) g (de_of (de_var 0) ?ls) (by rw [List.length_map]; omega) T.len T.set) (de_callB (id := "len") (da_cons (de_var 0) da_nil) (c_lenL g) T.len (by decide +kernel)) o_eqI) ?len))) rfl), .rt⟩
  case cut => rw [cutX_to, List.map_take]
  case all =>
    rw [show (as.all fun a => decide (st [48 + a] ∈ ([st [48], st [49], st [50], st [51]] : List Str).take n)) = true from List.all_eq_true.mpr hin]
  case ls => rw [List.map_map]; rfl
  case len =>
    rw [hu, digs, List.length_map]
    simp
theorem de_word {X : Cx} {N : En} {W : WX} {n : Nat} {δ : List (Option S)} {μ μ1 : List M} {e : Expr} {p pos : Pos} {L : List Nat} {s : Int} (g : Go X N W n) (ci : Ci X.prog X.w X.K X.mg X.base 2 C "Word" [] (rInit C)) (hL : okL L) (hs : pm s) (h : DE X N W δ μ e (.v (.p (.str (sgn L s)))) μ1) (hk : 2 + 1 ≤ n := by decide) (hg : Gl X "Word" := by rfl)
    (he : starEach [e] X.env = (false, eval e X.env) :: starEach [] X.env := by rfl) (hpl : (backTo pos (starEach [] X.env)).any (·.1) = false := by rfl) : DE X N W δ μ (.Call (.Name "Word" p) [e] [] pos) (.v (.p (wd C L s))) μ1 := by
  refine de_make g ci (da_cons h da_nil he) (μ0 := (μ1 ++ [M.obj C [] []]).set μ1.length (M.obj C wF [.str (st L), .int s])) ⟨μ1.length, L, s, hL, hs, rfl, by simp, rfl, rfl⟩ (List.getElem?_set_self (by simp)) ?_ hk hg (by decide) he hpl
  rw [List.set_append_right _ _ (Nat.le_refl _)]
  simp
theorem ok_rabout (F : Fun K "_read_about" "_read_about" sAbout f fd) (T : TM mg) (T2 : TC K mg C) (ca : Cf P w K mg base 2 "_is_about" [] rIsAbout) (ci : Ci P w K mg base 2 C "Word" [] (rInit C)) : FnOk P w K mg base (L2.CX P w) 4 f fd ["name", "rest", "wires"] (spD K rAbout) := by
  refine fn_D (k := 3) F scAbout (fun ss μ r μ' h => by obtain ⟨_, _, _, _, _, _, rfl, _⟩ := h; rfl) ?_
  intro cdv A outer s0 H E N W ss μ r μ' g hA hR
  obtain ⟨n, q, s, L, hn, hw, rfl, rfl, rfl⟩ := hR
  refine ⟨_, dss_skip (dt_w (dw_or (k := false) (k' := false) (dt_of (dt_cmp (de_callB (id := "len") (da_cons (de_var 1) da_nil) (c_lenL g) T.len (by decide +kernel)) de_int o_neI) rfl) (fun _ => dw_or1 (dt_not (dt_val (de_call g ca (da_cons (de_ix (de_var 1) de_int (i_lst g rfl)) (da_cons (de_var 2) da_nil)) ⟨n, s, L, hn, hw, rfl, rfl, rfl⟩))))))
    (dss_cons (ds_set 3 (de_word g ci hw.okL hw.pm (de_of (de_ix (de_var 1) de_int (i_lst g rfl)) (congrArg D.str (sgn_sgL L s).symm))) g.nd) (cn
    (dss_ret (de_tup (dp_cons (de_var 0) (dp_cons (de_fld (de_var 3) g T2.ci.cl T2.nL) (dp_cons (de_fld (de_var 3) g T2.ci.cl T2.nS) dp_nil))))))), .rt⟩
end
end K58F
set_option Elab.async false
set_option linter.all false
set_option maxRecDepth 100000
set_option maxHeartbeats 4000000
set_option autoImplicit false
namespace K58F
open PySem PySem.Spec PyProof.Rows L2 Dl Cq
theorem scTurn : FnScope ["rest", "wires", "about", "by", "pairs", "times", "knobs", "many", "knob", "word", "form"] ["rest", "wires"] (defScope sTurn) := ⟨rfl, rfl, rfl, by decide +kernel, rfl, by decide +kernel, by decide +kernel⟩
theorem scReadL : FnScope ["line", "wires", "name", "rest"] ["line", "wires"] (defScope sReadL) := ⟨rfl, rfl, rfl, by decide +kernel, rfl, by decide +kernel, by decide +kernel⟩
theorem scReadC : FnScope ["text", "first", "lines", "wires", "steps", "turns", "number", "line", "step"] ["text"] (defScope sReadC) := ⟨rfl, rfl, rfl, by decide +kernel, rfl, by decide +kernel, by decide +kernel⟩
abbrev wsD (ws : List (List Nat)) : List D := ws.map fun v => .str (st v)
def rTurn : Rel := fun ss μ r μ' => ∃ w s L ps, w ≤ 4 ∧ okLn w (.tn s L ps) ∧ ss = [.p (.lst (wsD ((lw (.tn s L ps)).drop 1))), .p (.int (w : Nat))] ∧ r = .v (.p (stpD (.tn s L ps))) ∧ μ' = μ
def rReadL : Rel := fun ss μ r μ' => ∃ w l, 1 ≤ w ∧ w ≤ 4 ∧ okLn w l ∧ ss = [.p (.str (st (lt l))), .p (.int (w : Nat))] ∧ r = .v (.p (stpD l)) ∧ μ' = μ
abbrev lnsD (ls : List Ln) : List D := ls.map fun l => .str (st (lt l))
def rReadC : Rel := fun ss μ r μ' => ∃ w ls, okC w ls ∧ ss = [.p (.str (st (ct w ls)))] ∧ r = .v (.p (.tup [.int (w : Nat), .tup (lnsD ls), .tup (ls.map stpD)])) ∧ μ' = μ
theorem okP_nm {p : List Nat × Int} (h : okNm p.1) : okP (pairS p) := by
  show (st p.1).cps.all (· < 0x110000) = true
  rw [Array.all_eq_true_iff_forall_mem]
  intro c hc
  have := h.az c (by simpa [Dl.st] using hc)
  simp only [decide_eq_true_eq]
  omega
theorem st_inj' : ∀ {ks : List (List Nat)}, ks.Nodup → (ks.map st).Nodup := fun {ks} h => List.Pairwise.map _ (fun a b hab e => hab (st_inj.mp e)) h
theorem split_is {w : Nat} {l : Ln} (hw : w ≤ 4) (h : okLn w l) : (Txt.split (st (lt l)) (Str.ofString " ")).map D.str = wsD (lw l) := by
  have e : Txt.split (st (lt l)) (Str.ofString " ") = (TL.spl [32] 0 [] (lt l)).map st := SX.split_S (b := [32]) (by simp) (by decide)
  rw [e, split_lt hw h, List.map_map]
  rfl
theorem split_ls {w : Nat} {ls : List Ln} (h : okC w ls) : (Txt.split (st (ct w ls)) (Str.ofString "\n")).map D.str = .str (st (wT w)) :: lnsD ls := by
  have e : Txt.split (st (ct w ls)) (Str.ofString "\n") = (TL.spl [10] 0 [] (ct w ls)).map st := SX.split_S (b := [10]) (by simp) (by decide)
  rw [e, split_ct h, List.map_cons, List.map_cons, List.map_map, List.map_map]
  rfl
theorem int_of {a : Nat} (h : a < 4) : PySem.intText? (st [48 + a]) = some ((a : Nat) : Int) := by
  have : ∀ a < 4, PySem.intText? (st [48 + a]) = some ((a : Nat) : Int) := by decide +kernel
  exact this a h
section
variable {P : Program} {w : World} {K : PySem.W.Frag} {mg : Str → Option Value} {base : Heap} {f C aS aT aW aA aP : Addr} {fd : FuncData}
theorem ok_rturn (F : Fun K "_read_turn" "_read_turn" sTurn f fd) (T : TM mg) (Z : TG w K mg aS aT aW aA aP) (T2 : TC K mg C) (ca : Cf P w K mg base 2 "_is_about" [] rIsAbout) (ci : Ci P w K mg base 2 C "Word" [] (rInit C)) (cn_ : Cf P w K mg base 1 "is_name" [] rName) (cas : Cf P w K mg base 2 "ascending" [] rAsc) : FnOk P w K mg base (L2.CX P w) 4 f fd ["rest", "wires"] (spD K rTurn) := by
  refine fn_D (k := 3) F scTurn (fun ss μ r μ' h => by obtain ⟨_, _, _, _, _, _, rfl, _⟩ := h; rfl) ?_
  intro cdv A outer s0 H E N W ss μ r μ' g hA hR
  obtain ⟨n, s, L, ps, hn, hok, rfl, rfl, rfl⟩ := hR
  obtain ⟨hw, h1, h3, hnd, hps⟩ := hok
  obtain ⟨u3, hu3, ru3⟩ := Z.mkn
  obtain ⟨es, m, Dk⟩ := Z.kT
  have hl2 : (ps.flatMap fun p => [mt p.2, p.1]).length = 2 * ps.length := flat_len _ _ ps
  have hpl : (wsD (ps.flatMap fun p => [mt p.2, p.1])).length ≤ 100000 := by rw [List.length_map, hl2]; omega
  have ev : evens (wsD (ps.flatMap fun p => [mt p.2, p.1])) = ps.map fun p => .str (st (mt p.2)) := by
    have := evens_pairs (fun p : List Nat × Int => D.str (st (mt p.2))) (fun p => .str (st p.1)) ps
    rw [← this]
    congr 1
    simp [List.map_flatMap]
  have od : evens ((wsD (ps.flatMap fun p => [mt p.2, p.1])).drop 1) = ps.map fun p => .str (st p.1) := by
    have := evens_pairs' (fun p : List Nat × Int => D.str (st (mt p.2))) (fun p => .str (st p.1)) ps
    rw [← this]
    congr 2
    simp [List.map_flatMap]
  have hu : (uniqN (ps.map fun p => st p.1)).length = ps.length := by
    rw [show (ps.map fun p => st p.1) = (ps.map (·.1)).map st by simp [List.map_map, Function.comp_def], uniq_nodup (st_inj' hnd) (by simp; omega)]
    simp
  refine ⟨_, dss_skip (dt_w (dw_or (k := false) (k' := false) (dt_of (dt_cmp (de_callB (id := "len") (da_cons (de_var 0) da_nil) (c_lenL g) T.len (by decide +kernel)) de_int o_lt) ?c1) (fun _ => dw_or (k := false) (k' := false) (dt_of (dt_cmp (de_callB (id := "len") (da_cons (de_var 0) da_nil) (c_lenL g) T.len (by decide +kernel)) (de_bin de_int (de_bin de_int (de_glob hu3 ru3 (fun _ _ => .int 3)) (o_mul (.inl (by decide)))) o_add) o_gt) ?c2) (fun _ => dw_or1 (dt_of (dt_cmp (de_bin (de_callB (id := "len") (da_cons (de_var 0) da_nil) (c_lenL g) T.len (by decide +kernel)) de_int (o_mod (by decide))) de_int o_neI) ?c3)))))
    (dss_cons (ds_star 2 g (de_var 0) (dgs_cons (dg_name 2 g.nd) (dgs_cons (dg_name 3 g.nd) (dgs_last (dg_name 4 g.nd)))) ?l2 rfl) (cn
    (dss_cons (ds_par 5 6 g (da_cons (de_of (d' := .lst (ps.map fun p => .str (st (mt p.2)))) (de_even g (de_var 4) hpl) (congrArg D.lst ev)) (da_cons (de_of (d' := .lst (ps.map fun p => .str (st p.1))) (de_odd g (de_var 4) hpl) (congrArg D.lst od)) da_nil))) (cn
    (dss_skip (dt_w (dw_or (k := false) (k' := false) (dt_of (dt_cmp (de_var 3) de_str o_neS) ?c4) (fun _ => dw_or (k := false) (k' := false) (dt_not (dt_val (de_call g ca (da_cons (de_var 2) (da_cons (de_var 1) da_nil)) ⟨n, s, L, hn, hw, rfl, rfl, rfl⟩))) (fun _ => dw_or1 (dt_of (dt_not (dt_val (de_callB (id := "all") (da_cons (de_lc g [("many", 7)] (di_lst g (de_var 5)) (fun s H C cl fp => dg_name 7 g.nd) (of_maps (gd := fun p : List Nat × Int => D.str (st (mt p.2))) (fy := fun _ => .bl true) fun p hp => ⟨_, rfl, fun s H C cl fp N' hK g' => ?in1⟩) (ok := blkOk_by (by rfl)) (hds := by rw [List.length_map]; exact sz' (by omega))) da_nil) (c_allm (q := fun _ => true) g) T.all (by decide +kernel)))) ?c5)))))
    (dss_skip (dt_w (dw_or (k := false) (k' := false) (dt_of (dt_not (dt_val (de_callB (id := "all") (da_cons (de_lc g [("knob", 8)] (di_lst g (de_var 6)) (fun s H C cl fp => dg_name 8 g.nd) (of_maps (gd := fun p : List Nat × Int => D.str (st p.1)) (fy := fun _ => .bl true) fun p hp => ⟨_, rfl, fun s H C cl fp N' hK g' => de_call g' cn_ (da_cons (de_var 8) da_nil) ⟨p.1, (hps p hp).1, rfl, rfl, rfl⟩⟩) (ok := blkOk_by (by rfl)) (hds := by rw [List.length_map]; exact sz' (by omega))) da_nil) (c_allm (q := fun _ => true) g) T.all (by decide +kernel)))) ?c6) (fun _ => dw_or1 (dt_of (dt_cmp (de_lenSet (zs := ps.map fun p => st p.1) g (de_of (de_var 6) ?ls) (by rw [List.length_map]; omega) T.len T.set) (de_callB (id := "len") (da_cons (de_var 6) da_nil) (c_lenL g) T.len (by decide +kernel)) o_neI) ?c7))))
    (dss_cons (ds_set 9 (de_word g ci hw.okL hw.pm (de_of (de_var 2) (congrArg D.str (sgn_sgL L s).symm))) g.nd) (cn
    (dss_cons (ds_set 10 (de_call (r := .v (.p (.tup ((formF ps).map Dl.pairD)))) g cas (da_cons (s := .p (.lst ((ps.map pairS).map Dl.pairD))) (de_of (de_lc g [("many", 7), ("knob", 8)] (di_of (di_zip g (da_cons (de_var 5) (da_cons (de_var 6) da_nil)) (.lst _) (.lst _) T.zip) (zip_self _ _ ps)) (fun s H C cl fp => dg_tup (dgs_cons (dg_name 7 g.nd) (dgs_cons (dg_name 8 g.nd) dgs_nil)) g.hK g.calm) (of_maps (gd := fun p : List Nat × Int => D.tup [.str (st (mt p.2)), .str (st p.1)]) (fy := fun p => Dl.pairD (pairS p)) fun p hp => ⟨_, rfl, fun s H C cl fp N' hK g' => ?el⟩) (ok := blkOk_by (by rfl)) (hds := by rw [List.length_map]; exact sz' (by omega))) ?ec) da_nil) (.inr ⟨rfl, ps.map pairS, ?oks, by rw [List.length_map]; omega, rfl, rfl⟩)) g.nd) (cn
    (dss_ret (de_tup (dp_cons de_str (dp_cons (de_fld (de_var 9) g T2.ci.cl T2.nL) (dp_cons (de_fld (de_var 9) g T2.ci.cl T2.nS) (dp_cons (de_var 10) dp_nil)))))))))))))))), .rt⟩
  case c1 => exact decide_eq_false (by show ¬ ((((wsD ((lw (.tn s L ps)).drop 1)).length : Nat) : Int) < 4); simp only [lw, List.drop_succ_cons, List.drop_zero, List.length_map, List.length_cons, hl2]; omega)
  case c2 => exact decide_eq_false (by show ¬ (2 + 2 * 3 < (((wsD ((lw (.tn s L ps)).drop 1)).length : Nat) : Int)); simp only [lw, List.drop_succ_cons, List.drop_zero, List.length_map, List.length_cons, hl2]; omega)
  case c3 =>
    show (!decide ((((wsD ((lw (.tn s L ps)).drop 1)).length : Nat) : Int) % 2 = 0)) = false
    rw [decide_eq_true (by simp only [lw, List.drop_succ_cons, List.drop_zero, List.length_map, List.length_cons, hl2]; omega)]
    rfl
  case l2 => simp [lw]
  case c4 => decide +kernel
  case in1 =>
    obtain ⟨u, hu1, hu2⟩ := Z.nT p.2 (hps p hp).2
    exact de_cmp (de_var 7) (de_glob (v := .ref aT) Z.gT rfl (fun _ _ => .adr _)) (o_inKd (r := some u) Dk hu1)
  case c5 => simp
  case c6 => simp
  case ls => rw [List.map_map]; rfl
  case c7 =>
    rw [hu, List.length_map]
    simp
  case el =>
    obtain ⟨u, hu1, hu2⟩ := Z.nT p.2 (hps p hp).2
    exact de_tup (dp_cons (de_var 8) (dp_cons (de_kdIx Dk (de_glob (v := .ref aT) Z.gT rfl (fun _ _ => .adr _)) (de_var 7) hu1 hu2 (fun _ _ => .int _)) dp_nil)) (sz (by show 2 ≤ 100000; decide))
  case ec => rw [List.map_map]; rfl
  case oks =>
    intro x hx
    obtain ⟨p, hp, rfl⟩ := List.mem_map.mp hx
    exact okP_nm (hps p hp).1
end
end K58F
set_option Elab.async false
set_option linter.all false
set_option maxRecDepth 100000
set_option maxHeartbeats 4000000
set_option autoImplicit false
namespace K58F
open PySem PySem.Spec PyProof.Rows L2 Dl Cq
def bodyOf (s : Stmt) (i : Nat) : List Stmt := match (defBody s).getD i (.Pass ⟨0, 0, 0, 0⟩) with
  | .For _ _ b _ _ => b
  | _ => []
def cntT (ls : List Ln) : Nat := (ls.filter isT).length
theorem cnt_snoc (ls : List Ln) (l : Ln) : cntT (ls ++ [l]) = cntT ls + (if isT l then 1 else 0) := by
  unfold cntT
  rw [List.filter_append, List.length_append]
  congr 1
  rw [List.filter_cons]
  split <;> rfl
theorem cnt_le {ls done rest : List Ln} (h : ls = done ++ rest) : cntT done ≤ cntT ls := by
  subst h
  unfold cntT
  rw [List.filter_append, List.length_append]
  omega
theorem isNon_stp (l : Ln) : Dl.isNon (stpD l) = false := by cases l <;> rfl
section
variable {P : Program} {w : World} {K : PySem.W.Frag} {mg : Str → Option Value} {base : Heap} {f C aS aT aW aA aP : Addr} {fd : FuncData}
theorem ok_readl (F : Fun K "read_line" "read_line" sReadL f fd) (T : TM mg) (Z : TG w K mg aS aT aW aA aP) (ct_ : Cf P w K mg base 4 "_read_turn" [] rTurn) (ca : Cf P w K mg base 4 "_read_about" [] rAbout) (cw : Cf P w K mg base 1 "_are_wires" [] rWires) : FnOk P w K mg base (L2.CX P w) 5 f fd ["line", "wires"] (spD K rReadL) := by
  refine fn_D (k := 4) F scReadL (fun ss μ r μ' h => by obtain ⟨_, _, _, _, _, rfl, _⟩ := h; rfl) ?_
  intro cdv A outer s0 H E N W ss μ r μ' g hA hR
  obtain ⟨n, l, h1, h4, hok, rfl, rfl, rfl⟩ := hR
  have hlen := lt_len hok
  have hs := split_is h4 hok
  have hz : (st (lt l)).length + 2 ≤ sizeLine := by rw [st_len]; exact sz (by omega)
  cases l with
  | ab q s L =>
    have hn : ∀ z, z ≠ (if q = true then wQuarter else wFlip) → decide (st (if q = true then wQuarter else wFlip) = st z) = false := fun z hz => st_no (Ne.symm hz)
    exact ⟨_, dss_skip (dt_not (dt_val (de_callB (id := "isinstance") (da_cons (de_var 0) (da_cons (de_ty T.str (by decide +kernel)) da_nil)) (c_isi g (.str _) (.ty _) kit_same) T.isinstance (by decide +kernel))))
      (dss_cons (ds_star 1 g (de_of (d' := .lst (wsD (lw (.ab q s L)))) (de_bm PySem.F.plainAttrs_str PySem.F.slot_str_split PySem.F.type_str_split (de_var 0) (da_cons de_str da_nil) (m_split (by decide) hz)) (congrArg D.lst hs)) (dgs_cons (dg_name 2 g.nd) (dgs_last (dg_name 3 g.nd))) (by simp [lw]) rfl) (cn
      (dss_skip (dt_of (dt_cmp (de_var 2) de_str o_eqS) (hn wTurn (by cases q <;> decide)))
      (dss_ifT (dt_of (dt_cmp (de_var 2) (de_globT g Z.gA Z.tA.sq) (o_inStrT g)) (decide_eq_true (by cases q <;> simp))) (dss_ret (de_call g ca (da_cons (de_var 2) (da_cons (de_var 3) (da_cons (de_var 1) da_nil))) ⟨n, q, s, L, h4, hok, rfl, rfl, rfl⟩)) cr)))), .rt⟩
  | h a =>
    have ha : a < n := hok
    exact ⟨_, dss_skip (dt_not (dt_val (de_callB (id := "isinstance") (da_cons (de_var 0) (da_cons (de_ty T.str (by decide +kernel)) da_nil)) (c_isi g (.str _) (.ty _) kit_same) T.isinstance (by decide +kernel))))
      (dss_cons (ds_star 1 g (de_of (d' := .lst (wsD (lw (.h a)))) (de_bm PySem.F.plainAttrs_str PySem.F.slot_str_split PySem.F.type_str_split (de_var 0) (da_cons de_str da_nil) (m_split (by decide) hz)) (congrArg D.lst hs)) (dgs_cons (dg_name 2 g.nd) (dgs_last (dg_name 3 g.nd))) (by simp [lw]) rfl) (cn
      (dss_skip (dt_of (dt_cmp (de_var 2) de_str o_eqS) (by decide +kernel))
      (dss_skip (dt_of (dt_cmp (de_var 2) (de_globT g Z.gA Z.tA.sq) (o_inStrT g)) (by decide +kernel))
      (dss_ifT (dt_w (k := true) (dw_and (k := true) (k' := true) (dt_of (dt_cmp (de_var 2) de_str o_eqS) (by decide +kernel)) (fun _ => dw_and (k := true) (k' := true) (dt_of (dt_cmp (de_callB (id := "len") (da_cons (de_var 3) da_nil) (c_lenL g) T.len (by decide +kernel)) de_int o_eqI) rfl) (fun _ => dw_and1 (dt_val (de_call g cw (da_cons (de_var 3) (da_cons (de_var 1) da_nil)) ⟨n, [a], h1, h4, by simp, by simp, by simpa using ha, rfl, rfl, rfl⟩)))))) (dss_ret (de_tup (dp_cons (de_var 2) (dp_cons (de_callT (T := "int") (da_cons (de_ix (de_var 3) de_int (i_lst g rfl)) da_nil) (c_intT (int_of (by omega)) (by show 1 ≤ 640; decide)) T.int (by decide +kernel)) dp_nil)))) cr))))), .rt⟩
  | pr k a b =>
    obtain ⟨hk, ha, hb, hab⟩ := id hok
    have hpn : ∀ z, (∀ k < 3, z ≠ pn k) → decide (st (pn k) = st z) = false := fun z hz => st_no (Ne.symm (hz k hk))
    have hk3 : k = 0 ∨ k = 1 ∨ k = 2 := by omega
    exact ⟨_, dss_skip (dt_not (dt_val (de_callB (id := "isinstance") (da_cons (de_var 0) (da_cons (de_ty T.str (by decide +kernel)) da_nil)) (c_isi g (.str _) (.ty _) kit_same) T.isinstance (by decide +kernel))))
      (dss_cons (ds_star 1 g (de_of (d' := .lst (wsD (lw (.pr k a b)))) (de_bm PySem.F.plainAttrs_str PySem.F.slot_str_split PySem.F.type_str_split (de_var 0) (da_cons de_str da_nil) (m_split (by decide) hz)) (congrArg D.lst hs)) (dgs_cons (dg_name 2 g.nd) (dgs_last (dg_name 3 g.nd))) (by simp [lw]) rfl) (cn
      (dss_skip (dt_of (dt_cmp (de_var 2) de_str o_eqS) (hpn wTurn (by decide)))
      (dss_skip (dt_of (dt_cmp (de_var 2) (de_globT g Z.gA Z.tA.sq) (o_inStrT g)) (by rcases hk3 with rfl | rfl | rfl <;> decide +kernel))
      (dss_skip (dt_w (k := false) (dw_and (k := false) (k' := true) (dt_of (dt_cmp (de_var 2) de_str o_eqS) (hpn [104] (by decide))) (fun h => by cases h)))
      (dss_ifT (dt_w (k := true) (dw_and (k := true) (k' := true) (dt_of (dt_cmp (de_var 2) (de_globT g Z.gP Z.tP.sq) (o_inStrT g)) (decide_eq_true (by rcases hk3 with rfl | rfl | rfl <;> simp))) (fun _ => dw_and (k := true) (k' := true) (dt_of (dt_cmp (de_callB (id := "len") (da_cons (de_var 3) da_nil) (c_lenL g) T.len (by decide +kernel)) de_int o_eqI) rfl) (fun _ => dw_and1 (dt_val (de_call g cw (da_cons (de_var 3) (da_cons (de_var 1) da_nil)) ⟨n, [a, b], h1, h4, by simp, by simpa using hab, by simpa using ⟨ha, hb⟩, rfl, rfl, rfl⟩)))))) (dss_ret (de_tup (dp_cons (de_var 2) (dp_cons (de_callT (T := "int") (da_cons (de_ix (de_var 3) de_int (i_lst g rfl)) da_nil) (c_intT (int_of (by omega)) (by show 1 ≤ 640; decide)) T.int (by decide +kernel)) (dp_cons (de_callT (T := "int") (da_cons (de_ix (de_var 3) de_int (i_lst g rfl)) da_nil) (c_intT (int_of (by omega)) (by show 1 ≤ 640; decide)) T.int (by decide +kernel)) dp_nil))))) cr)))))), .rt⟩
  | tn s L ps =>
    exact ⟨_, dss_skip (dt_not (dt_val (de_callB (id := "isinstance") (da_cons (de_var 0) (da_cons (de_ty T.str (by decide +kernel)) da_nil)) (c_isi g (.str _) (.ty _) kit_same) T.isinstance (by decide +kernel))))
      (dss_cons (ds_star 1 g (de_of (d' := .lst (wsD (lw (.tn s L ps)))) (de_bm PySem.F.plainAttrs_str PySem.F.slot_str_split PySem.F.type_str_split (de_var 0) (da_cons de_str da_nil) (m_split (by decide) hz)) (congrArg D.lst hs)) (dgs_cons (dg_name 2 g.nd) (dgs_last (dg_name 3 g.nd))) (by simp [lw]) rfl) (cn
      (dss_ifT (dt_of (dt_cmp (de_var 2) de_str o_eqS) (by decide +kernel)) (dss_ret (de_call g ct_ (da_cons (de_var 3) (da_cons (de_var 1) da_nil)) ⟨n, s, L, ps, h4, hok, rfl, rfl, rfl⟩)) cr))), .rt⟩
abbrev rcN : List Str := ["text", "first", "lines", "wires", "steps", "turns", "number", "line", "step"]
theorem ok_readc (F : Fun K "read_circuit" "read_circuit" sReadC f fd) (T : TM mg) (Z : TG w K mg aS aT aW aA aP) (cr_ : Cf P w K mg base 5 "read_line" [] rReadL) (ci : Cf P w K mg base 1 "is_turn" [] rIsTurn) : FnOk P w K mg base (L2.CX P w) 6 f fd ["text"] (spD K rReadC) := by
  refine fn_D (k := 5) F scReadC (fun ss μ r μ' h => by obtain ⟨_, _, _, rfl, _⟩ := h; rfl) ?_
  intro cdv A outer s0 H E N W ss μ r μ' g hA hR
  obtain ⟨n, ls, hok, rfl, rfl, rfl⟩ := hR
  obtain ⟨u1, hu1, ru1⟩ := Z.mtn
  obtain ⟨u2, hu2, ru2⟩ := Z.mln
  obtain ⟨es, m, Dk⟩ := Z.kS
  obtain ⟨u3, hu3, ru3⟩ := Z.nS n hok.w1 hok.w4
  have hlen := ct_len hok
  have hz : (st (ct n ls)).length + 2 ≤ sizeLine := by rw [st_len]; exact sz (by omega)
  have hs := split_ls hok
  have go : ∀ (rest done : List Ln) (δ : List (Option S)), ls = done ++ rest → (∃ x6 x7 x8, δ = [some (.p (.str (st (ct n ls)))), some (.p (.str (st (wT n)))), some (.p (.lst (lnsD ls))), some (.p (.int (n : Nat))), some (.l μ'.length), some (.p (.int (cntT done : Nat))), x6, x7, x8]) →
      ∃ δ', Loop (cxOf (L2.CX P w) P w K mg base rcN "read_circuit" (defScope sReadC) f cdv A outer s0 H E) N W (asTup [asName 6, asName 7]) (bodyOf sReadC 6) (enumD done.length (lnsD rest)) δ (μ' ++ [.lst (done.map stpD)]) (.nx δ' (μ' ++ [.lst (ls.map stpD)])) ∧ (∃ x5 x6 x7 x8, δ' = [some (.p (.str (st (ct n ls)))), some (.p (.str (st (wT n)))), some (.p (.lst (lnsD ls))), some (.p (.int (n : Nat))), some (.l μ'.length), x5, x6, x7, x8]) := by
    intro rest
    induction rest with
    | nil =>
      rintro done _ he ⟨x6, x7, x8, rfl⟩
      rw [List.append_nil] at he
      subst he
      exact ⟨_, .nil, _, _, _, _, rfl⟩
    | cons l rest ih =>
      rintro done _ he ⟨x6, x7, x8, rfl⟩
      have hl : okLn n l := hok.ok l (by rw [he]; simp)
      have he' : ls = (done ++ [l]) ++ rest := by rw [he]; simp
      have hc := cnt_snoc done l
      have hc2 := cnt_le he'
      have h6 : cntT ls ≤ 6 := hok.six
      have hd : done.length < 40 := by have := hok.len; rw [he] at this; simp at this; omega
      obtain ⟨δ', h1, h2⟩ := ih (done ++ [l]) [some (.p (.str (st (ct n ls)))), some (.p (.str (st (wT n)))), some (.p (.lst (lnsD ls))), some (.p (.int (n : Nat))), some (.l μ'.length), some (.p (.int (cntT (done ++ [l]) : Nat))), some (.p (.int (done.length : Nat))), some (.p (.str (st (lt l)))), some (.p (stpD l))] he' ⟨_, _, _, rfl⟩
      refine ⟨δ', ?_, h2⟩
      rw [show (done ++ [l]).length = done.length + 1 by simp] at h1
      refine .next rfl ?_ h1
      have e1 : μ' ++ [M.lst ((done ++ [l]).map stpD)] = (μ' ++ [M.lst (done.map stpD)]).set μ'.length (.lst (done.map stpD ++ [stpD l])) := by rw [end_set rfl, List.map_append]; rfl
      have tail : ∀ (c : Nat), c = cntT (done ++ [l]) → DSs (cxOf (L2.CX P w) P w K mg base rcN "read_circuit" (defScope sReadC) f cdv A outer s0 H E) N W [some (.p (.str (st (ct n ls)))), some (.p (.str (st (wT n)))), some (.p (.lst (lnsD ls))), some (.p (.int (n : Nat))), some (.l μ'.length), some (.p (.int (c : Nat))), some (.p (.int (done.length : Nat))), some (.p (.str (st (lt l)))), some (.p (stpD l))] (μ' ++ [.lst (done.map stpD)]) ((bodyOf sReadC 6).drop 2) (.nx [some (.p (.str (st (ct n ls)))), some (.p (.str (st (wT n)))), some (.p (.lst (lnsD ls))), some (.p (.int (n : Nat))), some (.l μ'.length), some (.p (.int (cntT (done ++ [l]) : Nat))), some (.p (.int (done.length : Nat))), some (.p (.str (st (lt l)))), some (.p (stpD l))] (μ' ++ [.lst ((done ++ [l]).map stpD)])) := by
        rintro c rfl
        rw [e1]
        exact dss_skip (dt_w (dw_or (k := false) (k' := false) (dt_of (dt_cmp (de_var 8) de_non o_isN) (isNon_stp l)) (fun _ => dw_or (k := false) (k' := false) (dt_of (dt_cmp (de_var 5) (de_glob hu1 ru1 (fun _ _ => .int 6)) o_gt) (decide_eq_false (by omega))) (fun _ => dw_or1 (dt_of (dt_cmp (de_var 6) (de_glob hu2 ru2 (fun _ _ => .int 40)) o_eqI) (decide_eq_false (by omega)))))))
          (dss_cons (ds_expr (de_bm PySem.F.plainAttrs_list PySem.F.slot_list_append PySem.F.type_list_append (de_var 4) (da_cons (de_var 8) da_nil) (m_append (end_at rfl) (end_at rfl) (by rw [List.length_map]; exact sz' (by omega))))) (cn dss_nil))
      have hcond : ∀ b, isT l = b → DT (cxOf (L2.CX P w) P w K mg base rcN "read_circuit" (defScope sReadC) f cdv A outer s0 H E) N W [some (.p (.str (st (ct n ls)))), some (.p (.str (st (wT n)))), some (.p (.lst (lnsD ls))), some (.p (.int (n : Nat))), some (.l μ'.length), some (.p (.int (cntT done : Nat))), some (.p (.int (done.length : Nat))), some (.p (.str (st (lt l)))), some (.p (stpD l))] (μ' ++ [.lst (done.map stpD)]) (match (bodyOf sReadC 6).getD 1 (.Pass ⟨0, 0, 0, 0⟩) with | .If c _ _ _ => c | _ => .Constant .none 0 ⟨0, 0, 0, 0⟩) b (μ' ++ [.lst (done.map stpD)]) := by
        rintro b rfl
        exact dt_of (dt_w (dw_and (k := true) (k' := isT l) (dt_of (dt_cmp (de_var 8) de_non o_notN) (by rw [isNon_stp]; rfl)) (fun _ => dw_and1 (dt_val (de_call g ci (da_cons (de_var 8) da_nil) ⟨l, rfl, rfl, rfl⟩))))) (Bool.true_and _)
      cases hT : isT l with
      | true =>
        rw [hT, if_pos rfl] at hc
        exact dss_cons (ds_set 8 (de_call g cr_ (da_cons (de_var 7) (da_cons (de_var 3) da_nil)) ⟨n, l, hok.w1, hok.w4, hl, rfl, rfl, rfl⟩) g.nd) (cn (dss_ifT (hcond true hT) (dss_cons (ds_inc 5 de_int rfl g.nd) (cn dss_nil)) (cn (by
          have := tail (cntT done + 1) hc.symm
          rw [Int.natCast_add] at this
          exact this))))
      | false =>
        rw [hT, if_neg (by decide)] at hc
        exact dss_cons (ds_set 8 (de_call g cr_ (da_cons (de_var 7) (da_cons (de_var 3) da_nil)) ⟨n, l, hok.w1, hok.w4, hl, rfl, rfl, rfl⟩) g.nd) (cn (dss_skip (hcond false hT) (tail (cntT done) (by omega))))
  obtain ⟨δ', hl, x5, x6, x7, x8, rfl⟩ := go ls [] [some (.p (.str (st (ct n ls)))), some (.p (.str (st (wT n)))), some (.p (.lst (lnsD ls))), some (.p (.int (n : Nat))), some (.l μ'.length), some (.p (.int (0 : Nat))), none, none, none] rfl ⟨_, _, _, rfl⟩
  refine ⟨_, dss_skip (dt_not (dt_val (de_callB (id := "isinstance") (da_cons (de_var 0) (da_cons (de_ty T.str (by decide +kernel)) da_nil)) (c_isi g (.str _) (.ty _) kit_same) T.isinstance (by decide +kernel))))
    (dss_cons (ds_star 1 g (de_of (d' := .lst (.str (st (wT n)) :: lnsD ls)) (de_bm PySem.F.plainAttrs_str PySem.F.slot_str_split PySem.F.type_str_split (de_var 0) (da_cons de_str da_nil) (m_split (by decide) hz)) (congrArg D.lst hs)) (dgs_cons (dg_name 1 g.nd) (dgs_last (dg_name 2 g.nd))) (by simp) rfl) (cn
    (dss_skip (dt_cmp (de_var 1) (de_glob (v := .ref aS) Z.gS rfl (fun _ _ => .adr _)) (o_notInKd (r := some u3) Dk hu3))
    (dss_cons (ds_set 3 (de_kdIx Dk (de_glob (v := .ref aS) Z.gS rfl (fun _ _ => .adr _)) (de_var 1) hu3 ru3 (fun _ _ => .int _)) g.nd) (cn
    (dss_cons (ds_set 4 (de_lstM dp_nil) g.nd) (cn
    (dss_cons (ds_set 5 de_int g.nd) (cn
    (dss_cons (ds_for g (di_enum g (da_cons (de_var 2) da_nil) T.enum) (dg_tup (dgs_cons (dg_name 6 g.nd) (dgs_cons (dg_name 7 g.nd) dgs_nil)) g.hK g.calm) (by exact hl)) (cn
    (dss_freeze (end_at rfl) (by omega) 4 rfl
    (dss_ret (de_tup (dp_cons (de_var 3) (dp_cons (de_callT (T := "tuple") (da_cons (de_var 2) da_nil) c_tupL T.tuple (by decide +kernel)) (dp_cons (de_callT (T := "tuple") (da_cons (de_var 4) da_nil) c_tupL T.tuple (by decide +kernel)) dp_nil))))))))))))))))), ?_⟩
  rw [end_set rfl]
  have e2 : (μ' ++ [M.gone]).take μ'.length = μ' := by simp
  conv => rhs; rw [← e2]
  exact .rtT (Nat.le_refl _)
end
end K58F
set_option Elab.async false
set_option linter.all false
set_option maxRecDepth 100000
set_option maxHeartbeats 4000000
set_option autoImplicit false
namespace K58F
open PySem PySem.Spec PyProof.Rows L2 Dl Cq
theorem scCInit : FnScope ["self", "text", "wires", "lines", "steps", "step", "knob", "many", "number"] ["self", "text"] (defScope sCInit) := ⟨rfl, rfl, rfl, by decide +kernel, rfl, by decide +kernel, by decide +kernel⟩
structure TKc (K : PySem.W.Frag) (mg : Str → Option Value) (C : Addr) : Prop where
  ci : ClsI K C
  n1 : NoAttr K C "_text"
  n2 : NoAttr K C "_lines"
  n3 : NoAttr K C "steps"
  n4 : NoAttr K C "wires"
  n5 : NoAttr K C "knobs"
  n6 : NoAttr K C "turns"
  at_ : mg "Circuit" = some (.ref C)
abbrev cV (n : Nat) (ls : List Ln) : List D := [.str (st (ct n ls)), .tup (lnsD ls), .tup (ls.map stpD), .int (n : Nat), .tup ((knobsF ls).map D.str), .tup ((turnsF ls).map fun i => .int ((i : Nat) : Int))]
def rCInit (CC : Addr) : Rel := fun ss μ r μ' => ∃ (j n : Nat) (ls : List Ln), okC n ls ∧ ss = [.l j, .p (.str (st (ct n ls)))] ∧ μ[j]? = some (.obj CC [] []) ∧ r = .v (.p .non) ∧ μ' = μ.set j (.obj CC cF (cV n ls))
section
variable {P : Program} {w : World} {K : PySem.W.Frag} {mg : Str → Option Value} {base : Heap} {f C CC CL CM CO aS aT aW aA aP : Addr} {fd : FuncData}
theorem ok_cinit (F : Fun K "__init__" "Circuit.__init__" sCInit f fd) (T : TM mg) (TK : TKc K mg CC) (cr_ : Cf P w K mg base 6 "read_circuit" [] rReadC) (ci : Cf P w K mg base 1 "is_turn" [] rIsTurn) (cas : Cf P w K mg base 2 "ascending" [] rAsc) : FnOk P w K mg base (L2.CX P w) 7 f fd ["self", "text"] (spD K (rCInit CC)) := by
  refine fn_D (k := 6) F scCInit (fun ss μ r μ' h => by obtain ⟨_, _, _, _, rfl, _⟩ := h; rfl) ?_
  intro cdv A0 outer s0 H E N W ss μ r μ' g hA hR
  obtain ⟨j, n, ls, hok, rfl, hj, rfl, rfl⟩ := hR
  have hj2 : ∀ x, (μ.set j x)[j]? = some x := fun x => List.getElem?_set_self (List.getElem?_eq_some_iff.mp hj).1
  have hll : ls.length ≤ 40 := hok.len
  have hkl := knobs_len hok.ok
  have h6 := hok.six
  refine ⟨_, dss_cons (ds_asg (de_call g cr_ (da_cons (de_var 1) da_nil) ⟨n, ls, hok, rfl, rfl, rfl⟩) (dg_tup (dgs_cons (dg_name 2 g.nd) (dgs_cons (dg_name 3 g.nd) (dgs_cons (dg_name 4 g.nd) dgs_nil))) g.hK g.calm) rfl) (cn
    (dss_cons (ds_fldNew (de_var 1) (de_var 0) TK.ci.cl TK.n1 hj) (cn
    (dss_cons (ds_fldNew (de_var 3) (de_var 0) TK.ci.cl TK.n2 (hj2 _)) (cn
    (dss_cons (ds_fldNew (de_var 4) (de_var 0) TK.ci.cl TK.n3 (by simp only [List.set_set]; exact hj2 _)) (cn
    (dss_cons (ds_fldNew (de_var 2) (de_var 0) TK.ci.cl TK.n4 (by simp only [List.set_set]; exact hj2 _)) (cn
    (dss_cons (ds_fldNew (de_call (r := .v (.p (.tup ((knobsF ls).map D.str)))) g cas (da_cons (s := .p (.lst ((ls.flatMap formK).map D.str))) (de_of (de_lc2If isTD esT (fun _ e => fstD e) g [("step", 5), ("knob", 6), ("many", 7)] [6, 7] (di_tup g (de_var 4)) (fun s H C cl fp => dg_name 5 g.nd) (fun s H C cl fp => dg_tup (dgs_cons (dg_name 6 g.nd) (dgs_cons (dg_name 7 g.nd) dgs_nil)) g.hK g.calm) ?hf ?hz (ok := blkOk_by (by rfl))) (congrArg D.lst (flat_knobs ls))) da_nil) (.inl ⟨rfl, _, fun _ _ => trivial, by omega, rfl, rfl⟩)) (de_var 0) TK.ci.cl TK.n5 (by simp only [List.set_set]; exact hj2 _)) (cn
    (dss_cons (ds_fldNew (d := .tup ((turnsF ls).map fun i => .int ((i : Nat) : Int))) (de_callT (T := "tuple") (da_cons (de_lcIf g [("number", 8), ("step", 5)] (di_enumT g (da_cons (de_var 4) da_nil) T.enum) (fun s H C cl fp => dg_tup (dgs_cons (dg_name 8 g.nd) (dgs_cons (dg_name 5 g.nd) dgs_nil)) g.hK g.calm) (of_enum (fy := fun i => .int ((i : Nat) : Int)) 0 fun l hl i => ⟨_, rfl, fun s H C cl fp N' hK g' => dt_val (de_call g' ci (da_cons (de_var 5) da_nil) ⟨l, rfl, rfl, rfl⟩), fun _ => fun s H C cl fp N' hK g' => de_var 8⟩) (ok := blkOk_by (by rfl)) (hds := by rw [enumD_len, List.length_map]; exact sz' (by omega))) da_nil) c_tupL T.tuple (by decide +kernel)) (de_var 0) TK.ci.cl TK.n6 (by simp only [List.set_set]; exact hj2 _)) (cn dss_nil))))))))))))), ?_⟩
  case hz =>
    rw [flat_knobs, List.length_map]
    exact sz (by omega)
  case hf =>
    intro d hd
    obtain ⟨l, hl, rfl⟩ := List.mem_map.mp hd
    refine ⟨_, rfl, fun s H C cl fp N' hK g' => dt_of (dt_val (de_call g' ci (da_cons (de_var 5) da_nil) ⟨l, rfl, rfl, rfl⟩)) (isTD_stp l).symm, fun hb => ?_⟩
    rw [isTD_stp] at hb
    cases l with
    | tn s L ps =>
      refine ⟨fun s H C cl fp N' hK g' => di_tup g' (de_ix (de_var 5) de_int (i_tup (i := 3) g' rfl)), fun e he => ?_⟩
      obtain ⟨p, hp, rfl⟩ := List.mem_map.mp he
      exact ⟨_, rfl, fun s H C cl fp N' hK g' => de_var 6⟩
    | _ => cases hb
  · simp only [List.set_set]
    exact .nx
theorem de_circ {X : Cx} {N : En} {W : WX} {nn : Nat} {δ : List (Option S)} {μ μ1 : List M} {e : Expr} {p pos : Pos} {n : Nat} {ls : List Ln} (g : Go X N W nn) (ci : Ci X.prog X.w X.K X.mg X.base 7 CC "Circuit" [] (rCInit CC)) (hok : okC n ls) (h : DE X N W δ μ e (.v (.p (.str (st (ct n ls))))) μ1) (hk : 7 + 1 ≤ nn := by decide) (hg : Gl X "Circuit" := by rfl)
    (he : starEach [e] X.env = (false, eval e X.env) :: starEach [] X.env := by rfl) (hpl : (backTo pos (starEach [] X.env)).any (·.1) = false := by rfl) : DE X N W δ μ (.Call (.Name "Circuit" p) [e] [] pos) (.v (.p (circD CC n ls))) μ1 := by
  refine de_make g ci (da_cons h da_nil he) (μ0 := (μ1 ++ [M.obj CC [] []]).set μ1.length (M.obj CC cF (cV n ls))) ⟨μ1.length, n, ls, hok, rfl, by simp, rfl, rfl⟩ (List.getElem?_set_self (by simp)) ?_ hk hg (by decide) he hpl
  rw [List.set_append_right _ _ (Nat.le_refl _)]
  simp
end
end K58F
set_option Elab.async false
set_option linter.all false
set_option maxRecDepth 100000
set_option maxHeartbeats 4000000
set_option autoImplicit false
namespace K58
open PySem PySem.Spec PyProof.Rows L2 Dl Cq
/-! ### lines, their images, their Table -/
theorem scLone : FnScope ["letter", "at", "wires"] ["letter", "at", "wires"] (defScope sLone) := ⟨rfl, rfl, rfl, by decide +kernel, rfl, by decide +kernel, by decide +kernel⟩
theorem scFirst : FnScope ["wires", "at", "letter"] ["wires"] (defScope sFirstWords) := ⟨rfl, rfl, rfl, by decide +kernel, rfl, by decide +kernel, by decide +kernel⟩
theorem scFixSteps : FnScope ["circuit", "step"] ["circuit"] (defScope sFixSteps) := ⟨rfl, rfl, rfl, by decide +kernel, rfl, by decide +kernel, by decide +kernel⟩
theorem scFixImages : FnScope ["circuit", "fixed", "images", "letters", "sign"] ["circuit"] (defScope sFixImages) := ⟨rfl, rfl, rfl, by decide +kernel, rfl, by decide +kernel, by decide +kernel⟩
abbrev sD (L : List Nat) : D := .str (Dl.st L)
def wdV (C : Addr) (x : Wp) : D := wd C x.2 x.1
def firstF (n : Nat) : List (List Nat) := (lones n).map (·.2)
def imF (n : Nat) (ls : List Ln) : List Wp := (firstF n).map fun L => thrF (fixF ls) (1, L)
theorem first_ok : ∀ n, 1 ≤ n → n ≤ 4 → (firstF n).length = 2 * n ∧ ∀ L ∈ firstF n, okL L ∧ L.length = n := by
  have : ∀ n : Fin 5, (firstF n.val).length = 2 * n.val ∧ ∀ L ∈ firstF n.val, (L.length ≤ 4 ∧ ∀ c ∈ L, c ∈ IXYZ) ∧ L.length = n.val := by decide +kernel
  intro n h1 h4
  obtain ⟨a, b⟩ := this ⟨n, by omega⟩
  exact ⟨a, fun L hL => by obtain ⟨⟨q, r⟩, s⟩ := b L hL; exact ⟨⟨by rw [s]; exact h1, q, r⟩, s⟩⟩
def rLone : Rel := fun ss μ r μ' => ∃ (n k c : Nat), k < n ∧ n ≤ 4 ∧ ss = [.p (chS c), .p (inD k), .p (inD n)] ∧ r = .v (.p (sD (ln1 n k c))) ∧ μ' = μ
def rFirst : Rel := fun ss μ r μ' => ∃ (n : Nat), 1 ≤ n ∧ n ≤ 4 ∧ ss = [.p (inD n)] ∧ r = .v (.p (.lst ((firstF n).map sD))) ∧ μ' = μ
def rFixSteps (CC : Addr) : Rel := fun ss μ r μ' => ∃ (n : Nat) (ls : List Ln), okC n ls ∧ ss = [.p (circD CC n ls)] ∧ r = .v (.p (.lst ((fixF ls).map stpD))) ∧ μ' = μ
def rFixImages (C CC : Addr) : Rel := fun ss μ r μ' => ∃ (n : Nat) (ls : List Ln), okC n ls ∧ ss = [.p (circD CC n ls)] ∧ r = .v (.p (.tup ((imF n ls).map (wdV C)))) ∧ μ' = μ
def esW (_ : D) : List D := [chS 88, chS 90]
def yW (n : Nat) : D → D → D
  | .int i, .str z => sD (ln1 n i.toNat (z.cps.toList.getD 0 73))
  | _, _ => .non
theorem flat_first : ∀ n ≤ 4, flat2 (fun _ => true) esW (yW n) ((List.range n).map inD) = (firstF n).map sD := fun n h =>
  match n, h with
  | 0, _ => rfl
  | 1, _ => rfl
  | 2, _ => rfl
  | 3, _ => rfl
  | 4, _ => rfl
  | n + 5, h => by omega
theorem imF_ok {n : Nat} {ls : List Ln} (h : okC n ls) : (imF n ls).length = 2 * n ∧ ∀ x ∈ imF n ls, okX n x := by
  obtain ⟨a, b⟩ := first_ok n h.w1 h.w4
  refine ⟨by unfold imF; rw [List.length_map, a], fun x hx => ?_⟩
  obtain ⟨L, hL, rfl⟩ := List.mem_map.mp hx
  obtain ⟨p, q⟩ := b L hL
  exact thrF_ok (fun l hl => h.ok l (List.mem_filter.mp hl).1) ⟨p, q, .inl rfl⟩
section
variable {P : Program} {w : World} {K : PySem.W.Frag} {mg : Str → Option Value} {base : Heap} {qa ta ha za xa f C CC CT CB : Addr} {fd : FuncData}
theorem two_pre (a b : Nat) : (⟨#[a]⟩ : Str) ++ ⟨#[b]⟩ = st [a, b] := st_app [a] [b]
theorem at_L {n k : Nat} {L : List Nat} (h : L.length = n) (hk : k < n) : atI L ((k : Nat) : Int) = some (at7 L k) := at_getN (by omega)
theorem ok_throne (F : Fun K "_through_one" "_through_one" sThrOne f fd) (Z : TD w K mg ha za xa) (ce : Cf P w K mg base 1 "_exchanged" [] rExch) (ca : Cf P w K mg base 4 "_through_about" [] rThrAbout) : FnOk P w K mg base (L2.CX P w) 5 f fd ["step", "letters"] (spD K rThrOne) := by
  refine fn_D (k := 4) F scThrOne (fun ss μ r μ' h => by obtain ⟨_, _, _, _, _, _, _, rfl, _⟩ := h; rfl) ?_
  intro cdv A0 outer s0 H E N W ss μ r μ' g hA hR
  obtain ⟨n, l, L, hl, hT, hL, hn, rfl, rfl, rfl⟩ := hR
  have h4 := hL.four
  have hsz : (st L).length ≤ sizeLine := by rw [st_len]; exact sz (by omega)
  cases l with
  | tn s A ps => cases hT
  | h a =>
    have ha7 := at7_in hL.all a
    obtain ⟨p1, p2, _⟩ := hL_ok _ ha7
    obtain ⟨es, m, kh⟩ := Z.kh
    obtain ⟨u, h1, h2⟩ := Z.dh _ ha7
    have hlt : a < n := hl
    exact ⟨_, dss_cons (ds_set 2 (de_ix (de_var 0) de_int (i_tup (i := 0) g rfl)) g.nd) (cn (dss_ifT (dt_of (dt_cmp (de_var 2) de_str o_eqS) (by decide)) (dss_ret (de_call g ce (da_cons (de_var 1) (da_cons (de_of (d' := .tup ([a].map inD)) (de_cutTf g (de_var 0) de_int) rfl) (da_cons (de_kdIx kh (de_glob (v := .ref ha) Z.mh rfl (fun _ _ => .adr _)) (de_ix (de_var 1) (de_ix (de_var 0) de_int (i_tup (i := 1) g rfl)) (i_str hsz (at_L hn hlt))) h1 h2 (fun _ _ => .str _)) da_nil)))
      ⟨L, [a], Cq.hL (at7 L a), hS (at7 L a), hL, p1, p2, (by show 1 ≤ 2; decide), fun p hp => by rw [List.mem_singleton.mp hp]; omega, rfl, rfl, rfl⟩)) cr)), .rt⟩
  | ab q s A =>
    have d1 : decide (st (if q then wQuarter else wFlip) = Str.ofString "h") = false := by cases q <;> decide
    have d2 : decide (st (if q then wQuarter else wFlip) ∈ [st wFlip, st wQuarter]) = true := by cases q <;> decide
    exact ⟨_, dss_cons (ds_set 2 (de_ix (de_var 0) de_int (i_tup (i := 0) g rfl)) g.nd) (cn (dss_skip (dt_of (dt_cmp (de_var 2) de_str o_eqS) d1) (dss_ifT (dt_of (dt_cmp (de_var 2) (de_tup (ds := ([st wFlip, st wQuarter] : List Str).map D.str) (dp_cons de_str (dp_cons de_str dp_nil)) (sz (by show 2 ≤ _; decide))) (o_inStrT g)) d2)
      (dss_ret (de_call g ca (da_cons (de_var 0) (da_cons (de_var 1) da_nil)) ⟨n, q, s, A, L, hl, hL, hn, rfl, rfl, rfl⟩)) cr))), .rt⟩
  | pr k a b =>
    obtain ⟨hk, ha, hb, hab⟩ := (show k < 3 ∧ a < n ∧ b < n ∧ a ≠ b from hl)
    have ha7 := at7_in hL.all a
    have hb7 := at7_in hL.all b
    have dn : ∀ z : Str, z = Str.ofString "h" → decide (st (pn k) = z) = false := fun z hz => by subst hz; rcases (show k = 0 ∨ k = 1 ∨ k = 2 by omega) with rfl | rfl | rfl <;> decide
    have d2 : decide (st (pn k) ∈ [st wFlip, st wQuarter]) = false := by rcases (show k = 0 ∨ k = 1 ∨ k = 2 by omega) with rfl | rfl | rfl <;> decide
    have hps : ∀ p ∈ [a, b], p < L.length := fun p hp => by
      simp only [List.mem_cons, List.not_mem_nil, or_false] at hp
      rcases hp with rfl | rfl <;> omega
    refine ⟨_, dss_cons (ds_set 2 (de_ix (de_var 0) de_int (i_tup (i := 0) g rfl)) g.nd) (cn (dss_skip (dt_of (dt_cmp (de_var 2) de_str o_eqS) (dn _ rfl)) (dss_skip (dt_of (dt_cmp (de_var 2) (de_tup (ds := ([st wFlip, st wQuarter] : List Str).map D.str) (dp_cons de_str (dp_cons de_str dp_nil)) (sz (by show 2 ≤ _; decide))) (o_inStrT g)) d2)
      (dss_cons (ds_set 3 (de_of (d' := .str (st [at7 L a, at7 L b])) (de_bin (de_ix (de_var 1) (de_ix (de_var 0) de_int (i_tup (i := 1) g rfl)) (i_str hsz (at_L hn ha))) (de_ix (de_var 1) (de_ix (de_var 0) de_int (i_tup (i := 2) g rfl)) (i_str hsz (at_L hn hb))) (o_addS (by show 1 + 1 ≤ _; exact sz (by decide)))) (congrArg D.str (two_pre _ _))) g.nd) (cn ?_))))), .rt⟩
    by_cases k0 : k = 0
    · subst k0
      obtain ⟨p1, p2, _⟩ := pT_ok czT (by simp) _ ha7 _ hb7
      obtain ⟨es, m, kz⟩ := Z.kz
      obtain ⟨u, h1, h2⟩ := Z.dz _ ha7 _ hb7
      exact dss_ifT (dt_of (dt_cmp (de_var 2) de_str o_eqS) (by decide)) (dss_ret (de_call g ce (da_cons (de_var 1) (da_cons (de_of (d' := .tup ([a, b].map inD)) (de_cutTf g (de_var 0) de_int) rfl) (da_cons (de_kdIx kz (de_glob (v := .ref za) Z.mz rfl (fun _ _ => .adr _)) (de_var 3) h1 h2 (fun _ _ => .str _)) da_nil)))
        ⟨L, [a, b], _, _, hL, p1, p2, (by show 2 ≤ 2; decide), hps, rfl, rfl, rfl⟩)) cr
    have dz : decide (st (pn k) = Str.ofString "cz") = false := by rcases (show k = 1 ∨ k = 2 by omega) with rfl | rfl <;> decide
    by_cases k1 : k = 1
    · subst k1
      obtain ⟨p1, p2, _⟩ := pT_ok cxT (by simp) _ ha7 _ hb7
      obtain ⟨es, m, kx⟩ := Z.kx
      obtain ⟨u, h1, h2⟩ := Z.dx _ ha7 _ hb7
      exact dss_skip (dt_of (dt_cmp (de_var 2) de_str o_eqS) dz) (dss_ifT (dt_of (dt_cmp (de_var 2) de_str o_eqS) (by decide)) (dss_ret (de_call g ce (da_cons (de_var 1) (da_cons (de_of (d' := .tup ([a, b].map inD)) (de_cutTf g (de_var 0) de_int) rfl) (da_cons (de_kdIx kx (de_glob (v := .ref xa) Z.mx rfl (fun _ _ => .adr _)) (de_var 3) h1 h2 (fun _ _ => .str _)) da_nil)))
        ⟨L, [a, b], _, _, hL, p1, p2, (by show 2 ≤ 2; decide), hps, rfl, rfl, rfl⟩)) cr)
    have k2 : k = 2 := by omega
    subst k2
    have o2 : okL [at7 L b, at7 L a] := ⟨by show 1 ≤ 2; decide, by show 2 ≤ 4; decide, fun c hc => by
      simp only [List.mem_cons, List.not_mem_nil, or_false] at hc
      rcases hc with rfl | rfl
      · exact hb7
      · exact ha7⟩
    exact dss_skip (dt_of (dt_cmp (de_var 2) de_str o_eqS) dz) (dss_skip (dt_of (dt_cmp (de_var 2) de_str o_eqS) (by decide)) (dss_ret (de_call g ce (da_cons (de_var 1) (da_cons (de_of (d' := .tup ([a, b].map inD)) (de_cutTf g (de_var 0) de_int) rfl) (da_cons (de_revS g (de_var 3)) da_nil)))
      ⟨L, [a, b], [at7 L b, at7 L a], 1, hL, o2, .inl rfl, (by show 2 ≤ 2; decide), hps, rfl, rfl, rfl⟩)))
theorem ok_ledthr (F : Fun K "led_through" "led_through" sLedThr f fd) (co : Cf P w K mg base 5 "_through_one" [] rThrOne) : FnOk P w K mg base (L2.CX P w) 6 f fd ["steps", "letters", "sign"] (spD K rLedThr) := by
  refine fn_D (k := 5) F scLedThr (fun ss μ r μ' h => by obtain ⟨_, _, _, _, _, _, rfl, _⟩ := h; rfl) ?_
  intro cdv A0 outer s0 H E N W ss μ r μ' g hA hR
  obtain ⟨n, ls, x, hls, h9, hx, rfl, rfl, rfl⟩ := hR
  obtain ⟨δ', hlo, ⟨x3, x4, x5, rfl⟩, _⟩ := loop_fo (X := cxOf (L2.CX P w) P w K mg base ["steps", "letters", "sign", "step", "made", "other"] "led_through" (defScope sLedThr) f cdv A0 outer s0 H E) (N := N) (W := W) (f := asName 3) (body := bodyOf sLedThr 0) (T := Wp) (mu := fun _ => μ') (nx := fun l x => thrX l x) (gd := stpD)
    (fun _ x => okX n x) (fun x δ => ∃ x3 x4 x5, δ = [some (.p (.lst (ls.map stpD))), some (.p (.str (st x.2))), some (.p (.int x.1)), x3, x4, x5]) ls.reverse [some (.p (.lst (ls.map stpD))), some (.p (.str (st x.2))), some (.p (.int x.1)), none, none, none] x
    (fun l hl k x δ hδ hx => by
      obtain ⟨x3, x4, x5, rfl⟩ := hδ
      obtain ⟨g1, g2⟩ := hls l (List.mem_reverse.mp hl)
      obtain ⟨q1, q2, q3⟩ := thr1_ok g1 hx.ok hx.len
      have dA : DS (cxOf (L2.CX P w) P w K mg base ["steps", "letters", "sign", "step", "made", "other"] "led_through" (defScope sLedThr) f cdv A0 outer s0 H E) N W [some (.p (.lst (ls.map stpD))), some (.p (.str (st x.2))), some (.p (.int x.1)), some (.p (stpD l)), x4, x5] μ' ((bodyOf sLedThr 0).getD 0 (.Pass ⟨0, 0, 0, 0⟩)) (.nx [some (.p (.lst (ls.map stpD))), some (.p (.str (st x.2))), some (.p (.int x.1)), some (.p (stpD l)), some (.p (.str (st (thr1 l x.2).1))), some (.p (.int (thr1 l x.2).2))] μ') :=
        ds_asg (de_call g co (da_cons (de_var 3) (da_cons (de_var 1) da_nil)) ⟨n, l, x.2, g1, g2, hx.ok, hx.len, rfl, rfl, rfl⟩) (dg_tup (dgs_cons (dg_name 4 g.nd) (dgs_cons (dg_name 5 g.nd) dgs_nil)) g.hK g.calm) rfl
      exact ⟨thrX_ok g1 hx, _, _, rfl, dss_cons dA (cn (dss_cons (ds_set 1 (de_var 4) g.nd) (cn (dss_cons (ds_set 2 (de_bin (de_var 2) (de_var 5) (o_mul (.inl (pm_small hx.pm)))) g.nd) (cn dss_nil))))), _, _, _, rfl⟩) ⟨_, _, _, rfl⟩ hx
  exact ⟨_, dss_cons (ds_for g (di_of (di_lst g (de_revL g (de_var 0) (by rw [List.length_map]; omega))) List.map_reverse.symm) (dg_name 3 g.nd) hlo) (cn (dss_ret (de_tup (dp_cons (de_var 1) (dp_cons (de_var 2) dp_nil))))), .rt⟩
theorem mul_I {X : Cx} {N : En} {W : WX} {μ : List M} {k : Nat} (h : k ≤ 4) : OpOk X N W (binaryOp .Mult) μ (.p (.str ⟨#[73]⟩)) (.p (.int ((k : Nat) : Int))) (.v (.p (.str (Dl.st (List.replicate k 73))))) μ := by
  rcases (show k = 0 ∨ k = 1 ∨ 2 ≤ k by omega) with rfl | rfl | h2
  · exact o_mulS (k := false)
  · exact o_mulS (k := true)
  · exact o_mulSk ⟨h2, by omega⟩
theorem ok_lone (F : Fun K "lone_letter" "lone_letter" sLone f fd) : FnOk P w K mg base (L2.CX P w) 1 f fd ["letter", "at", "wires"] (spD K rLone) := by
  refine fn_D (k := 0) F scLone (fun ss μ r μ' h => by obtain ⟨_, _, _, _, _, rfl, _⟩ := h; rfl) ?_
  intro cdv A0 outer s0 H E N W ss μ r μ' g hA hR
  obtain ⟨n, k, c, hk, h4, rfl, rfl, rfl⟩ := hR
  have e1 : (Dl.st (List.replicate k 73) : Str) ++ ⟨#[c]⟩ = Dl.st (List.replicate k 73 ++ [c]) := st_app _ [c]
  refine ⟨_, dss_ret (de_of (d' := sD (ln1 n k c)) (de_bin (de_of (d' := sD (List.replicate k 73 ++ [c])) (de_bin (de_bin (de_of (d' := .str ⟨#[73]⟩) de_str rfl) (de_var 1) (mul_I (by omega))) (de_var 0) (o_addS (by rw [st_len, List.length_replicate]; show k + 1 ≤ _; exact sz (by omega)))) (congrArg D.str e1)) (de_bin (de_of (d' := .str ⟨#[73]⟩) de_str rfl) (de_of (d' := .int ((n - k - 1 : Nat) : Int)) (de_bin (de_bin (de_var 2) (de_var 1) o_sub) de_int o_sub) (congrArg D.int (by omega))) (mul_I (by omega))) (o_addS (by rw [st_len, st_len]; simp; exact sz (by omega)))) (congrArg D.str (st_app _ _))), .rt⟩
theorem ok_first (F : Fun K "first_words" "first_words" sFirstWords f fd) (T : TM mg) (cl_ : Cf P w K mg base 1 "lone_letter" [] rLone) : FnOk P w K mg base (L2.CX P w) 2 f fd ["wires"] (spD K rFirst) := by
  refine fn_D (k := 1) F scFirst (fun ss μ r μ' h => by obtain ⟨_, _, _, rfl, _⟩ := h; rfl) ?_
  intro cdv A0 outer s0 H E N W ss μ r μ' g hA hR
  obtain ⟨n, h1, h4, rfl, rfl, rfl⟩ := hR
  refine ⟨_, dss_ret (de_of (de_lc2 esW (yW n) g [("at", 1), ("letter", 2)] [2] (di_of (di_range1 (da_cons (de_var 0) da_nil) T.range (by omega)) (by rw [Int.toNat_natCast, rng_in])) (fun s H C cl fp => dg_name 1 g.nd) (fun s H C cl fp => dg_name 2 g.nd) ?hf (by rw [flat_first n h4, List.length_map, (first_ok n h1 h4).1]; exact sz (by omega)) (ok := blkOk_by (by rfl))) (congrArg D.lst (flat_first n h4))), .rt⟩
  intro d hd
  obtain ⟨i, hi, rfl⟩ := List.mem_map.mp hd
  have hi := List.mem_range.mp hi
  refine ⟨_, rfl, fun s H C cl fp N' hK g' => di_tup g' (de_tup (ds := [chS 88, chS 90]) (dp_cons de_str (dp_cons de_str dp_nil)) (sz (by show 2 ≤ 100000; decide))), fun d2 hd2 => ?_⟩
  simp only [esW, List.mem_cons, List.not_mem_nil, or_false] at hd2
  rcases hd2 with rfl | rfl
  · exact ⟨_, rfl, fun s H C cl fp N' hK g' => de_call g' cl_ (da_cons (de_var 2) (da_cons (de_var 1) (da_cons (de_var 0) da_nil))) ⟨n, i, 88, hi, h4, rfl, rfl, rfl⟩⟩
  · exact ⟨_, rfl, fun s H C cl fp N' hK g' => de_call g' cl_ (da_cons (de_var 2) (da_cons (de_var 1) (da_cons (de_var 0) da_nil))) ⟨n, i, 90, hi, h4, rfl, rfl, rfl⟩⟩
theorem ok_fixsteps (F : Fun K "fixed_steps" "fixed_steps" sFixSteps f fd) (TK : K58F.TKc K mg CC) (ci : Cf P w K mg base 1 "is_turn" [] K58F.rIsTurn) : FnOk P w K mg base (L2.CX P w) 2 f fd ["circuit"] (spD K (rFixSteps CC)) := by
  refine fn_D (k := 1) F scFixSteps (fun ss μ r μ' h => by obtain ⟨_, _, _, rfl, _⟩ := h; rfl) ?_
  intro cdv A0 outer s0 H E N W ss μ r μ' g hA hR
  obtain ⟨n, ls, hok, rfl, rfl, rfl⟩ := hR
  have h40 := hok.len
  exact ⟨_, dss_ret (de_lcIf g [("step", 1)] (di_tup g (de_fld (de_var 0) g TK.ci.cl TK.n3)) (fun s H C cl fp => dg_name 1 g.nd) (of_filt (gd := stpD) (fy := stpD) (q := fun l => !isT l) fun l hl => ⟨_, rfl, fun s H C cl fp N' hK g' => dt_not (dt_val (de_call g' ci (da_cons (de_var 1) da_nil) ⟨l, rfl, rfl, rfl⟩)), fun _ s H C cl fp N' hK g' => de_var 1⟩) (ok := blkOk_by (by rfl)) (hds := by rw [List.length_map]; exact sz' (by omega))), .rt⟩
theorem ok_fiximages (F : Fun K "fixed_images" "fixed_images" sFixImages f fd) (T : TM mg) (TK : K58F.TKc K mg CC) (cs : Cf P w K mg base 2 "fixed_steps" [] (rFixSteps CC)) (cl_ : Cf P w K mg base 6 "led_through" [] rLedThr) (cf : Cf P w K mg base 2 "first_words" [] rFirst) (cg : Cf P w K mg base 1 "signed_text" [] rSigned) (ci : Ci P w K mg base 2 C "Word" [] (rInit C)) : FnOk P w K mg base (L2.CX P w) 7 f fd ["circuit"] (spD K (rFixImages C CC)) := by
  refine fn_D (k := 6) F scFixImages (fun ss μ r μ' h => by obtain ⟨_, _, _, rfl, _⟩ := h; rfl) ?_
  intro cdv A0 outer s0 H E N W ss μ r μ' g hA hR
  obtain ⟨n, ls, hok, rfl, rfl, rfl⟩ := hR
  obtain ⟨f1, f2⟩ := first_ok n hok.w1 hok.w4
  obtain ⟨i1, i2⟩ := imF_ok hok
  have h4 := hok.w4
  have hfl : (fixF ls).length ≤ 100 := Nat.le_trans (List.length_filter_le _ _) (by have := hok.len; omega)
  have hfx : ∀ l ∈ fixF ls, okLn n l ∧ isT l = false := fun l hl => by
    obtain ⟨a, b⟩ := List.mem_filter.mp hl
    exact ⟨hok.ok l a, by simpa using b⟩
  have ey : ((firstF n).map fun L => resD ((thrF (fixF ls) (1, L)).2, (thrF (fixF ls) (1, L)).1)) = (imF n ls).map fun y => resD (y.2, y.1) := by unfold imF; rw [List.map_map]; rfl
  exact ⟨_, dss_cons (ds_set 1 (de_call g cs (da_cons (de_var 0) da_nil) ⟨n, ls, hok, rfl, rfl, rfl⟩) g.nd) (cn (dss_cons (ds_setLc 2 g [("letters", 3)] (di_lst g (de_call g cf (da_cons (de_fld (de_var 0) g TK.ci.cl TK.n4) da_nil) ⟨n, hok.w1, h4, rfl, rfl, rfl⟩)) (fun s H C cl fp => dg_name 3 g.nd) (of_maps (gd := sD) (fy := fun L => resD ((thrF (fixF ls) (1, L)).2, (thrF (fixF ls) (1, L)).1)) fun L hL => ⟨_, rfl, fun s H C cl fp N' hK g' => de_call g' cl_ (da_cons (de_var 1) (da_cons (de_var 3) (da_cons de_int da_nil))) ⟨n, fixF ls, (1, L), hfx, hfl, ⟨(f2 L hL).1, (f2 L hL).2, .inl rfl⟩, rfl, rfl, rfl⟩⟩) (ok := blkOk_by (by rfl)) (hds := by rw [List.length_map, f1]; exact sz' (by omega))) (cn
    (dss_ret (de_callT (T := "tuple") (da_cons (s := .p (.lst ((imF n ls).map (wdV C)))) (de_lc g [("letters", 3), ("sign", 4)] (di_of (di_lst g (de_var 2)) ey) (fun s H C cl fp => dg_tup (dgs_cons (dg_name 3 g.nd) (dgs_cons (dg_name 4 g.nd) dgs_nil)) g.hK g.calm) (of_maps (gd := fun y : Wp => resD (y.2, y.1)) (fy := wdV C) fun y hy => ⟨_, rfl, fun s H C cl fp N' hK g' => de_word g' ci (i2 y hy).ok (i2 y hy).pm (de_call g' cg (da_cons (de_var 3) (da_cons (de_var 4) da_nil)) ⟨y.2, y.1, (i2 y hy).ok.four, rfl, rfl, rfl⟩)⟩) (ok := blkOk_by (by rfl)) (hds := by rw [List.length_map, i1]; exact sz' (by omega))) da_nil) c_tupL T.tuple (by decide +kernel)))))), .rt⟩
end
end K58
set_option Elab.async false
set_option linter.all false
set_option maxRecDepth 100000
set_option maxHeartbeats 4000000
set_option autoImplicit false
namespace Dl
open PySem PySem.Spec PyProof.Rows L2
/-! ## xs[::-1], xs a list that goes on changing -/
section
variable {X : Cx} {N : En} {W : WX} {n : Nat} {δ : List (Option S)} {μ μ1 : List M} {e : Expr} {pos p2 p3 p4 : Pos} {ds : List D} {j : Nat}
theorem de_revM {kk} (g : Go X N W n) (he : DE X N W δ μ e (.v (.l j)) μ1) (hj : μ1[j]? = some (.lst ds)) (hl : ds.length ≤ 100000) : DE X N W δ μ (.Subscript e (.Slice none none (some (.UnaryOp .USub (.Constant (.int 1) kk p3) p4)) p2) pos) (.v (.p (.lst ds.reverse))) μ1 :=
  PE.imp (pe_slice3 he po_none po_none (po_some (de_un (N := N) (W := W) (δ := δ) (μ := μ1) de_int u_neg))) fun σ H Q ⟨F, A, R, k⟩ => ⟨F, A, R, fun v F1 A1 H1 e1 a1 R1 rv => by
    obtain ⟨a, rfl, ha⟩ := rv
    refine ⟨F1, A1, R1, fun z F2 A2 H2 e2 a2 R2 rz => ?_⟩
    obtain ⟨vs, h1, h2⟩ := R2.rc.mus j a _ (getElem?_pre a2 ha) hj
    have hv2 := h2.length
    cases (show Rep N.K F2 z (.int (-1)) from rz)
    refine ⟨-1, rfl, a, vs, rfl, SqL.of h1, by decide, by rw [pick_rev, List.length_reverse, sizeLine_eq]; omega, fun p np => ?_⟩
    have sm := same_updN (o := .lst (pickX vs none none (some (-1)))) (R2.rc.fresh np).2.1
    refine k (.ref p) _ A2 _ ((e1.trans e2).trans sm) (a1.trans a2) (R2.to sm (List.prefix_refl _) (R2.rc.frozen np _)) (.lst upd_same ?_)
    have := (Reps.pick h2 none none (some (-1))).mono sm
    rw [pick_rev ds] at this
    exact this⟩
end
end Dl
set_option Elab.async false
set_option linter.all false
set_option maxRecDepth 100000
set_option maxHeartbeats 4000000
set_option autoImplicit false
namespace K58
open PySem PySem.Spec PyProof.Rows L2 Dl Cq
/-! ### turns led back to the circuit's beginning -/
theorem scBegin : FnScope ["circuit", "fixed", "found", "step", "letters", "sign"] ["circuit"] (defScope sBegin) := ⟨rfl, rfl, rfl, by decide +kernel, rfl, by decide +kernel, by decide +kernel⟩
theorem scTurned : FnScope ["circuit", "letters", "sign", "form"] ["circuit"] (defScope sTurned) := ⟨rfl, rfl, rfl, by decide +kernel, rfl, by decide +kernel, by decide +kernel⟩
abbrev Fm := List (Str × Int)
abbrev Br := List Nat × Int × Fm
def fmD (x : Fm) : D := .tup (x.map pairD)
def brD (x : Br) : D := .tup [.str (st x.1), .int x.2.1, fmD x.2.2]
def stB (l : Ln) (t : List Ln × List Br) : List Ln × List Br := match l with
  | .tn s L ps => (t.1, t.2 ++ [((thrF t.1 (s, L)).2, (thrF t.1 (s, L)).1, formF ps)])
  | l => (t.1 ++ [l], t.2)
def begT (ls : List Ln) : List Ln × List Br := ls.foldl (fun t l => stB l t) ([], [])
def begF (ls : List Ln) : List Br := (begT ls).2
def okBr (n : Nat) (x : Br) : Prop := okX n (x.2.1, x.1)
def rLedThrM : Rel := fun ss μ r μ' => ∃ (n j : Nat) (ls : List Ln) (x : Wp), (∀ l ∈ ls, okLn n l ∧ isT l = false) ∧ ls.length ≤ 100 ∧ okX n x ∧ μ[j]? = some (.lst (ls.map stpD)) ∧ ss = [.l j, .p (.str (st x.2)), .p (.int x.1)] ∧ r = .v (.p (resD ((thrF ls x).2, (thrF ls x).1))) ∧ μ' = μ
def rBegin (CC : Addr) : Rel := fun ss μ r μ' => ∃ (n : Nat) (ls : List Ln), okC n ls ∧ ss = [.p (circD CC n ls)] ∧ r = .v (.p (.lst ((begF ls).map brD))) ∧ μ' = μ
def rTurned (C CC : Addr) : Rel := fun ss μ r μ' => ∃ (n : Nat) (ls : List Ln), okC n ls ∧ ss = [.p (circD CC n ls)] ∧ r = .v (.p (.tup ((begF ls).map fun x => .tup [wdV C (x.2.1, x.1), fmD x.2.2]))) ∧ μ' = μ
section
variable {P : Program} {w : World} {K : PySem.W.Frag} {mg : Str → Option Value} {base : Heap} {qa ta ha za xa f C CC CT CB : Addr} {fd : FuncData}
theorem ok_ledthrM (F : Fun K "led_through" "led_through" sLedThr f fd) (co : Cf P w K mg base 5 "_through_one" [] rThrOne) : FnOk P w K mg base (L2.CX P w) 6 f fd ["steps", "letters", "sign"] (spD K rLedThrM) := by
  refine fn_D (k := 5) F scLedThr (fun ss μ r μ' h => by obtain ⟨_, _, _, _, _, _, _, _, rfl, _⟩ := h; rfl) ?_
  intro cdv A0 outer s0 H E N W ss μ r μ' g hA hR
  obtain ⟨n, j, ls, x, hls, h9, hx, hj, rfl, rfl, rfl⟩ := hR
  obtain ⟨δ', hlo, ⟨x3, x4, x5, rfl⟩, _⟩ := loop_fo (X := cxOf (L2.CX P w) P w K mg base ["steps", "letters", "sign", "step", "made", "other"] "led_through" (defScope sLedThr) f cdv A0 outer s0 H E) (N := N) (W := W) (f := asName 3) (body := bodyOf sLedThr 0) (T := Wp) (mu := fun _ => μ') (nx := fun l x => thrX l x) (gd := stpD)
    (fun _ x => okX n x) (fun x δ => ∃ x3 x4 x5, δ = [some (.l j), some (.p (.str (st x.2))), some (.p (.int x.1)), x3, x4, x5]) ls.reverse [some (.l j), some (.p (.str (st x.2))), some (.p (.int x.1)), none, none, none] x
    (fun l hl k x δ hδ hx => by
      obtain ⟨x3, x4, x5, rfl⟩ := hδ
      obtain ⟨g1, g2⟩ := hls l (List.mem_reverse.mp hl)
      obtain ⟨q1, q2, q3⟩ := thr1_ok g1 hx.ok hx.len
      have dA : DS (cxOf (L2.CX P w) P w K mg base ["steps", "letters", "sign", "step", "made", "other"] "led_through" (defScope sLedThr) f cdv A0 outer s0 H E) N W [some (.l j), some (.p (.str (st x.2))), some (.p (.int x.1)), some (.p (stpD l)), x4, x5] μ' ((bodyOf sLedThr 0).getD 0 (.Pass ⟨0, 0, 0, 0⟩)) (.nx [some (.l j), some (.p (.str (st x.2))), some (.p (.int x.1)), some (.p (stpD l)), some (.p (.str (st (thr1 l x.2).1))), some (.p (.int (thr1 l x.2).2))] μ') :=
        ds_asg (de_call g co (da_cons (de_var 3) (da_cons (de_var 1) da_nil)) ⟨n, l, x.2, g1, g2, hx.ok, hx.len, rfl, rfl, rfl⟩) (dg_tup (dgs_cons (dg_name 4 g.nd) (dgs_cons (dg_name 5 g.nd) dgs_nil)) g.hK g.calm) rfl
      exact ⟨thrX_ok g1 hx, _, _, rfl, dss_cons dA (cn (dss_cons (ds_set 1 (de_var 4) g.nd) (cn (dss_cons (ds_set 2 (de_bin (de_var 2) (de_var 5) (o_mul (.inl (pm_small hx.pm)))) g.nd) (cn dss_nil))))), _, _, _, rfl⟩) ⟨_, _, _, rfl⟩ hx
  exact ⟨_, dss_cons (ds_for g (di_of (di_lst g (de_revM g (de_var 0) hj (by rw [List.length_map]; omega))) List.map_reverse.symm) (dg_name 3 g.nd) hlo) (cn (dss_ret (de_tup (dp_cons (de_var 1) (dp_cons (de_var 2) dp_nil))))), .rt⟩
theorem stB_ok {n : Nat} {l : Ln} {t : List Ln × List Br} (hl : okLn n l) (h : (∀ l ∈ t.1, okLn n l ∧ isT l = false) ∧ ∀ x ∈ t.2, okBr n x) : (∀ l' ∈ (stB l t).1, okLn n l' ∧ isT l' = false) ∧ ∀ x ∈ (stB l t).2, okBr n x := by
  have app : ∀ l', okLn n l' → isT l' = false → ∀ l'' ∈ t.1 ++ [l'], okLn n l'' ∧ isT l'' = false := fun l' a b l'' hm => by
    rcases List.mem_append.mp hm with hm | hm
    · exact h.1 _ hm
    · simp only [List.mem_cons, List.not_mem_nil, or_false] at hm
      subst hm
      exact ⟨a, b⟩
  cases l with
  | tn s L ps =>
    refine ⟨h.1, fun x hx => ?_⟩
    rcases List.mem_append.mp hx with hx | hx
    · exact h.2 _ hx
    · simp only [List.mem_cons, List.not_mem_nil, or_false] at hx
      subst hx
      exact thrF_ok (fun l hl => (h.1 l hl).1) ⟨hl.1.okL, hl.1.len, hl.1.pm⟩
  | ab q s L => exact ⟨app _ hl rfl, h.2⟩
  | h a => exact ⟨app _ hl rfl, h.2⟩
  | pr k a b => exact ⟨app _ hl rfl, h.2⟩
theorem mid_at {μ : List M} {a b : M} : ((μ ++ [a]) ++ [b])[μ.length]? = some a := by
  rw [List.append_assoc, List.getElem?_append_right (Nat.le_refl _), Nat.sub_self]
  rfl
theorem mid_set {μ : List M} {a b c : M} : ((μ ++ [a]) ++ [b]).set μ.length c = (μ ++ [c]) ++ [b] := by
  rw [List.append_assoc, List.set_append_right _ _ (Nat.le_refl _), Nat.sub_self, List.append_assoc]
  rfl
theorem ok_begin (F : Fun K "beginnings" "beginnings" sBegin f fd) (TK : K58F.TKc K mg CC) (ci : Cf P w K mg base 1 "is_turn" [] K58F.rIsTurn) (cl_ : Cf P w K mg base 6 "led_through" [] rLedThrM) : FnOk P w K mg base (L2.CX P w) 7 f fd ["circuit"] (spD K (rBegin CC)) := by
  refine fn_D (k := 6) F scBegin (fun ss μ r μ' h => by obtain ⟨_, _, _, rfl, _⟩ := h; rfl) ?_
  intro cdv A0 outer s0 H E N W ss μ r μ' g hA hR
  obtain ⟨n, ls, hok, rfl, rfl, rfl⟩ := hR
  have h40 := hok.len
  have li : ∀ x y : M, (μ' ++ [x]).length = (μ' ++ [y]).length := fun x y => by simp
  obtain ⟨δ', hlo, ⟨x3, x4, x5, rfl⟩, hI⟩ := loop_fo (X := cxOf (L2.CX P w) P w K mg base ["circuit", "fixed", "found", "step", "letters", "sign"] "beginnings" (defScope sBegin) f cdv A0 outer s0 H E) (N := N) (W := W) (f := asName 3) (body := bodyOf sBegin 2) (T := List Ln × List Br) (mu := fun t => (μ' ++ [.lst (t.1.map stpD)]) ++ [.lst (t.2.map brD)]) (nx := fun l t => stB l t) (gd := stpD)
    (fun k t => ((∀ l ∈ t.1, okLn n l ∧ isT l = false) ∧ ∀ x ∈ t.2, okBr n x) ∧ t.1.length + k ≤ 40 ∧ t.2.length + k ≤ 40) (fun t δ => ∃ x3 x4 x5, δ = [some (.p (circD CC n ls)), some (.l μ'.length), some (.l (μ' ++ [M.lst []]).length), x3, x4, x5]) ls [some (.p (circD CC n ls)), some (.l μ'.length), some (.l (μ' ++ [M.lst []]).length), none, none, none] ([], [])
    (fun l hl k t δ hδ hI => by
      obtain ⟨x3, x4, x5, rfl⟩ := hδ
      have ol := hok.ok l hl
      obtain ⟨i1, i2, i3⟩ := hI
      have tst : DT (cxOf (L2.CX P w) P w K mg base ["circuit", "fixed", "found", "step", "letters", "sign"] "beginnings" (defScope sBegin) f cdv A0 outer s0 H E) N W [some (.p (circD CC n ls)), some (.l μ'.length), some (.l (μ' ++ [M.lst []]).length), some (.p (stpD l)), x4, x5] ((μ' ++ [.lst (t.1.map stpD)]) ++ [.lst (t.2.map brD)]) (ifC ((bodyOf sBegin 2).getD 0 (.Pass ⟨0, 0, 0, 0⟩))) (isT l) ((μ' ++ [.lst (t.1.map stpD)]) ++ [.lst (t.2.map brD)]) :=
        dt_val (de_call g ci (da_cons (de_var 3) da_nil) ⟨l, rfl, rfl, rfl⟩)
      have q := stB_ok ol i1
      have app : isT l = false → stB l t = (t.1 ++ [l], t.2) → ∃ δ1, DSs (cxOf (L2.CX P w) P w K mg base ["circuit", "fixed", "found", "step", "letters", "sign"] "beginnings" (defScope sBegin) f cdv A0 outer s0 H E) N W [some (.p (circD CC n ls)), some (.l μ'.length), some (.l (μ' ++ [M.lst []]).length), some (.p (stpD l)), x4, x5] ((μ' ++ [.lst (t.1.map stpD)]) ++ [.lst (t.2.map brD)]) (bodyOf sBegin 2) (.nx δ1 ((μ' ++ [.lst ((stB l t).1.map stpD)]) ++ [.lst ((stB l t).2.map brD)])) ∧ ∃ x3 x4 x5, δ1 = [some (.p (circD CC n ls)), some (.l μ'.length), some (.l (μ' ++ [M.lst []]).length), x3, x4, x5] := fun hT e => by
        rw [e]
        exact ⟨_, dss_cons (ds_if (k := false) (dt_of tst hT) (fun h => nomatch h) (fun _ => dss_cons (ds_to (ds_expr (de_bm PySem.F.plainAttrs_list PySem.F.slot_list_append PySem.F.type_list_append (de_var 1) (da_cons (de_var 3) da_nil) (m_append mid_at mid_at (by rw [List.length_map]; exact sz' (by omega))))) (by rw [mid_set]; show _ = (μ' ++ [.lst ((t.1 ++ [l]).map stpD)]) ++ [.lst (t.2.map brD)]; rw [List.map_append]; rfl)) (cn dss_nil))) (cn dss_nil), _, _, _, rfl⟩
      cases l with
      | tn s L ps =>
        have hs : okWd n s L := ol.1
        refine ⟨⟨q, by show t.1.length + k ≤ 40; omega, by show (t.2 ++ [_]).length + k ≤ 40; rw [List.length_append]; simp; omega⟩, _, _, rfl, dss_cons (ds_if (k := true) tst (fun _ =>
          dss_cons (ds_asg (de_call g cl_ (da_cons (de_var 1) (da_cons (s := .p (.str (st L))) (de_ix (de_var 3) de_int (i_tup (i := 1) g rfl)) (da_cons (s := .p (.int s)) (de_ix (de_var 3) de_int (i_tup (i := 2) g rfl)) da_nil))) ⟨n, μ'.length, t.1, (s, L), i1.1, by omega, ⟨hs.okL, hs.len, hs.pm⟩, mid_at, rfl, rfl, rfl⟩) (dg_tup (dgs_cons (dg_name 4 g.nd) (dgs_cons (dg_name 5 g.nd) dgs_nil)) g.hK g.calm) rfl) (cn
          (dss_cons (ds_to (ds_expr (de_bm PySem.F.plainAttrs_list PySem.F.slot_list_append PySem.F.type_list_append (de_var 2) (da_cons (s := .p (brD ((thrF t.1 (s, L)).2, (thrF t.1 (s, L)).1, formF ps))) (de_tup (dp_cons (de_var 4) (dp_cons (de_var 5) (dp_cons (de_ix (de_var 3) de_int (i_tup (i := 3) g rfl)) dp_nil)))) da_nil) (m_append (end_at (li _ _)) (end_at (li _ _)) (by rw [List.length_map]; exact sz' (by omega))))) (by rw [end_set (li _ _)]; show _ = (μ' ++ [.lst (t.1.map stpD)]) ++ [.lst ((t.2 ++ [((thrF t.1 (s, L)).2, (thrF t.1 (s, L)).1, formF ps)]).map brD)]; rw [List.map_append]; rfl)) (cn dss_nil)))) (fun h => nomatch h)) (cn dss_nil), _, _, _, rfl⟩
      | ab q' s L =>
        obtain ⟨δ1, a, b⟩ := app rfl rfl
        exact ⟨⟨q, by show (t.1 ++ [_]).length + k ≤ 40; rw [List.length_append]; simp; omega, by show t.2.length + k ≤ 40; omega⟩, _, δ1, rfl, a, b⟩
      | h a =>
        obtain ⟨δ1, a, b⟩ := app rfl rfl
        exact ⟨⟨q, by show (t.1 ++ [_]).length + k ≤ 40; rw [List.length_append]; simp; omega, by show t.2.length + k ≤ 40; omega⟩, _, δ1, rfl, a, b⟩
      | pr k' a b =>
        obtain ⟨δ1, a, b⟩ := app rfl rfl
        exact ⟨⟨q, by show (t.1 ++ [_]).length + k ≤ 40; rw [List.length_append]; simp; omega, by show t.2.length + k ≤ 40; omega⟩, _, δ1, rfl, a, b⟩) ⟨_, _, _, rfl⟩ ⟨⟨fun _ h => (List.not_mem_nil h).elim, fun _ h => (List.not_mem_nil h).elim⟩, by show 0 + _ ≤ 40; omega, by show 0 + _ ≤ 40; omega⟩
  have e1 : (μ' ++ [M.lst ((begT ls).1.map stpD)] ++ [M.lst ((begT ls).2.map brD)]).set (μ' ++ [M.lst []]).length .gone = μ' ++ [M.lst ((begT ls).1.map stpD)] ++ [.gone] := end_set (li _ _)
  refine ⟨_, dss_cons (ds_set 1 (de_lstM dp_nil) g.nd) (cn (dss_cons (ds_set 2 (de_lstM dp_nil) g.nd) (cn (dss_cons (ds_for g (di_tup g (de_fld (de_var 0) g TK.ci.cl TK.n3)) (dg_name 3 g.nd) hlo) (cn
    (dss_freeze (j := (μ' ++ [M.lst []]).length) (ds := (begF ls).map brD) (end_at (li _ _)) (by simp; omega) 2 rfl (Eq.mp (congrArg (fun ν => DSs _ N W _ ν _ _) e1.symm) (dss_ret (de_var 2))))))))), ?_⟩
  have e : (μ' ++ [M.lst ((begT ls).1.map stpD)] ++ [M.gone]).take μ'.length = μ' := by rw [List.append_assoc]; exact List.take_left ..
  conv => rhs; rw [← e, ← e1]
  exact .rtT (Nat.le_refl _)
theorem beg_ok {n : Nat} {ls : List Ln} (h : okC n ls) : (∀ x ∈ begF ls, okBr n x) ∧ (begF ls).length ≤ 6 := by
  have : ∀ (l : List Ln) (t : List Ln × List Br), (∀ l' ∈ l, okLn n l') → ((∀ l ∈ t.1, okLn n l ∧ isT l = false) ∧ ∀ x ∈ t.2, okBr n x) → ((∀ x ∈ (l.foldl (fun t l => stB l t) t).2, okBr n x) ∧ (l.foldl (fun t l => stB l t) t).2.length = t.2.length + (l.filter isT).length) := by
    intro l
    induction l with
    | nil => intro t _ ht; exact ⟨ht.2, rfl⟩
    | cons a l ih =>
      intro t hl ht
      obtain ⟨p, q⟩ := ih (stB a t) (fun l' h => hl l' (List.mem_cons_of_mem _ h)) (stB_ok (hl a List.mem_cons_self) ht)
      refine ⟨p, ?_⟩
      rw [List.foldl_cons, q]
      cases a with
      | tn s L ps => rw [List.filter_cons_of_pos rfl]; show (t.2 ++ [_]).length + _ = _; rw [List.length_append]; simp; omega
      | ab q s L => rw [List.filter_cons_of_neg (by simp [isT])]; rfl
      | h a => rw [List.filter_cons_of_neg (by simp [isT])]; rfl
      | pr k a b => rw [List.filter_cons_of_neg (by simp [isT])]; rfl
  obtain ⟨p, q⟩ := this ls ([], []) h.ok ⟨fun _ h => (List.not_mem_nil h).elim, fun _ h => (List.not_mem_nil h).elim⟩
  refine ⟨p, ?_⟩
  show (begT ls).2.length ≤ 6
  unfold begT
  rw [q]
  have := h.six
  simp
  exact this
theorem ok_turned (F : Fun K "turned" "turned" sTurned f fd) (T : TM mg) (cb : Cf P w K mg base 7 "beginnings" [] (rBegin CC)) (cg : Cf P w K mg base 1 "signed_text" [] rSigned) (ci : Ci P w K mg base 2 C "Word" [] (rInit C)) : FnOk P w K mg base (L2.CX P w) 8 f fd ["circuit"] (spD K (rTurned C CC)) := by
  refine fn_D (k := 7) F scTurned (fun ss μ r μ' h => by obtain ⟨_, _, _, rfl, _⟩ := h; rfl) ?_
  intro cdv A0 outer s0 H E N W ss μ r μ' g hA hR
  obtain ⟨n, ls, hok, rfl, rfl, rfl⟩ := hR
  obtain ⟨b1, b2⟩ := beg_ok hok
  exact ⟨_, dss_ret (de_callT (T := "tuple") (da_cons (s := .p (.lst ((begF ls).map fun x => .tup [wdV C (x.2.1, x.1), fmD x.2.2]))) (de_lc g [("letters", 1), ("sign", 2), ("form", 3)] (di_lst g (de_call g cb (da_cons (de_var 0) da_nil) ⟨n, ls, hok, rfl, rfl, rfl⟩)) (fun s H C cl fp => dg_tup (dgs_cons (dg_name 1 g.nd) (dgs_cons (dg_name 2 g.nd) (dgs_cons (dg_name 3 g.nd) dgs_nil))) g.hK g.calm) (of_maps (gd := brD) (fy := fun x => .tup [wdV C (x.2.1, x.1), fmD x.2.2]) fun y hy => ⟨_, rfl, fun s H C cl fp N' hK g' => de_tup (dp_cons (de_word g' ci (b1 y hy).ok (b1 y hy).pm (de_call g' cg (da_cons (de_var 1) (da_cons (de_var 2) da_nil)) ⟨y.1, y.2.1, (b1 y hy).ok.four, rfl, rfl, rfl⟩)) (dp_cons (de_var 3) dp_nil))⟩) (ok := blkOk_by (by rfl)) (hds := by rw [List.length_map]; exact sz' (by omega))) da_nil) c_tupL T.tuple (by decide +kernel)), .rt⟩
end
end K58
set_option Elab.async false
set_option linter.all false
set_option maxRecDepth 100000
set_option maxHeartbeats 4000000
set_option autoImplicit false
namespace K58
open PySem PySem.Spec PyProof.Rows L2 Dl Cq
/-! ### turns in layers -/
theorem scAhead : FnScope ["circuit", "words", "letters", "sign", "form", "turn", "other"] ["circuit"] (defScope sAhead) := ⟨rfl, rfl, rfl, by decide +kernel, rfl, by decide +kernel, by decide +kernel⟩
theorem scAllDone : FnScope ["turns", "done", "turn"] ["turns", "done"] (defScope sAllDone) := ⟨rfl, rfl, rfl, by decide +kernel, rfl, by decide +kernel, by decide +kernel⟩
def pasB (ws : List (List Nat)) (o t : Nat) : Bool := decide (qs (ws.getD o []) (ws.getD t []) % 2 = 0)
def ahRow (ws : List (List Nat)) (t : Nat) : List Nat := (List.range t).filter fun o => !pasB ws o t
def ahF (ws : List (List Nat)) : List (List Nat) := (List.range ws.length).map (ahRow ws)
abbrev nsL (l : List Nat) : D := .lst (l.map inD)
abbrev nsT (l : List Nat) : D := .tup (l.map inD)
def wsF (ls : List Ln) : List (List Nat) := (begF ls).map (·.1)
def rAhead (CC : Addr) : Rel := fun ss μ r μ' => ∃ (n : Nat) (ls : List Ln), okC n ls ∧ ss = [.p (circD CC n ls)] ∧ r = .v (.p (.lst ((ahF (wsF ls)).map nsL))) ∧ μ' = μ
def rAllDone : Rel := fun ss μ r μ' => ∃ (ts done : List Nat), ts.length ≤ 100 ∧ done.length ≤ 100 ∧ ss = [.p (nsL ts), .p (nsT done)] ∧ r = .v (.p (.bl (ts.all fun t => decide (t ∈ done)))) ∧ μ' = μ
theorem wsF_ok {n : Nat} {ls : List Ln} (h : okC n ls) : (wsF ls).length ≤ 6 ∧ ∀ i, i < (wsF ls).length → okL ((wsF ls).getD i []) ∧ ((wsF ls).getD i []).length = n := by
  obtain ⟨a, b⟩ := beg_ok h
  refine ⟨by unfold wsF; rw [List.length_map]; exact b, fun i hi => ?_⟩
  have hm := List.getElem_mem hi
  rw [List.getD_eq_getElem?_getD, List.getElem?_eq_getElem hi]
  obtain ⟨x, hx, e⟩ := List.mem_map.mp hm
  show okL (wsF ls)[i] ∧ ((wsF ls)[i]).length = n
  rw [← e]
  exact ⟨(a x hx).ok, (a x hx).len⟩
section
variable {P : Program} {w : World} {K : PySem.W.Frag} {mg : Str → Option Value} {base : Heap} {qa ta ha za xa f C CC CT CB : Addr} {fd : FuncData}
theorem ok_ahead (F : Fun K "_all_ahead" "_all_ahead" sAhead f fd) (T : TM mg) (cb : Cf P w K mg base 7 "beginnings" [] (rBegin CC)) (cp : Cf P w K mg base 2 "pass_by" [] rPassBy) : FnOk P w K mg base (L2.CX P w) 8 f fd ["circuit"] (spD K (rAhead CC)) := by
  refine fn_D (k := 7) F scAhead (fun ss μ r μ' h => by obtain ⟨_, _, _, rfl, _⟩ := h; rfl) ?_
  intro cdv A0 outer s0 H E N W ss μ r μ' g hA hR
  obtain ⟨n, ls, hok, rfl, rfl, rfl⟩ := hR
  obtain ⟨b1, b2⟩ := beg_ok hok
  obtain ⟨w6, wk⟩ := wsF_ok hok
  have ew : ((begF ls).map fun x => sD x.1) = (wsF ls).map sD := by unfold wsF; rw [List.map_map]; rfl
  have lw : (((begF ls).map fun x => sD x.1).length : Nat) = (wsF ls).length := by rw [ew, List.length_map]
  have at_ : ∀ i, i < (wsF ls).length → atI ((begF ls).map fun x => sD x.1) ((i : Nat) : Int) = some (sD ((wsF ls).getD i [])) := fun i hi => by rw [ew]; exact at_getD hi
  refine ⟨_, dss_cons (ds_set 1 (de_lc g [("letters", 2), ("sign", 3), ("form", 4)] (di_lst g (de_call g cb (da_cons (de_var 0) da_nil) ⟨n, ls, hok, rfl, rfl, rfl⟩)) (fun s H C cl fp => dg_tup (dgs_cons (dg_name 2 g.nd) (dgs_cons (dg_name 3 g.nd) (dgs_cons (dg_name 4 g.nd) dgs_nil))) g.hK g.calm) (of_maps (gd := brD) (fy := fun x => sD x.1) fun y hy => ⟨_, rfl, fun s H C cl fp N' hK g' => de_var 2⟩) (ok := blkOk_by (by rfl)) (hds := by rw [List.length_map]; exact sz' (by omega))) g.nd) (cn
    (dss_ret (de_lc g [("turn", 5)] (di_of (di_range1 (da_cons (de_of (d' := .int ((wsF ls).length : Nat)) (de_callB (id := "len") (da_cons (de_var 1) da_nil) (c_lenL g) T.len (by decide +kernel)) (by rw [lw])) da_nil) T.range (by omega)) (by rw [Int.toNat_natCast, rng_in])) (fun s H C cl fp => dg_name 5 g.nd) (of_maps (gd := inD) (fy := fun t => nsL (ahRow (wsF ls) t)) fun t ht => ⟨_, rfl, fun s H C cl fp N' hK g' =>
      de_lcIf g' [("other", 6)] (di_of (di_range1 (da_cons (de_var 5) da_nil) T.range ?hr) (by rw [Int.toNat_natCast, rng_in])) (fun s H C cl fp => dg_name 6 g'.nd) (of_filt (gd := inD) (fy := inD) (q := fun o => !pasB (wsF ls) o t) fun o ho => ⟨_, rfl, fun s H C cl fp N'' hK' g'' => dt_not (dt_val (de_call g'' cp (da_cons (s := .p (sD ((wsF ls).getD o []))) (de_ix (de_var 1) (de_var 6) (i_lst g'' (at_ o ?ho))) (da_cons (s := .p (sD ((wsF ls).getD t []))) (de_ix (de_var 1) (de_var 5) (i_lst g'' (at_ t ?ht))) da_nil)) ⟨(wsF ls).getD o [], (wsF ls).getD t [], (wk o ?ho).1, (wk t ?ht).1, (wk o ?ho).2.trans (wk t ?ht).2.symm, rfl, rfl, rfl⟩)), fun _ s H C cl fp N'' hK' g'' => de_var 6⟩) (ok := blkOk_by (by rfl)) (hds := by rw [List.length_map, List.length_range]; exact sz' (by have := List.mem_range.mp ht; omega))⟩) (ok := blkOk_by (by rfl)) (hds := by rw [List.length_map, List.length_range]; exact sz' (by omega))))), ?_⟩
  case ht => exact List.mem_range.mp ht
  case ho => exact Nat.lt_trans (List.mem_range.mp ho) (List.mem_range.mp ht)
  case hr => have := List.mem_range.mp ht; omega
  have e : (ahF (wsF ls)).map nsL = (List.range (wsF ls).length).map fun t => nsL (ahRow (wsF ls) t) := by unfold ahF; rw [List.map_map]; rfl
  rw [e]
  exact .rt
end
end K58
set_option Elab.async false
set_option linter.all false
set_option maxRecDepth 100000
set_option maxHeartbeats 4000000
set_option autoImplicit false
namespace Dl
open PySem PySem.Spec PyProof.Rows L2
/-! ## a value is equal to itself, whatever it holds -/
/-- its rich comparison with what stands for the same is True -/
def RB (X : Cx) (n : Nat) (d : D) : Prop :=
  ∀ (A : Around) (pins : List (Addr × Obj)) (s : Shared) (σ : L2.St) (H F : Hp) (x y : V) (u v : Value), Sub X n A → Inv X pins σ H s → Same F H → RelV x u → RelV y v → Rep X.K F x d → Rep X.K F y d →
    wpAny (model X.prog X.w) A (richCompare .Eq u v) (fun r s' => r = .bool true ∧ ∃ H', Inv X pins σ H' s' ∧ Ext H H') X.xe s
section
variable {X : Cx} {N : En} {W : WX} {n m : Nat} {μ : List M} {d : D} {ds : List D}
theorem RB.mono (h : RB X n d) (hn : n ≤ m) : RB X m d := fun A pins s σ H F x y u v sb => h A pins s σ H F x y u v (sb.mono hn)
end
end Dl
set_option Elab.async false
set_option linter.all false
set_option maxRecDepth 100000
set_option maxHeartbeats 4000000
set_option autoImplicit false
namespace Dl
open PySem PySem.Spec PyProof.Rows L2
/-! ## {k: v for ..} with keys that are texts, as data -/
def putP (kv : List (Key × D)) (k : Key) (d : D) : List (Key × D) :=
  if (kv.any fun p => decide (p.1 = k)) = true then kv.map (fun p => if p.1 = k then (p.1, d) else p) else kv ++ [(k, d)]
inductive RKV (K : PySem.W.Frag) (F : Hp) : List (Key × V) → List (Key × D) → Prop
  | nil : RKV K F [] []
  | cons {k v d kvs kv} : Rep K F v d → RKV K F kvs kv → RKV K F ((k, v) :: kvs) ((k, d) :: kv)
section
variable {K : PySem.W.Frag} {F F' : Hp} {kvs : List (Key × V)} {kv : List (Key × D)} {k : Key} {v : V} {d : D}
theorem RKV.keys (h : RKV K F kvs kv) : kvs.map (·.1) = kv.map (·.1) := by
  induction h with
  | nil => rfl
  | cons _ _ ih => rw [List.map_cons, List.map_cons, ih]
theorem RKV.reps (h : RKV K F kvs kv) : Reps K F (kvs.map (·.2)) (kv.map (·.2)) := by
  induction h with
  | nil => exact .nil
  | cons r _ ih => exact .cons r ih
theorem RKV.mono (h : RKV K F kvs kv) (s : Same F F') : RKV K F' kvs kv := by
  induction h with
  | nil => exact .nil
  | cons r _ ih => exact .cons (r.mono s) ih
theorem RKV.any (h : RKV K F kvs kv) : (kvs.any fun p => decide (p.1 = k)) = kv.any fun p => decide (p.1 = k) := by
  induction h with
  | nil => rfl
  | cons _ _ ih => rw [List.any_cons, List.any_cons, ih]
theorem RKV.over (h : RKV K F kvs kv) (r : Rep K F v d) : RKV K F (kvs.map fun p => if p.1 = k then (p.1, v) else p) (kv.map fun p => if p.1 = k then (p.1, d) else p) := by
  induction h with
  | nil => exact .nil
  | @cons j x y ks es q _ ih =>
    rw [List.map_cons, List.map_cons]
    by_cases hj : j = k
    · rw [if_pos hj, if_pos hj]; exact .cons r ih
    · rw [if_neg hj, if_neg hj]; exact .cons q ih
theorem RKV.snoc (h : RKV K F kvs kv) (r : Rep K F v d) : RKV K F (kvs ++ [(k, v)]) (kv ++ [(k, d)]) := by
  induction h with
  | nil => exact .cons r .nil
  | cons q _ ih => exact .cons q ih
theorem RKV.put (h : RKV K F kvs kv) (r : Rep K F v d) : RKV K F (putK kvs k v) (putP kv k d) := by
  unfold putK putP
  rw [h.any]
  split
  · exact h.over r
  · exact h.snoc r
end
end Dl
set_option Elab.async false
set_option linter.all false
set_option maxRecDepth 100000
set_option maxHeartbeats 4000000
set_option autoImplicit false
namespace Dl
open PySem PySem.Spec PyProof.Rows L2
/-! ## dicts written: {}, and one text as key with an int as value -/
end Dl
set_option Elab.async false
set_option linter.all false
set_option maxRecDepth 100000
set_option maxHeartbeats 4000000
set_option autoImplicit false
namespace Dl
open PySem PySem.Spec PyProof.Rows L2
/-! ## dicts written with ints as keys -/
theorem app_one {α : Type} {A A3 : List α} {p : α} (h : (A ++ [p]) <+: A3) (l : A3.length = A.length + 1) : A3 = A ++ [p] := by
  obtain ⟨B, rfl⟩ := h
  simp only [List.length_append, List.length_cons, List.length_nil] at l
  have : B = [] := List.eq_nil_of_length_eq_zero (by omega)
  subst this
  exact List.append_nil _
end Dl
set_option Elab.async false
set_option linter.all false
set_option maxRecDepth 100000
set_option maxHeartbeats 4000000
set_option autoImplicit false
namespace Dl
open PySem PySem.Spec PyProof.Rows L2
/-! ## dicts that change: written, looked up, filled, listed, frozen -/
def dM (kv : List (Key × D)) : M := .dic (kv.map (·.1)) (kv.map (·.2))
def valP (kv : List (Key × D)) (k : Key) : Option D := (kv.find? fun p => decide (p.1 = k)).map (·.2)
def keyD : Key → D
  | .inl i => .int i
  | .inr x => .str x
theorem rkv_of {K : PySem.W.Frag} {F : Hp} : ∀ {kvs : List (Key × V)} {kv : List (Key × D)}, kvs.map (·.1) = kv.map (·.1) → Reps K F (kvs.map (·.2)) (kv.map (·.2)) → RKV K F kvs kv
  | [], [], _, _ => .nil
  | [], _ :: _, h, _ => by cases h
  | _ :: _, [], h, _ => by cases h
  | (k, v) :: kvs, (j, d) :: kv, h, r => by
    rw [List.map_cons, List.map_cons] at h
    injection h with h1 h2
    cases r with
    | cons a b =>
      have h1 : k = j := h1
      subst h1
      exact .cons a (rkv_of h2 b)
theorem RKV.val {K : PySem.W.Frag} {F : Hp} {kvs : List (Key × V)} {kv : List (Key × D)} (h : RKV K F kvs kv) (k : Key) : (valP kv k = none ∧ valV kvs k = none) ∨ ∃ v d, valP kv k = some d ∧ valV kvs k = some v ∧ Rep K F v d := by
  induction h with
  | nil => exact .inl ⟨rfl, rfl⟩
  | @cons j v d kvs kv r _ ih =>
    by_cases hj : j = k
    · exact .inr ⟨v, d, by simp [valP, hj], by simp [valV, hj], r⟩
    · have e1 : valP ((j, d) :: kv) k = valP kv k := by simp [valP, hj]
      have e2 : valV ((j, v) :: kvs) k = valV kvs k := by simp [valV, hj]
      rw [e1, e2]
      exact ih
theorem RKV.length {K : PySem.W.Frag} {F : Hp} {kvs : List (Key × V)} {kv : List (Key × D)} (h : RKV K F kvs kv) : kvs.length = kv.length := by
  induction h with
  | nil => rfl
  | cons _ _ ih => exact congrArg (· + 1) ih
theorem rep_key {K : PySem.W.Frag} {F : Hp} {v : V} {k : Key} (h : Rep K F v (keyD k)) : v = kV k := by
  cases k with
  | inl i => exact rs_int (A := []) h
  | inr x =>
    cases (show Rep K F v (.str x) from h)
    rfl
section
variable {X : Cx} {N : En} {W : WX} {n : Nat} {δ : List (Option S)} {μ μ1 μ2 μ3 : List M} {a b o e value : Expr} {pos pos' apos cpos : Pos} {d : D} {kv : List (Key × D)} {k : Key} {j : Nat}
theorem dic_at {F : Hp} {A : List Addr} {H : Hp} {ad : Addr} (R : Rc N F A H μ) (ha : A[j]? = some ad) (hm : μ[j]? = some (dM kv)) : ∃ kvs, H ad = some (.dK kvs) ∧ RKV N.K F kvs kv := by
  obtain ⟨kvs, h1, h2, h3⟩ := R.mus j ad _ ha hm
  exact ⟨kvs, h1, rkv_of h2 h3⟩
/-- d[k] -/
theorem de_dgetM (g : Go X N W n) (ho : DE X N W δ μ o (.v (.l j)) μ1) (hi : DE X N W δ μ1 e (.v (.p (keyD k))) μ2) (hm : μ2[j]? = some (dM kv)) (hv : valP kv k = some d) (hs : NoSl e := by exact fun _ _ => rfl) : DE X N W δ μ (.Subscript o e pos) (.v (.p d)) μ2 :=
  PE.imp (pe_dget (by have := g.room.un; omega) ho hi hs) fun σ H Q ⟨F, A, R0, q⟩ => ⟨F, A, R0, fun x F1 A1 H1 e1 p1 R1 rx => ⟨F1, A1, R1, fun y F2 A2 H2 e2 p2 R2 ry => by
    obtain ⟨ad, rfl, ha⟩ := rx
    obtain ⟨kvs, h1, h2⟩ := dic_at R2.rc (getElem?_pre p2 ha) hm
    obtain rfl := rep_key ry
    rcases h2.val k with ⟨z, _⟩ | ⟨v, d', h3, h4, h5⟩
    · rw [hv] at z; cases z
    · rw [hv] at h3; cases h3
      exact ⟨ad, v, rfl, by have := DGet.k (k := k) h1; rw [h4] at this; exact this, q v F2 A2 H2 (e1.trans e2) (p1.trans p2) R2 h5⟩⟩⟩
theorem de_dget2M (g : Go X N W n) {d2 : D} (ho : DE X N W δ μ o (.v (.l j)) μ1) (hm1 : μ1[j]? = some (dM kv)) (ha : DE X N W δ μ1 a (.v (.p (keyD k))) μ2) (hb : DE X N W δ μ2 b (.v (.p d2)) μ3) (hm : μ3[j]? = some (dM kv)) (m : M2 X o "get" apos a b cpos := by exact ⟨rfl, rfl, rfl, rfl⟩) :
    DE X N W δ μ (.Call (.Attribute o "get" apos) [a, b] [] cpos) (.v (.p ((valP kv k).getD d2))) μ3 :=
  PE.imp (pe_dget2 (by have := g.room.un; omega) ho ha hb m) fun σ H Q ⟨F, A, R0, q⟩ => ⟨F, A, R0, fun x F1 A1 H1 e1 p1 R1 rx => by
    obtain ⟨ad, rfl, had⟩ := rx
    obtain ⟨kvs0, h0, _⟩ := dic_at R1.rc had hm1
    refine ⟨ad, rfl, .inl ⟨kvs0, .inl h0⟩, F1, A1, R1, fun y F2 A2 H2 e2 p2 R2 ry => ⟨F2, A2, R2, fun z F3 A3 H3 e3 p3 R3 rz => ?_⟩⟩
    obtain rfl := rep_key ry
    have rz : Rep N.K F3 z d2 := rz
    obtain ⟨kvs, h1, h2⟩ := dic_at R3.rc (getElem?_pre (p2.trans p3) had) hm
    refine ⟨valV kvs k, DGet.k h1, ?_⟩
    rcases h2.val k with ⟨z1, z2⟩ | ⟨v, d', h3, h4, h5⟩
    · rw [z2]
      rw [z1] at q
      exact q z F3 A3 H3 ((e1.trans e2).trans e3) ((p1.trans p2).trans p3) R3 rz
    · rw [h4]
      rw [h3] at q
      exact q v F3 A3 H3 ((e1.trans e2).trans e3) ((p1.trans p2).trans p3) R3 h5⟩
/-- d[k] = v -/
theorem ds_dput (g : Go X N W n) (hv : DE X N W δ μ value (.v (.p d)) μ1) (ho : DE X N W δ μ1 o (.v (.l j)) μ2) (hi : DE X N W δ μ2 e (.v (.p (keyD k))) μ3) (hm : μ3[j]? = some (dM kv)) (hl : kv.length < sizeLine)
    (hs : swapsWith value (some (.Subscript o e pos')) pos.line X.env = pure false := by rfl) : DS X N W δ μ (.Assign [.Subscript o e pos'] value pos) (.nx δ (μ3.set j (dM (putP kv k d)))) :=
  PS.imp (ps_dput (by have := g.room.un; omega) ho hi hv hs) fun K σ H ⟨F, A, R0, q⟩ => ⟨F, A, R0, fun v F1 A1 H1 e1 p1 R1 rv => ⟨F1, A1, R1, fun x F2 A2 H2 e2 p2 R2 rx => ⟨F2, A2, R2, fun y F3 A3 H3 e3 p3 R3 ry => by
    obtain ⟨ad, rfl, had⟩ := rx
    obtain rfl := rep_key ry
    have rv : Rep N.K F1 v d := rv
    have had3 := getElem?_pre p3 had
    obtain ⟨kvs, h1, h2⟩ := dic_at R3.rc had3 hm
    have h4 := h2.put (k := k) (rv.mono (e2.trans e3))
    refine ⟨ad, upd H3 ad (.dK (putK kvs k v)), rfl, DPut.k h1 (by rw [h2.length]; exact hl), ?_⟩
    exact q σ F3 A3 _ ((e1.trans e2).trans e3) ((p1.trans p2).trans p3) (R3.to (Same.refl _) (List.prefix_refl _) (R3.rc.write had3 hm trivial ⟨_, upd_same, h4.keys, h4.reps⟩))⟩⟩⟩
/-- list(d) -/
theorem keys_rep {K : PySem.W.Frag} {F : Hp} : ∀ {kvs : List (Key × V)} {kv : List (Key × D)}, RKV K F kvs kv → Reps K F (kvs.map fun p => kV p.1) (kv.map fun p => keyD p.1)
  | _, _, .nil => .nil
  | _, _, .cons (k := k) r h => .cons (by cases k with | inl i => exact .int i | inr x => exact .str x) (keys_rep h)
theorem c_listDM (g : Go X N W n) (hm : μ[j]? = some (dM kv)) : CallOk X N W (.type "list") μ [.l j] (.v (.p (.lst (kv.map fun p => keyD p.1)))) μ :=
  ⟨_, call_listD g.calm, fun σ δ F A H vs Q R rv q => by
    obtain ⟨v, rfl, ad, rfl, had⟩ := one_of rv
    obtain ⟨kvs, h1, h2⟩ := dic_at R.rc had hm
    refine ⟨ad, kvs, rfl, .inl h1, fun p np => ?_⟩
    have sm := same_updN (o := .lst (kvs.map fun p => kV p.1)) (R.rc.fresh np).2.1
    exact q (.ref p) _ A _ sm (List.prefix_refl _) (R.to sm (List.prefix_refl _) (R.rc.frozen np _)) (.lst upd_same ((keys_rep h2).mono sm))⟩
/-- {}, {k: v}: one that will change -/
theorem de_dicM0 : DE X N W δ μ (.Dict [] [] pos) (.v (.l μ.length)) (μ ++ [dM []]) :=
  PE.imp pe_dnewK fun σ H Q ⟨F, A, R, q⟩ p np => by
    have pp : A <+: A ++ [p] := List.prefix_append _ _
    exact q (.ref p) F (A ++ [p]) _ (Same.refl _) pp (R.to (Same.refl _) pp (R.rc.newM (m := dM []) np (o := .dK []) ⟨[], upd_same, rfl, .nil⟩)) ⟨p, rfl, by rw [← R.rc.len]; exact List.getElem?_concat_length ..⟩
end
end Dl
set_option Elab.async false
set_option linter.all false
set_option maxRecDepth 100000
set_option maxHeartbeats 4000000
set_option autoImplicit false
namespace K58
open PySem PySem.Spec PyProof.Rows L2 Dl Cq
/-! ### forms beside each other -/
theorem scJoined : FnScope ["one", "other", "times", "knob", "many"] ["one", "other"] (defScope sJoined) := ⟨rfl, rfl, rfl, by decide +kernel, rfl, by decide +kernel, by decide +kernel⟩
theorem scTBackF : FnScope ["form", "knob", "many"] ["form"] (defScope sTBackF) := ⟨rfl, rfl, rfl, by decide +kernel, rfl, by decide +kernel, by decide +kernel⟩
def getS (kv : Fm) (k : Str) : Int := ((kv.find? fun p => decide (p.1 = k)).map (·.2)).getD 0
def putS (kv : Fm) (k : Str) (i : Int) : Fm := if (kv.any fun p => decide (p.1 = k)) = true then kv.map (fun p => if p.1 = k then (p.1, i) else p) else kv ++ [(k, i)]
def tmG (t : Fm) (xs : Fm) : Fm := xs.foldl (fun kv p => putS kv p.1 (getS kv p.1 + p.2)) t
def tmF (xs : Fm) : Fm := tmG [] xs
def jnF (one other : Fm) : Fm := ((ascF sltB ((tmF (one ++ other)).map (·.1))).filter fun z => !decide (getS (tmF (one ++ other)) z = 0)).map fun z => (z, getS (tmF (one ++ other)) z)
def bkF (x : Fm) : Fm := x.map fun p => (p.1, -p.2)
def jD (kv : Fm) : List (Key × D) := kv.map fun p => ((.inr p.1 : Key), D.int p.2)
theorem jD_val (kv : Fm) (k : Str) : valP (jD kv) (.inr k) = (kv.find? fun p => decide (p.1 = k)).map fun p => D.int p.2 := by
  unfold valP jD
  induction kv with
  | nil => rfl
  | cons a kv ih =>
    rw [List.map_cons, List.find?_cons, List.find?_cons]
    by_cases h : a.1 = k
    · rw [decide_eq_true h, decide_eq_true (show (Sum.inr a.1 : Key) = .inr k by rw [h])]
      rfl
    · rw [decide_eq_false h, decide_eq_false (show ¬ (Sum.inr a.1 : Key) = .inr k from fun e => h (Sum.inr.inj e))]
      exact ih
theorem jD_get (kv : Fm) (k : Str) : (valP (jD kv) (.inr k)).getD (.int 0) = .int (getS kv k) := by
  rw [jD_val]
  unfold getS
  cases kv.find? fun p => decide (p.1 = k) <;> rfl
theorem jD_put (kv : Fm) (k : Str) (i : Int) : putP (jD kv) (.inr k) (.int i) = jD (putS kv k i) := by
  have e : ((jD kv).any fun p => decide (p.1 = .inr k)) = kv.any fun p => decide (p.1 = k) := by
    unfold jD
    rw [List.any_map]
    congr 1
    funext p
    exact decide_eq_decide.mpr ⟨fun h => Sum.inr.inj h, fun h => congrArg Sum.inr h⟩
  unfold putP putS
  rw [e]
  split
  · unfold jD
    rw [List.map_map, List.map_map]
    refine List.map_congr_left fun p _ => ?_
    show (if (Sum.inr p.1 : Key) = .inr k then ((Sum.inr p.1 : Key), D.int i) else (Sum.inr p.1, D.int p.2)) = _
    by_cases h : p.1 = k
    · rw [if_pos (by rw [h])]
      show _ = ((Sum.inr (if p.1 = k then (p.1, i) else p).1 : Key), D.int (if p.1 = k then (p.1, i) else p).2)
      rw [if_pos h]
    · rw [if_neg fun e => h (Sum.inr.inj e)]
      show _ = ((Sum.inr (if p.1 = k then (p.1, i) else p).1 : Key), D.int (if p.1 = k then (p.1, i) else p).2)
      rw [if_neg h]
  · unfold jD
    rw [List.map_append]
    rfl
theorem putS_len (kv : Fm) (k : Str) (i : Int) : (putS kv k i).length ≤ kv.length + 1 := by
  unfold putS
  split
  · rw [List.length_map]; omega
  · rw [List.length_append]; simp
theorem get_some {kv : Fm} {z : Str} (h : z ∈ kv.map (·.1)) : valP (jD kv) (.inr z) = some (.int (getS kv z)) := by
  rw [jD_val]
  unfold getS
  cases e : kv.find? fun p => decide (p.1 = z) with
  | some p => rfl
  | none =>
    obtain ⟨p, hp, rfl⟩ := List.mem_map.mp h
    have := List.find?_eq_none.mp e p hp
    simp at this
def rJoinedF : Rel := fun ss μ r μ' => ∃ (one other : Fm), one.length ≤ 25 ∧ other.length ≤ 25 ∧ ss = [.p (fmD one), .p (fmD other)] ∧ r = .v (.p (fmD (jnF one other))) ∧ μ' = μ
def rBackF : Rel := fun ss μ r μ' => ∃ (x : Fm), x.length ≤ 100 ∧ ss = [.p (fmD x)] ∧ r = .v (.p (fmD (bkF x))) ∧ μ' = μ
section
variable {P : Program} {w : World} {K : PySem.W.Frag} {mg : Str → Option Value} {base : Heap} {f : Addr} {fd : FuncData}
theorem ok_backF (F : Fun K "turned_back" "turned_back" sTBackF f fd) (T : TM mg) : FnOk P w K mg base (L2.CX P w) 1 f fd ["form"] (spD K rBackF) := by
  refine fn_D (k := 0) F scTBackF (fun ss μ r μ' h => by obtain ⟨_, _, rfl, _⟩ := h; rfl) ?_
  intro cdv A0 outer s0 H E N W ss μ r μ' g hA hR
  obtain ⟨x, h1, rfl, rfl, rfl⟩ := hR
  refine ⟨_, dss_ret (de_callT (T := "tuple") (da_cons (s := .p (.lst (x.map fun p => Dl.pairD (p.1, -p.2)))) (de_lc g [("knob", 1), ("many", 2)] (di_tup g (de_var 0)) (fun s H C cl fp => dg_tup (dgs_cons (dg_name 1 g.nd) (dgs_cons (dg_name 2 g.nd) dgs_nil)) g.hK g.calm) (of_maps (gd := Dl.pairD) (fy := fun p => Dl.pairD (p.1, -p.2)) fun p hp => ⟨_, rfl, fun s H C cl fp N' hK g' => de_tup (dp_cons (de_var 1) (dp_cons (de_un (de_var 2) u_neg) dp_nil))⟩) (ok := blkOk_by (by rfl)) (hds := by rw [List.length_map]; exact sz' (by omega))) da_nil) c_tupL T.tuple (by decide +kernel)), ?_⟩
  have e : (bkF x).map Dl.pairD = x.map fun p => Dl.pairD (p.1, -p.2) := by unfold bkF; rw [List.map_map]; rfl
  unfold fmD
  rw [e]
  exact .rt
theorem ok_joinedF (F : Fun K "joined" "joined" sJoined f fd) (T : TM mg) (ca : Cf P w K mg base 2 "ascending" [] K58F.rAsc) : FnOk P w K mg base (L2.CX P w) 3 f fd ["one", "other"] (spD K rJoinedF) := by
  refine fn_D (k := 2) F scJoined (fun ss μ r μ' h => by obtain ⟨_, _, _, _, rfl, _⟩ := h; rfl) ?_
  intro cdv A0 outer s0 H E N W ss μ r μ' g hA hR
  obtain ⟨one, other, h1, h2, rfl, rfl, rfl⟩ := hR
  obtain ⟨δ', hlo, ⟨x3, x4, rfl⟩, hI⟩ := loop_fo (X := cxOf (L2.CX P w) P w K mg base ["one", "other", "times", "knob", "many"] "joined" (defScope sJoined) f cdv A0 outer s0 H E) (N := N) (W := W) (f := asTup [asName 3, asName 4]) (body := bodyOf sJoined 1) (T := Fm) (mu := fun t => μ' ++ [dM (jD t)]) (nx := fun p t => putS t p.1 (getS t p.1 + p.2)) (gd := Dl.pairD)
    (fun k t => t.length + k ≤ 50) (fun t δ => ∃ x3 x4, δ = [some (.p (fmD one)), some (.p (fmD other)), some (.l μ'.length), x3, x4]) (one ++ other) [some (.p (fmD one)), some (.p (fmD other)), some (.l μ'.length), none, none] []
    (fun p hp k t δ hδ hI => by
      obtain ⟨x3, x4, rfl⟩ := hδ
      have i1 := hI
      have l1 := putS_len t p.1 (getS t p.1 + p.2)
      refine ⟨by show (putS t p.1 (getS t p.1 + p.2)).length + k ≤ 50; omega, _, _, rfl, dss_cons (ds_to (ds_dput g (k := .inr p.1) (kv := jD t) (d := .int (getS t p.1 + p.2)) (de_bin (de_of (d' := .int (getS t p.1)) (de_dget2M g (k := .inr p.1) (d2 := .int 0) (de_var 2) (end_at rfl) (de_var 3) de_int (end_at rfl)) (jD_get t p.1)) (de_var 4) o_add) (de_var 2) (de_var 3) (end_at rfl) (by unfold jD; rw [List.length_map]; exact sz' (by omega))) (by rw [end_set rfl, jD_put])) (cn dss_nil), _, _, rfl⟩) ⟨_, _, rfl⟩ (by simp; omega)
  have i1 : (tmF (one ++ other)).length + 0 ≤ 50 := hI
  have ek : ((jD (tmF (one ++ other))).map fun p => keyD p.1) = ((tmF (one ++ other)).map (·.1)).map D.str := by unfold jD; rw [List.map_map, List.map_map]; rfl
  have hm : ∀ z ∈ ascF sltB ((tmF (one ++ other)).map (·.1)), z ∈ (tmF (one ++ other)).map (·.1) := fun z hz => (mem_ascF sltB z _).mp hz
  have hl : (ascF sltB ((tmF (one ++ other)).map (·.1))).length ≤ 50 := Nat.le_trans (ascF_len sltB _) (by rw [List.length_map]; exact i1)
  refine ⟨_, dss_cons (ds_set 2 de_dicM0 g.nd) (cn (dss_cons (ds_for g (di_of (di_lst g (de_lst (dp_starT (de_var 0) (dp_starT (de_var 1) dp_nil g.hK) g.hK) (sz (by simp; omega)))) (show _ = (one ++ other).map Dl.pairD by rw [List.map_append]; simp)) (dg_tup (dgs_cons (dg_name 3 g.nd) (dgs_cons (dg_name 4 g.nd) dgs_nil)) g.hK g.calm) hlo) (cn
    (dss_ret (de_callT (T := "tuple") (da_cons (s := .p (.lst ((jnF one other).map Dl.pairD))) (de_of (de_lcIf g [("knob", 3)] (di_tup g (de_call g ca (da_cons (de_of (d' := .lst (((tmF (one ++ other)).map (·.1)).map D.str)) (de_callT (T := "list") (da_cons (de_var 2) da_nil) (c_listDM g (end_at rfl)) T.list (by decide +kernel)) (congrArg D.lst ek)) da_nil) (.inl ⟨rfl, (tmF (one ++ other)).map (·.1), fun _ _ => trivial, by rw [List.length_map]; exact i1, rfl, rfl⟩))) (fun s H C cl fp => dg_name 3 g.nd) (of_filt (gd := D.str) (fy := fun z => Dl.pairD (z, getS (tmF (one ++ other)) z)) (q := fun z => !decide (getS (tmF (one ++ other)) z = 0)) fun z hz => ⟨_, rfl, fun s H C cl fp N' hK g' => dt_cmp (de_dgetM g' (k := .inr z) (de_var 2) (de_var 3) (end_at rfl) (get_some (hm z hz))) de_int o_neI, fun _ s H C cl fp N' hK g' => de_tup (dp_cons (de_var 3) (dp_cons (de_dgetM g' (k := .inr z) (de_var 2) (de_var 3) (end_at rfl) (get_some (hm z hz))) dp_nil))⟩) (ok := blkOk_by (by rfl)) (hds := by rw [List.length_map]; exact sz' (by omega))) (by unfold jnF; rw [List.map_map]; rfl)) da_nil) c_tupL T.tuple (by decide +kernel)))))), ?_⟩
  have e : (μ' ++ [dM (jD (tmF (one ++ other)))]).take μ'.length = μ' := List.take_left ..
  conv => rhs; rw [← e]
  exact .rtT (Nat.le_refl _)
end
end K58
set_option Elab.async false
set_option linter.all false
set_option maxRecDepth 100000
set_option maxHeartbeats 4000000
set_option autoImplicit false
namespace K58
open PySem PySem.Spec PyProof.Rows L2 Dl Cq
/-! ### rows put together -/
theorem scPair : FnScope ["rows", "other", "one", "letters", "between", "row", "found"] ["rows"] (defScope sPair) := ⟨rfl, rfl, rfl, by decide +kernel, rfl, by decide +kernel, by decide +kernel⟩
theorem scPutTog : FnScope ["rows", "pair", "one", "other", "letters", "form", "middle"] ["rows"] (defScope sPutTog) := ⟨rfl, rfl, rfl, by decide +kernel, rfl, by decide +kernel, by decide +kernel⟩
section
variable {X : Cx} {N : En} {W : WX} {f : As} {body : List Stmt} {μ : List M}
theorem loop_find {α : Type} {gd : α → D} {q : α → Option D} (Δ : List (Option S) → Prop) : ∀ (l : List α) (δ : List (Option S)), (∀ a ∈ l, ∀ δ, Δ δ → ∃ δt, f (gd a) δ = some δt ∧ ((q a = none ∧ ∃ δ1, DSs X N W δt μ body (.nx δ1 μ) ∧ Δ δ1) ∨ (∃ d, q a = some d ∧ DSs X N W δt μ body (.rt (.p d) μ)))) → Δ δ →
    (l.findSome? q = none ∧ ∃ δ', Loop X N W f body (l.map gd) δ μ (.nx δ' μ) ∧ Δ δ') ∨ (∃ d, l.findSome? q = some d ∧ Loop X N W f body (l.map gd) δ μ (.rt (.p d) μ))
  | [], δ, _, h0 => .inl ⟨rfl, δ, .nil, h0⟩
  | a :: l, δ, h, h0 => by
    obtain ⟨δt, h1, (⟨h2, δ1, h3, h4⟩ | ⟨d, h2, h3⟩)⟩ := h a List.mem_cons_self δ h0
    · rcases loop_find Δ l δ1 (fun b hb => h b (List.mem_cons_of_mem _ hb)) h4 with ⟨q1, δ', q2, q3⟩ | ⟨d, q1, q2⟩
      · exact .inl ⟨by rw [List.findSome?_cons, h2]; exact q1, δ', .next h1 h3 q2, q3⟩
      · exact .inr ⟨d, by rw [List.findSome?_cons, h2]; exact q1, .next h1 h3 q2⟩
    · exact .inr ⟨d, by rw [List.findSome?_cons, h2], .ret h1 h3⟩
end
def bodyOf2 (s : Stmt) (i j : Nat) : List Stmt := match (bodyOf s i).getD j (.Pass ⟨0, 0, 0, 0⟩) with
  | .For _ _ b _ _ => b
  | _ => []
abbrev Pr := List Nat × Fm
def prD (x : Pr) : D := .tup [.str (st x.1), fmD x.2]
def okRows (n : Nat) (rows : List Pr) : Prop := rows.length ≤ 20 ∧ ∀ x ∈ rows, okL x.1 ∧ x.1.length = n
def ltAt (rows : List Pr) (i : Nat) : List Nat := (rows.getD i ([], [])).1
def betF (rows : List Pr) (one other : Nat) : List (List Nat) := ((rows.drop (one + 1)).take (other - (one + 1))).map (·.1)
def condB (rows : List Pr) (one other : Nat) : Bool := decide (ltAt rows one = ltAt rows other) && (betF rows one other).all fun L => decide (qs (ltAt rows one) L % 2 = 0)
def inPair (rows : List Pr) (other : Nat) : Option (Nat × Nat) := (List.range other).findSome? fun one => if condB rows one other = true then some (one, other) else none
def pairF (rows : List Pr) : Option (Nat × Nat) := (List.range rows.length).findSome? (inPair rows)
def ijD (p : Nat × Nat) : D := .tup [inD p.1, inD p.2]
def optD : Option (Nat × Nat) → D
  | none => .non
  | some p => ijD p
def rPair : Rel := fun ss μ r μ' => ∃ (n : Nat) (rows : List Pr), okRows n rows ∧ ss = [.p (.lst (rows.map prD))] ∧ r = .v (.p (optD (pairF rows))) ∧ μ' = μ
theorem find_map {α β γ : Type} (g : β → γ) (q : α → Option β) : ∀ l : List α, l.findSome? (fun a => (q a).map g) = (l.findSome? q).map g
  | [] => rfl
  | a :: l => by
    rw [List.findSome?_cons, List.findSome?_cons]
    cases q a with
    | none => exact find_map g q l
    | some b => rfl
section
variable {P : Program} {w : World} {K : PySem.W.Frag} {mg : Str → Option Value} {base : Heap} {f : Addr} {fd : FuncData}
theorem row_at {rows : List Pr} {i : Nat} (h : i < rows.length) : atI (rows.map prD) ((i : Nat) : Int) = some (prD (rows.getD i ([], []))) := at_getD h
theorem ok_pair (F : Fun K "_pair" "_pair" sPair f fd) (T : TM mg) (cp : Cf P w K mg base 2 "pass_by" [] rPassBy) : FnOk P w K mg base (L2.CX P w) 3 f fd ["rows"] (spD K rPair) := by
  refine fn_D (k := 2) F scPair (fun ss μ r μ' h => by obtain ⟨_, _, _, rfl, _⟩ := h; rfl) ?_
  intro cdv A0 outer s0 H E N W ss μ r μ' g hA hR
  obtain ⟨n, rows, ⟨h20, hr⟩, rfl, rfl, rfl⟩ := hR
  have ol : ∀ i, i < rows.length → okL (ltAt rows i) ∧ (ltAt rows i).length = n := fun i hi => by
    unfold ltAt
    rw [List.getD_eq_getElem?_getD, List.getElem?_eq_getElem hi]
    exact hr _ (List.getElem_mem hi)
  have ob : ∀ i j, ∀ L ∈ betF rows i j, okL L ∧ L.length = n := fun i j L hL => by
    obtain ⟨x, hx, rfl⟩ := List.mem_map.mp hL
    exact hr x (List.mem_of_mem_drop (List.mem_of_mem_take hx))
  have inner : ∀ other, other < rows.length → ∀ x2 x3 x4,
      (inPair rows other = none ∧ ∃ δ', Loop (cxOf (L2.CX P w) P w K mg base ["rows", "other", "one", "letters", "between", "row", "found"] "_pair" (defScope sPair) f cdv A0 outer s0 H E) N W (asName 2) (bodyOf2 sPair 0 0) ((List.range other).map inD) [some (.p (.lst (rows.map prD))), some (.p (inD other)), x2, x3, x4, none, none] μ' (.nx δ' μ') ∧ ∃ x2 x3 x4, δ' = [some (.p (.lst (rows.map prD))), some (.p (inD other)), x2, x3, x4, none, none]) ∨
      (∃ p, inPair rows other = some p ∧ Loop (cxOf (L2.CX P w) P w K mg base ["rows", "other", "one", "letters", "between", "row", "found"] "_pair" (defScope sPair) f cdv A0 outer s0 H E) N W (asName 2) (bodyOf2 sPair 0 0) ((List.range other).map inD) [some (.p (.lst (rows.map prD))), some (.p (inD other)), x2, x3, x4, none, none] μ' (.rt (.p (ijD p)) μ')) := by
    intro other ho x2 x3 x4
    have hl := loop_find (X := cxOf (L2.CX P w) P w K mg base ["rows", "other", "one", "letters", "between", "row", "found"] "_pair" (defScope sPair) f cdv A0 outer s0 H E) (N := N) (W := W) (f := asName 2) (body := bodyOf2 sPair 0 0) (μ := μ') (gd := inD) (q := fun one => (if condB rows one other = true then some (one, other) else none).map ijD)
      (fun δ => ∃ x2 x3 x4, δ = [some (.p (.lst (rows.map prD))), some (.p (inD other)), x2, x3, x4, none, none]) (List.range other) [some (.p (.lst (rows.map prD))), some (.p (inD other)), x2, x3, x4, none, none]
      (fun one h1 δ hδ => by
        obtain ⟨x2, x3, x4, rfl⟩ := hδ
        have h1 := List.mem_range.mp h1
        have hone : one < rows.length := by omega
        have ec : cutX (rows.map prD) (some ((one + 1 : Nat) : Int)) (some ((other : Nat) : Int)) = ((rows.drop (one + 1)).take (other - (one + 1))).map prD := by rw [cutX_mid, List.map_take, List.map_drop]
        have lb : ((rows.drop (one + 1)).take (other - (one + 1))).length ≤ 20 := by rw [List.length_take, List.length_drop]; omega
        have eb : (((rows.drop (one + 1)).take (other - (one + 1))).map fun x => sD x.1) = (betF rows one other).map sD := by unfold betF; rw [List.map_map]; rfl
        have d1 : DS (cxOf (L2.CX P w) P w K mg base ["rows", "other", "one", "letters", "between", "row", "found"] "_pair" (defScope sPair) f cdv A0 outer s0 H E) N W [some (.p (.lst (rows.map prD))), some (.p (inD other)), some (.p (inD one)), x3, x4, none, none] μ' ((bodyOf2 sPair 0 0).getD 0 (.Pass ⟨0, 0, 0, 0⟩)) (.nx [some (.p (.lst (rows.map prD))), some (.p (inD other)), some (.p (inD one)), some (.p (sD (ltAt rows one))), x4, none, none] μ') :=
          ds_set 3 (de_ix (de_ix (de_var 0) (de_var 2) (i_lst g (row_at hone))) de_int (i_tup (i := 0) g rfl)) g.nd
        have d2 : DS (cxOf (L2.CX P w) P w K mg base ["rows", "other", "one", "letters", "between", "row", "found"] "_pair" (defScope sPair) f cdv A0 outer s0 H E) N W [some (.p (.lst (rows.map prD))), some (.p (inD other)), some (.p (inD one)), some (.p (sD (ltAt rows one))), x4, none, none] μ' ((bodyOf2 sPair 0 0).getD 1 (.Pass ⟨0, 0, 0, 0⟩)) (.nx [some (.p (.lst (rows.map prD))), some (.p (inD other)), some (.p (inD one)), some (.p (sD (ltAt rows one))), some (.p (.lst ((betF rows one other).map sD))), none, none] μ') :=
          (congrArg (fun v => DS (cxOf (L2.CX P w) P w K mg base ["rows", "other", "one", "letters", "between", "row", "found"] "_pair" (defScope sPair) f cdv A0 outer s0 H E) N W [some (.p (.lst (rows.map prD))), some (.p (inD other)), some (.p (inD one)), some (.p (sD (ltAt rows one))), x4, none, none] μ' ((bodyOf2 sPair 0 0).getD 1 (.Pass ⟨0, 0, 0, 0⟩)) (.nx [some (.p (.lst (rows.map prD))), some (.p (inD other)), some (.p (inD one)), some (.p (sD (ltAt rows one))), some (.p (.lst v)), none, none] μ')) eb).mp (ds_setLc 4 g [("row", 5)] (di_lst g (de_of (de_cutLm g (de_var 0) (de_of (d' := .int ((one + 1 : Nat) : Int)) (de_bin (de_var 2) de_int o_add) (congrArg D.int (by omega))) (de_var 1)) (congrArg D.lst ec))) (fun s H C cl fp => dg_name 5 g.nd) (of_maps (gd := prD) (fy := fun x => sD x.1) fun x hx => ⟨_, rfl, fun s H C cl fp N' hK g' => de_ix (de_var 5) de_int (i_tup (i := 0) g' rfl)⟩) (ok := blkOk_by (by rfl)) (hds := by rw [List.length_map]; exact sz' (by omega)))
        have t3 : DT (cxOf (L2.CX P w) P w K mg base ["rows", "other", "one", "letters", "between", "row", "found"] "_pair" (defScope sPair) f cdv A0 outer s0 H E) N W [some (.p (.lst (rows.map prD))), some (.p (inD other)), some (.p (inD one)), some (.p (sD (ltAt rows one))), some (.p (.lst ((betF rows one other).map sD))), none, none] μ' (ifC ((bodyOf2 sPair 0 0).getD 2 (.Pass ⟨0, 0, 0, 0⟩))) (condB rows one other) μ' :=
          dt_w (dw_and (dt_of (dt_cmp (de_var 3) (de_ix (de_ix (de_var 0) (de_var 1) (i_lst g (row_at ho))) de_int (i_tup (i := 0) g rfl)) o_eqS) (decide_eq_decide.mpr st_inj)) (fun _ => dw_and1 (dt_val (de_callB (id := "all") (da_cons (de_lc g [("found", 6)] (di_lst g (de_var 4)) (fun s H C cl fp => dg_name 6 g.nd) (of_maps (gd := sD) (fy := fun L => .bl (decide (qs (ltAt rows one) L % 2 = 0))) fun L hL => ⟨_, rfl, fun s H C cl fp N' hK g' => de_call g' cp (da_cons (de_var 3) (da_cons (de_var 6) da_nil)) ⟨ltAt rows one, L, (ol one hone).1, (ob one other L hL).1, (ol one hone).2.trans (ob one other L hL).2.symm, rfl, rfl, rfl⟩⟩) (ok := blkOk_by (by rfl)) (hds := by rw [List.length_map, betF, List.length_map]; exact sz' (by omega))) da_nil) (c_allm (q := fun L => decide (qs (ltAt rows one) L % 2 = 0)) g) T.all (by decide +kernel)))))
        cases hc : condB rows one other with
        | false => exact ⟨_, rfl, .inl ⟨rfl, _, dss_cons d1 (cn (dss_cons d2 (cn (dss_skip (dt_of t3 hc) dss_nil)))), _, _, _, rfl⟩⟩
        | true => exact ⟨_, rfl, .inr ⟨ijD (one, other), rfl, dss_cons d1 (cn (dss_cons d2 (cn (dss_ifT (dt_of t3 hc) (dss_ret (de_tup (dp_cons (de_var 2) (dp_cons (de_var 1) dp_nil)))) cr))))⟩⟩) ⟨_, _, _, rfl⟩
    rw [find_map] at hl
    rcases hl with ⟨q1, q2⟩ | ⟨d, q1, q2⟩
    · exact .inl ⟨Option.map_eq_none_iff.mp q1, q2⟩
    · obtain ⟨p, q3, rfl⟩ := Option.map_eq_some_iff.mp q1
      exact .inr ⟨p, q3, q2⟩
  have ho := loop_find (X := cxOf (L2.CX P w) P w K mg base ["rows", "other", "one", "letters", "between", "row", "found"] "_pair" (defScope sPair) f cdv A0 outer s0 H E) (N := N) (W := W) (f := asName 1) (body := bodyOf sPair 0) (μ := μ') (gd := inD) (q := fun other => (inPair rows other).map ijD)
    (fun δ => ∃ x1 x2 x3 x4, δ = [some (.p (.lst (rows.map prD))), x1, x2, x3, x4, none, none]) (List.range rows.length) [some (.p (.lst (rows.map prD))), none, none, none, none, none, none]
    (fun other h1 δ hδ => by
      obtain ⟨x1, x2, x3, x4, rfl⟩ := hδ
      have h1 := List.mem_range.mp h1
      rcases inner other h1 x2 x3 x4 with ⟨q1, δ', q2, x2', x3', x4', rfl⟩ | ⟨p, q1, q2⟩
      · exact ⟨_, rfl, .inl ⟨by rw [q1]; rfl, _, dss_cons (ds_for g (di_of (di_range1 (da_cons (de_var 1) da_nil) T.range (by omega)) (by rw [Int.toNat_natCast, rng_in])) (dg_name 2 g.nd) q2) (cn dss_nil), _, _, _, _, rfl⟩⟩
      · exact ⟨_, rfl, .inr ⟨ijD p, by rw [q1]; rfl, dss_cons (ds_for g (di_of (di_range1 (da_cons (de_var 1) da_nil) T.range (by omega)) (by rw [Int.toNat_natCast, rng_in])) (dg_name 2 g.nd) q2) cr⟩⟩) ⟨_, _, _, _, rfl⟩
  rw [find_map] at ho
  rcases ho with ⟨q1, δ', q2, x1, x2, x3, x4, rfl⟩ | ⟨d, q1, q2⟩
  · have e : pairF rows = none := Option.map_eq_none_iff.mp q1
    rw [e]
    exact ⟨_, dss_cons (ds_for g (di_of (di_range1 (da_cons (de_of (d' := .int (rows.length : Nat)) (de_callB (id := "len") (da_cons (de_var 0) da_nil) (c_lenL g) T.len (by decide +kernel)) (by rw [List.length_map])) da_nil) T.range (by omega)) (by rw [Int.toNat_natCast, rng_in])) (dg_name 1 g.nd) q2) (cn (dss_ret de_non)), .rt⟩
  · obtain ⟨p, q3, rfl⟩ := Option.map_eq_some_iff.mp q1
    have e : pairF rows = some p := q3
    rw [e]
    exact ⟨_, dss_cons (ds_for g (di_of (di_range1 (da_cons (de_of (d' := .int (rows.length : Nat)) (de_callB (id := "len") (da_cons (de_var 0) da_nil) (c_lenL g) T.len (by decide +kernel)) (by rw [List.length_map])) da_nil) T.range (by omega)) (by rw [Int.toNat_natCast, rng_in])) (dg_name 1 g.nd) q2) cr, .rt⟩
end
end K58
set_option Elab.async false
set_option linter.all false
set_option maxRecDepth 100000
set_option maxHeartbeats 4000000
set_option autoImplicit false
namespace K58
open PySem PySem.Spec PyProof.Rows L2 Dl Cq
def whC (s : Stmt) (i : Nat) : Expr := match (defBody s).getD i (.Pass ⟨0, 0, 0, 0⟩) with
  | .While c _ _ _ => c
  | _ => .Constant .none 0 ⟨0, 0, 0, 0⟩
def whB (s : Stmt) (i : Nat) : List Stmt := match (defBody s).getD i (.Pass ⟨0, 0, 0, 0⟩) with
  | .While _ b _ _ => b
  | _ => []
def rowAt (rows : List Pr) (i : Nat) : Pr := rows.getD i ([], [])
def midF (rows : List Pr) (p : Nat × Nat) : List Pr := if 0 < (jnF (rowAt rows p.1).2 (rowAt rows p.2).2).length then [((rowAt rows p.1).1, jnF (rowAt rows p.1).2 (rowAt rows p.2).2)] else []
def mergeF (rows : List Pr) (p : Nat × Nat) : List Pr := rows.take p.1 ++ (midF rows p ++ ((rows.drop (p.1 + 1)).take (p.2 - (p.1 + 1)) ++ rows.drop (p.2 + 1)))
def ptF : Nat → List Pr → Option (List Pr)
  | 0, rows => match pairF rows with
    | none => some rows
    | some _ => none
  | m + 1, rows => match pairF rows with
    | none => some rows
    | some p => ptF m (mergeF rows p)
def fmSum (rows : List Pr) : Nat := (rows.map fun x => x.2.length).sum
def okR (n : Nat) (rows : List Pr) : Prop := okRows n rows ∧ fmSum rows ≤ 25
theorem tmG_len : ∀ (xs t : Fm), (tmG t xs).length ≤ t.length + xs.length
  | [], t => Nat.le_refl _
  | a :: xs, t => by
    have h := tmG_len xs (putS t a.1 (getS t a.1 + a.2))
    have h2 := putS_len t a.1 (getS t a.1 + a.2)
    show (tmG (putS t a.1 (getS t a.1 + a.2)) xs).length ≤ t.length + (xs.length + 1)
    omega
theorem jnF_len (a b : Fm) : (jnF a b).length ≤ a.length + b.length := by
  unfold jnF
  rw [List.length_map]
  refine Nat.le_trans (List.length_filter_le _ _) (Nat.le_trans (ascF_len sltB _) ?_)
  rw [List.length_map]
  have := tmG_len (a ++ b) []
  rw [List.length_append] at this
  show (tmG [] (a ++ b)).length ≤ _
  simpa using this
theorem pair_lt {rows : List Pr} {p : Nat × Nat} (h : pairF rows = some p) : p.1 < p.2 ∧ p.2 < rows.length := by
  obtain ⟨other, h1, h2⟩ := List.exists_of_findSome?_eq_some h
  obtain ⟨one, h3, h4⟩ := List.exists_of_findSome?_eq_some h2
  split at h4
  · cases h4
    exact ⟨List.mem_range.mp h3, List.mem_range.mp h1⟩
  · cases h4
theorem fmSum_app (a b : List Pr) : fmSum (a ++ b) = fmSum a + fmSum b := by unfold fmSum; rw [List.map_append, List.sum_append_nat]
theorem split_rows {rows : List Pr} {i j : Nat} (h : i < j) (hj : j < rows.length) : rows = rows.take i ++ (rowAt rows i :: ((rows.drop (i + 1)).take (j - (i + 1)) ++ rowAt rows j :: rows.drop (j + 1))) := by
  have e1 : rows.drop j = rowAt rows j :: rows.drop (j + 1) := by
    rw [List.drop_eq_getElem_cons hj]
    unfold rowAt
    rw [List.getD_eq_getElem?_getD, List.getElem?_eq_getElem hj]
    rfl
  have hi : i < rows.length := by omega
  have e2 : rows.drop i = rowAt rows i :: rows.drop (i + 1) := by
    rw [List.drop_eq_getElem_cons hi]
    unfold rowAt
    rw [List.getD_eq_getElem?_getD, List.getElem?_eq_getElem hi]
    rfl
  have e3 : rows.drop (i + 1) = (rows.drop (i + 1)).take (j - (i + 1)) ++ rows.drop j := by
    have := (List.take_append_drop (j - (i + 1)) (rows.drop (i + 1))).symm
    rw [List.drop_drop] at this
    rw [show i + 1 + (j - (i + 1)) = j by omega] at this
    exact this
  conv => lhs; rw [← List.take_append_drop i rows, e2, e3, e1]
theorem merge_ok {n : Nat} {rows : List Pr} {p : Nat × Nat} (h : okR n rows) (hp : pairF rows = some p) : okR n (mergeF rows p) := by
  obtain ⟨h1, h2⟩ := pair_lt hp
  obtain ⟨⟨h3, h4⟩, h5⟩ := h
  have e := split_rows h1 h2
  have hs : fmSum rows = fmSum (rows.take p.1) + ((rowAt rows p.1).2.length + (fmSum ((rows.drop (p.1 + 1)).take (p.2 - (p.1 + 1))) + ((rowAt rows p.2).2.length + fmSum (rows.drop (p.2 + 1))))) := by
    conv => lhs; rw [e, fmSum_app]
    congr 1
    show fmSum (rowAt rows p.1 :: _) = _
    rw [show ∀ (x : Pr) l, fmSum (x :: l) = x.2.length + fmSum l from fun _ _ => by unfold fmSum; rw [List.map_cons, List.sum_cons], fmSum_app, show ∀ (x : Pr) l, fmSum (x :: l) = x.2.length + fmSum l from fun _ _ => by unfold fmSum; rw [List.map_cons, List.sum_cons]]
  have hl : rows.length = (rows.take p.1).length + (1 + (((rows.drop (p.1 + 1)).take (p.2 - (p.1 + 1))).length + (1 + (rows.drop (p.2 + 1)).length))) := by
    conv => lhs; rw [e]
    simp only [List.length_append, List.length_cons]
    omega
  have hj := jnF_len (rowAt rows p.1).2 (rowAt rows p.2).2
  have hmid : (midF rows p).length ≤ 1 ∧ fmSum (midF rows p) ≤ (rowAt rows p.1).2.length + (rowAt rows p.2).2.length ∧ ∀ x ∈ midF rows p, x.1 = (rowAt rows p.1).1 := by
    unfold midF
    split
    · refine ⟨by simp, ?_, fun x hx => ?_⟩
      · unfold fmSum
        simp only [List.map_cons, List.map_nil, List.sum_cons, List.sum_nil]
        omega
      · simp only [List.mem_cons, List.not_mem_nil, or_false] at hx
        rw [hx]
    · exact ⟨by simp, by unfold fmSum; simp, fun x hx => by cases hx⟩
  refine ⟨⟨?_, fun x hx => ?_⟩, ?_⟩
  · unfold mergeF
    rw [List.length_append, List.length_append, List.length_append]
    omega
  · have hi : p.1 < rows.length := by omega
    rcases List.mem_append.mp hx with hx | hx
    · exact h4 x (List.mem_of_mem_take hx)
    rcases List.mem_append.mp hx with hx | hx
    · rw [hmid.2.2 x hx]
      have := h4 _ (List.getElem_mem hi)
      unfold rowAt
      rw [List.getD_eq_getElem?_getD, List.getElem?_eq_getElem hi]
      exact this
    rcases List.mem_append.mp hx with hx | hx
    · exact h4 x (List.mem_of_mem_drop (List.mem_of_mem_take hx))
    · exact h4 x (List.mem_of_mem_drop hx)
  · unfold mergeF
    rw [fmSum_app, fmSum_app, fmSum_app]
    have := hmid.2.1
    omega
def rPutTog : Rel := fun ss μ r μ' => ∃ (n m : Nat) (rows out : List Pr), okR n rows ∧ ptF m rows = some out ∧ ss = [.p (.lst (rows.map prD))] ∧ r = .v (.p (.lst (out.map prD))) ∧ μ' = μ
section
variable {P : Program} {w : World} {K : PySem.W.Frag} {mg : Str → Option Value} {base : Heap} {f : Addr} {fd : FuncData}
theorem ok_puttog (F : Fun K "_put_together" "_put_together" sPutTog f fd) (T : TM mg) (cp : Cf P w K mg base 3 "_pair" [] rPair) (cj : Cf P w K mg base 3 "joined" [] rJoinedF) : FnOk P w K mg base (L2.CX P w) 4 f fd ["rows"] (spD K rPutTog) := by
  refine fn_D (k := 3) F scPutTog (fun ss μ r μ' h => by obtain ⟨_, _, _, _, _, _, rfl, _⟩ := h; rfl) ?_
  intro cdv A0 outer s0 H E N W ss μ r μ' g hA hR
  obtain ⟨n, m, rows, out, hok, hpt, rfl, rfl, rfl⟩ := hR
  have stp : ∀ (rows : List Pr) (p : Nat × Nat), okR n rows → pairF rows = some p → ∀ x2 x3 x4 x5 x6, ∃ y2 y3 y4 y5 y6, DSs (cxOf (L2.CX P w) P w K mg base ["rows", "pair", "one", "other", "letters", "form", "middle"] "_put_together" (defScope sPutTog) f cdv A0 outer s0 H E) N W [some (.p (.lst (rows.map prD))), some (.p (optD (pairF rows))), x2, x3, x4, x5, x6] μ' (whB sPutTog 1) (.nx [some (.p (.lst ((mergeF rows p).map prD))), some (.p (optD (pairF (mergeF rows p)))), y2, y3, y4, y5, y6] μ') := by
    intro rows p hok hp x2 x3 x4 x5 x6
    obtain ⟨h1, h2⟩ := pair_lt hp
    have hm := merge_ok hok hp
    have hi : p.1 < rows.length := by omega
    have l1 : (rowAt rows p.1).2.length ≤ 25 ∧ (rowAt rows p.2).2.length ≤ 25 := by
      have e := split_rows h1 h2
      have hs := hok.2
      rw [e, fmSum_app, show ∀ (x : Pr) l, fmSum (x :: l) = x.2.length + fmSum l from fun _ _ => by unfold fmSum; rw [List.map_cons, List.sum_cons], fmSum_app, show ∀ (x : Pr) l, fmSum (x :: l) = x.2.length + fmSum l from fun _ _ => by unfold fmSum; rw [List.map_cons, List.sum_cons]] at hs
      omega
    have ej : (jnF (rowAt rows p.1).2 (rowAt rows p.2).2).length ≤ 50 := by have := jnF_len (rowAt rows p.1).2 (rowAt rows p.2).2; omega
    have c1 : cutX (rows.map prD) none (some ((p.1 : Nat) : Int)) = (rows.take p.1).map prD := by rw [cutX_to, List.map_take]
    have c2 : cutX (rows.map prD) (some ((p.1 + 1 : Nat) : Int)) (some ((p.2 : Nat) : Int)) = ((rows.drop (p.1 + 1)).take (p.2 - (p.1 + 1))).map prD := by rw [cutX_mid, List.map_take, List.map_drop]
    have c3 : cutX (rows.map prD) (some ((p.2 + 1 : Nat) : Int)) none = (rows.drop (p.2 + 1)).map prD := by rw [cutX_from, List.map_drop]
    have hl20 : (mergeF rows p).length ≤ 20 := hm.1.1
    have el : (rows.take p.1).map prD ++ ((midF rows p).map prD ++ (((rows.drop (p.1 + 1)).take (p.2 - (p.1 + 1))).map prD ++ ((rows.drop (p.2 + 1)).map prD ++ []))) = (mergeF rows p).map prD := by
      unfold mergeF
      rw [List.append_nil, List.map_append, List.map_append, List.map_append]
    rw [hp]
    exact ⟨_, _, _, _, _, dss_cons (ds_asg (d := ijD p) (de_var 1) (dg_tup (dgs_cons (dg_name 2 g.nd) (dgs_cons (dg_name 3 g.nd) dgs_nil)) g.hK g.calm) rfl) (cn
      (dss_cons (ds_asg (d := prD (rowAt rows p.1)) (de_ix (de_var 0) (de_var 2) (i_lst g (row_at hi))) (dg_tup (dgs_cons (dg_name 4 g.nd) (dgs_cons (dg_name 5 g.nd) dgs_nil)) g.hK g.calm) rfl) (cn
      (dss_cons (ds_set 5 (de_call g cj (da_cons (s := .p (fmD (rowAt rows p.1).2)) (de_var 5) (da_cons (s := .p (fmD (rowAt rows p.2).2)) (de_ix (de_ix (de_var 0) (de_var 3) (i_lst g (row_at h2))) de_int (i_tup (i := 1) g rfl)) da_nil)) ⟨(rowAt rows p.1).2, (rowAt rows p.2).2, l1.1, l1.2, rfl, rfl, rfl⟩) g.nd) (cn
      (dss_cons (ds_set 6 (de_if (r := .v (.p (.lst ((midF rows p).map prD)))) (k := decide (0 < (jnF (rowAt rows p.1).2 (rowAt rows p.2).2).length)) (dt_of (dt_cmp (de_of (d' := .int (jnF (rowAt rows p.1).2 (rowAt rows p.2).2).length) (de_callB (id := "len") (da_cons (s := .p (fmD (jnF (rowAt rows p.1).2 (rowAt rows p.2).2))) (de_var 5) da_nil) (c_lenT g) T.len (by decide +kernel)) (by rw [List.length_map])) de_int o_gt) (decide_eq_decide.mpr (by omega))) (fun h => de_of (de_lst (dp_cons (de_tup (dp_cons (de_var 4) (dp_cons (de_var 5) dp_nil))) dp_nil) (sz (by show 1 ≤ 100000; decide))) (by unfold midF; rw [if_pos (of_decide_eq_true h)]; rfl)) (fun h => de_of (de_lst dp_nil (sz (by show 0 ≤ 100000; decide))) (by unfold midF; rw [if_neg (of_decide_eq_false h)]; rfl))) g.nd) (cn
      (dss_cons (ds_set 0 (de_of (d' := .lst ((mergeF rows p).map prD)) (de_lst (dp_star (de_of (d' := .lst ((rows.take p.1).map prD)) (de_cutLt g (de_var 0) (de_var 2)) (congrArg D.lst c1)) (dp_star (de_var 6) (dp_star (de_of (d' := .lst (((rows.drop (p.1 + 1)).take (p.2 - (p.1 + 1))).map prD)) (de_cutLm g (de_var 0) (de_of (d' := .int ((p.1 + 1 : Nat) : Int)) (de_bin (de_var 2) de_int o_add) (congrArg D.int (by omega))) (de_var 3)) (congrArg D.lst c2)) (dp_star (de_of (d' := .lst ((rows.drop (p.2 + 1)).map prD)) (de_cutLf g (de_var 0) (de_of (d' := .int ((p.2 + 1 : Nat) : Int)) (de_bin (de_var 3) de_int o_add) (congrArg D.int (by omega)))) (congrArg D.lst c3)) dp_nil g.hK) g.hK) g.hK) g.hK) (by rw [el, List.length_map]; exact sz (by omega))) (congrArg D.lst el)) g.nd) (cn
      (dss_cons (ds_set 1 (de_call g cp (da_cons (de_var 0) da_nil) ⟨n, mergeF rows p, hm.1, rfl, rfl, rfl⟩) g.nd) (cn dss_nil)))))))))))⟩
  have lp : ∀ (m : Nat) (rows out : List Pr), okR n rows → ptF m rows = some out → ∀ x2 x3 x4 x5 x6, ∃ y1 y2 y3 y4 y5 y6, Wl (cxOf (L2.CX P w) P w K mg base ["rows", "pair", "one", "other", "letters", "form", "middle"] "_put_together" (defScope sPutTog) f cdv A0 outer s0 H E) N W (whC sPutTog 1) (whB sPutTog 1) m [some (.p (.lst (rows.map prD))), some (.p (optD (pairF rows))), x2, x3, x4, x5, x6] μ' (.nx [some (.p (.lst (out.map prD))), y1, y2, y3, y4, y5, y6] μ') := by
    intro m
    induction m with
    | zero =>
      intro rows out hok h x2 x3 x4 x5 x6
      unfold ptF at h
      cases hp : pairF rows with
      | some p => rw [hp] at h; cases h
      | none =>
        rw [hp] at h
        cases h
        exact ⟨_, _, _, _, _, _, .stop (dt_of (dt_cmp (de_var 1) de_non o_notN) rfl)⟩
    | succ m ih =>
      intro rows out hok h x2 x3 x4 x5 x6
      unfold ptF at h
      cases hp : pairF rows with
      | none =>
        rw [hp] at h
        cases h
        exact ⟨_, _, _, _, _, _, .stop (dt_of (dt_cmp (de_var 1) de_non o_notN) rfl)⟩
      | some p =>
        rw [hp] at h
        obtain ⟨y2, y3, y4, y5, y6, hb⟩ := stp rows p hok hp x2 x3 x4 x5 x6
        obtain ⟨z1, z2, z3, z4, z5, z6, hw⟩ := ih (mergeF rows p) out (merge_ok hok hp) h y2 y3 y4 y5 y6
        rw [hp] at hb
        exact ⟨_, _, _, _, _, _, .turn (dt_of (dt_cmp (de_var 1) de_non o_notN) rfl) hb hw⟩
  obtain ⟨y1, y2, y3, y4, y5, y6, hw⟩ := lp m rows out hok hpt none none none none none
  exact ⟨_, dss_cons (ds_set 1 (de_call g cp (da_cons (de_var 0) da_nil) ⟨n, rows, hok.1, rfl, rfl, rfl⟩) g.nd) (cn (dss_cons (ds_while g hw) (cn (dss_ret (de_var 0))))), .rt⟩
end
end K58
set_option Elab.async false
set_option linter.all false
set_option maxRecDepth 100000
set_option maxHeartbeats 4000000
set_option autoImplicit false
namespace Dl
open PySem PySem.Spec PyProof.Rows L2
/-! ## enumerate(x), x a text -/
end Dl
set_option Elab.async false
set_option linter.all false
set_option maxRecDepth 100000
set_option maxHeartbeats 4000000
set_option autoImplicit false
namespace K58
open PySem PySem.Spec PyProof.Rows L2 Dl Cq
theorem scFirstFree : FnScope ["rows", "found", "place", "row", "other"] ["rows"] (defScope sFirstFree) := ⟨rfl, rfl, rfl, by decide +kernel, rfl, by decide +kernel, by decide +kernel⟩
theorem scFirstSeq : FnScope ["rows", "found", "first", "place", "row"] ["rows"] (defScope sFirstSeq) := ⟨rfl, rfl, rfl, by decide +kernel, rfl, by decide +kernel, by decide +kernel⟩
theorem scPlain : FnScope ["circuit", "rows", "letters", "sign", "form"] ["circuit"] (defScope sPlain) := ⟨rfl, rfl, rfl, by decide +kernel, rfl, by decide +kernel, by decide +kernel⟩
/-! ### one row < another -/
abbrev RowT := Str × PySem.W.Tup (Str × Int)
def rowP (x : Pr) : RowT := (st x.1, ⟨x.2⟩)
def rowLt (x y : Pr) : Bool := PySem.W.DatumOrd.lt (rowP x) (rowP y)
theorem pr_py (x : Pr) : PyD (prD x) (PySem.W.Datum.toD (rowP x)) := by
  have h : ∀ l : Fm, PyDs (l.map Dl.pairD) (l.map PySem.W.Datum.toD) := fun l => by
    induction l with
    | nil => exact .nil
    | cons a l ih => exact .cons (.tup (.cons (.str _) (.cons (.int _) .nil))) ih
  exact .tup (.cons (.str _) (.cons (.tup (h x.2)) .nil))
theorem op_ltR {X : Cx} (hu : X.A.units + 64 < cLine) : OpR X (compareOp .Lt) (fun x y H Q => ∃ (p q : Pr), Dp X.K H x (PySem.W.Datum.toD (rowP p)) ∧ Dp X.K H y (PySem.W.Datum.toD (rowP q)) ∧ Q (.bl (rowLt p q)) H) := by
  intro pins s σ H x y v u Q I rx ry ⟨p, q, h1, h2, k⟩
  obtain ⟨as, r1⟩ := Dp.reads I _ x v h1 rx
  obtain ⟨bs, r2⟩ := Dp.reads I _ y u h2 ry
  exact PySem.W.lt_datum (x := rowP p) (y := rowP q) ⟨as, r1⟩ ⟨bs, r2⟩ (Nat.lt_of_le_of_lt (Nat.add_le_add_left (by decide) _) hu) ⟨.bl _, H, I, rfl, k⟩
theorem o_ltR {X : Cx} {N : En} {W : WX} {n : Nat} {μ : List M} (g : Go X N W n) {p q : Pr} : OpOk X N W (compareOp .Lt) μ (.p (prD p)) (.p (prD q)) (.v (.p (.bl (rowLt p q)))) μ :=
  ⟨_, op_ltR (by have := g.room.un; omega), fun σ δ F A H x y Q R rx ry k => ⟨p, q, by rw [← g.hK]; exact (pr_py p).dp R.rc.sub rx, by rw [← g.hK]; exact (pr_py q).dp R.rc.sub ry, k.here R (.bl _)⟩⟩
end K58
set_option Elab.async false
set_option linter.all false
set_option maxRecDepth 100000
set_option maxHeartbeats 4000000
set_option autoImplicit false
namespace K58
open PySem PySem.Spec PyProof.Rows L2 Dl Cq
def ffB (rows : List Pr) (found : Nat) (p : Nat × Pr) : Bool := rowLt p.2 (rowAt rows found) && (rows.take p.1).all fun o => decide (qs p.2.1 o.1 % 2 = 0)
def ffF (rows : List Pr) : Nat := (idx 0 rows).foldl (fun found p => if ffB rows found p = true then p.1 else found) 0
def dropF (rows : List Pr) (i : Nat) : List Pr := ((idx 0 rows).filter fun p => !decide (p.1 = i)).map (·.2)
def fsF : Nat → List Pr → Option (List Pr)
  | _, [] => some []
  | 0, _ :: _ => none
  | m + 1, a :: l => (fsF m (dropF (a :: l) (ffF (a :: l)))).map (rowAt (a :: l) (ffF (a :: l)) :: ·)
def plF (ls : List Ln) : List Pr := (begF ls).map fun x => (x.1, if 0 < x.2.1 then x.2.2 else bkF x.2.2)
theorem idx_len {α : Type} : ∀ (l : List α) (k : Nat), (idx k l).length = l.length
  | [], _ => rfl
  | a :: l, k => by
    show (idx (k + 1) l).length + 1 = _
    rw [idx_len l]
    rfl
theorem drop_ok {n : Nat} {rows : List Pr} {i : Nat} (h : okRows n rows) : okRows n (dropF rows i) := by
  refine ⟨?_, fun x hx => ?_⟩
  · unfold dropF
    rw [List.length_map]
    exact Nat.le_trans (List.length_filter_le _ _) (by rw [idx_len]; exact h.1)
  · obtain ⟨p, hp, rfl⟩ := List.mem_map.mp hx
    obtain ⟨j, _, e⟩ := idx_mem.mp (show (p.1, p.2) ∈ idx 0 rows from (List.mem_filter.mp hp).1)
    exact h.2 _ (List.mem_of_getElem? e)
theorem ff_lt {rows : List Pr} (h : 0 < rows.length) : ffF rows < rows.length := by
  have : ∀ (l : List (Nat × Pr)) (t : Nat), t < rows.length → (∀ p ∈ l, p.1 < rows.length) → l.foldl (fun found p => if ffB rows found p = true then p.1 else found) t < rows.length := by
    intro l
    induction l with
    | nil => intro t h _; exact h
    | cons a l ih =>
      intro t h hl
      rw [List.foldl_cons]
      refine ih _ ?_ fun p hp => hl p (List.mem_cons_of_mem _ hp)
      split
      · exact hl a List.mem_cons_self
      · exact h
  refine this _ 0 h fun p hp => ?_
  obtain ⟨j, e1, e2⟩ := idx_mem.mp (show (p.1, p.2) ∈ idx 0 rows from hp)
  have := (List.getElem?_eq_some_iff.mp e2).1
  omega
def rFirstFree : Rel := fun ss μ r μ' => ∃ (n : Nat) (rows : List Pr), okRows n rows ∧ 0 < rows.length ∧ ss = [.p (.lst (rows.map prD))] ∧ r = .v (.p (inD (ffF rows))) ∧ μ' = μ
def rFirstSeq : Rel := fun ss μ r μ' => ∃ (n m : Nat) (rows out : List Pr), okRows n rows ∧ m ≤ 40 ∧ fsF m rows = some out ∧ ss = [.p (.lst (rows.map prD))] ∧ r = .v (.p (.tup (out.map prD))) ∧ μ' = μ
def rPlain (C CC : Addr) : Rel := fun ss μ r μ' => ∃ (n m1 m2 : Nat) (ls : List Ln) (mid out : List Pr), okC n ls ∧ m2 ≤ 40 ∧ ptF m1 (plF ls) = some mid ∧ fsF m2 mid = some out ∧ ss = [.p (circD CC n ls)] ∧ r = .v (.p (.tup [.tup (out.map prD), .tup ((imF n ls).map (wdV C))])) ∧ μ' = μ
section
variable {P : Program} {w : World} {K : PySem.W.Frag} {mg : Str → Option Value} {base : Heap} {f C CC : Addr} {fd : FuncData}
theorem ok_firstfree (F : Fun K "_first_free" "_first_free" sFirstFree f fd) (T : TM mg) (cp : Cf P w K mg base 2 "pass_by" [] rPassBy) : FnOk P w K mg base (L2.CX P w) 3 f fd ["rows"] (spD K rFirstFree) := by
  refine fn_D (k := 2) F scFirstFree (fun ss μ r μ' h => by obtain ⟨_, _, _, _, rfl, _⟩ := h; rfl) ?_
  intro cdv A0 outer s0 H E N W ss μ r μ' g hA hR
  obtain ⟨n, rows, ⟨h20, hr⟩, h0, rfl, rfl, rfl⟩ := hR
  obtain ⟨δ', hlo, ⟨x2, x3, rfl⟩, _⟩ := loop_fo (X := cxOf (L2.CX P w) P w K mg base ["rows", "found", "place", "row", "other"] "_first_free" (defScope sFirstFree) f cdv A0 outer s0 H E) (N := N) (W := W) (f := asTup [asName 2, asName 3]) (body := bodyOf sFirstFree 1) (T := Nat) (mu := fun _ => μ') (nx := fun p found => if ffB rows found p = true then p.1 else found) (gd := fun p : Nat × Pr => .tup [inD p.1, prD p.2])
    (fun _ found => found < rows.length) (fun found δ => ∃ x2 x3, δ = [some (.p (.lst (rows.map prD))), some (.p (inD found)), x2, x3, none]) (idx 0 rows) [some (.p (.lst (rows.map prD))), some (.p (inD 0)), none, none, none] 0
    (fun p hp k found δ hδ hI => by
      obtain ⟨x2, x3, rfl⟩ := hδ
      obtain ⟨j, e1, e2⟩ := idx_mem.mp (show (p.1, p.2) ∈ idx 0 rows from hp)
      have hj : p.1 < rows.length := by have := (List.getElem?_eq_some_iff.mp e2).1; omega
      have op := hr p.2 (List.mem_of_getElem? e2)
      have c1 : cutX (rows.map prD) none (some ((p.1 : Nat) : Int)) = (rows.take p.1).map prD := by rw [cutX_to, List.map_take]
      have t : DT (cxOf (L2.CX P w) P w K mg base ["rows", "found", "place", "row", "other"] "_first_free" (defScope sFirstFree) f cdv A0 outer s0 H E) N W [some (.p (.lst (rows.map prD))), some (.p (inD found)), some (.p (inD p.1)), some (.p (prD p.2)), none] μ' (ifC ((bodyOf sFirstFree 1).getD 0 (.Pass ⟨0, 0, 0, 0⟩))) (ffB rows found p) μ' :=
        dt_w (dw_and (dt_cmp (de_var 3) (de_ix (de_var 0) (de_var 1) (i_lst g (row_at hI))) (o_ltR g)) (fun _ => dw_and1 (dt_val (de_callB (id := "all") (da_cons (de_lc g [("other", 4)] (di_lst g (de_of (de_cutLt g (de_var 0) (de_var 2)) (congrArg D.lst c1))) (fun s H C cl fp => dg_name 4 g.nd) (of_maps (gd := prD) (fy := fun o => .bl (decide (qs p.2.1 o.1 % 2 = 0))) fun o ho => ⟨_, rfl, fun s H C cl fp N' hK g' => de_call g' cp (da_cons (s := .p (sD p.2.1)) (de_ix (de_var 3) de_int (i_tup (i := 0) g' rfl)) (da_cons (s := .p (sD o.1)) (de_ix (de_var 4) de_int (i_tup (i := 0) g' rfl)) da_nil)) ⟨p.2.1, o.1, op.1, (hr o (List.mem_of_mem_take ho)).1, op.2.trans (hr o (List.mem_of_mem_take ho)).2.symm, rfl, rfl, rfl⟩⟩) (ok := blkOk_by (by rfl)) (hds := by rw [List.length_map, List.length_take]; exact sz' (by omega))) da_nil) (c_allm (q := fun o : Pr => decide (qs p.2.1 o.1 % 2 = 0)) g) T.all (by decide +kernel)))))
      cases hb : ffB rows found p with
      | true => exact ⟨hj, _, _, rfl, dss_cons (ds_if (k := true) (dt_of t hb) (fun _ => dss_cons (ds_set 1 (de_var 2) g.nd) (cn dss_nil)) (fun h => nomatch h)) (cn dss_nil), _, _, rfl⟩
      | false => exact ⟨hI, _, _, rfl, dss_skip (dt_of t hb) dss_nil, _, _, rfl⟩) ⟨_, _, rfl⟩ h0
  exact ⟨_, dss_cons (ds_set 1 de_int g.nd) (cn (dss_cons (ds_for g (di_of (di_enum g (da_cons (de_var 0) da_nil) T.enum) (idx_enum prD rows 0)) (dg_tup (dgs_cons (dg_name 2 g.nd) (dgs_cons (dg_name 3 g.nd) dgs_nil)) g.hK g.calm) hlo) (cn (dss_ret (de_var 1))))), .rt⟩
theorem ok_firstseq (F : Fun K "_first_sequence" "_first_sequence" sFirstSeq f fd) (T : TM mg) (cf : Cf P w K mg base 3 "_first_free" [] rFirstFree) : FnOk P w K mg base (L2.CX P w) 4 f fd ["rows"] (spD K rFirstSeq) := by
  refine fn_D (k := 3) F scFirstSeq (fun ss μ r μ' h => by obtain ⟨_, _, _, _, _, _, _, rfl, _⟩ := h; rfl) ?_
  intro cdv A0 outer s0 H E N W ss μ r μ' g hA hR
  obtain ⟨n, m, rows, out, hok, h40, hfs, rfl, rfl, rfl⟩ := hR
  have tst : ∀ (rows acc : List Pr) x2, DT (cxOf (L2.CX P w) P w K mg base ["rows", "found", "first", "place", "row"] "_first_sequence" (defScope sFirstSeq) f cdv A0 outer s0 H E) N W [some (.p (.lst (rows.map prD))), some (.l μ'.length), x2, none, none] (μ' ++ [.lst (acc.map prD)]) (whC sFirstSeq 1) (decide (0 < rows.length)) (μ' ++ [.lst (acc.map prD)]) := fun rows acc x2 =>
    dt_of (dt_cmp (de_of (d' := .int (rows.length : Nat)) (de_callB (id := "len") (da_cons (de_var 0) da_nil) (c_lenL g) T.len (by decide +kernel)) (by rw [List.length_map])) de_int o_gt) (decide_eq_decide.mpr (by omega))
  have lp : ∀ (m : Nat) (rows acc out : List Pr), okRows n rows → acc.length + m ≤ 50 → fsF m rows = some out → ∀ x2, ∃ y2, Wl (cxOf (L2.CX P w) P w K mg base ["rows", "found", "first", "place", "row"] "_first_sequence" (defScope sFirstSeq) f cdv A0 outer s0 H E) N W (whC sFirstSeq 1) (whB sFirstSeq 1) m [some (.p (.lst (rows.map prD))), some (.l μ'.length), x2, none, none] (μ' ++ [.lst (acc.map prD)]) (.nx [some (.p (.lst [])), some (.l μ'.length), y2, none, none] (μ' ++ [.lst ((acc ++ out).map prD)])) := by
    intro m
    induction m with
    | zero =>
      intro rows acc out hok ha h x2
      cases rows with
      | nil =>
        cases (show some [] = some out from h)
        rw [List.append_nil]
        exact ⟨_, .stop (tst [] acc x2)⟩
      | cons a l => cases (show none = some out from h)
    | succ m ih =>
      intro rows acc out hok ha h x2
      cases rows with
      | nil =>
        cases (show some [] = some out from h)
        rw [List.append_nil]
        exact ⟨_, .stop (tst [] acc x2)⟩
      | cons a l =>
        obtain ⟨o2, h2, rfl⟩ := Option.map_eq_some_iff.mp (show (fsF m (dropF (a :: l) (ffF (a :: l)))).map (rowAt (a :: l) (ffF (a :: l)) :: ·) = some out from h)
        obtain ⟨y2, hw⟩ := ih (dropF (a :: l) (ffF (a :: l))) (acc ++ [rowAt (a :: l) (ffF (a :: l))]) o2 (drop_ok hok) (by rw [List.length_append]; simp; omega) h2 (some (.p (inD (ffF (a :: l)))))
        rw [List.append_assoc] at hw
        have hlt := ff_lt (rows := a :: l) (by simp)
        have h20 := hok.1
        refine ⟨y2, .turn (dt_of (tst (a :: l) acc x2) (decide_eq_true (by simp))) (dss_cons (ds_set 2 (de_call g cf (da_cons (de_var 0) da_nil) ⟨n, a :: l, hok, by simp, rfl, rfl, rfl⟩) g.nd) (cn
          (dss_cons (ds_to (ds_expr (de_bm PySem.F.plainAttrs_list PySem.F.slot_list_append PySem.F.type_list_append (de_var 1) (da_cons (de_ix (de_var 0) (de_var 2) (i_lst g (row_at hlt))) da_nil) (m_append (end_at rfl) (end_at rfl) (by rw [List.length_map]; exact sz' (by omega))))) (end_set rfl)) (cn
          (dss_cons (ds_setLcIf 0 g [("place", 3), ("row", 4)] (di_of (di_enum g (da_cons (de_var 0) da_nil) T.enum) (idx_enum prD (a :: l) 0)) (fun s H C cl fp => dg_tup (dgs_cons (dg_name 3 g.nd) (dgs_cons (dg_name 4 g.nd) dgs_nil)) g.hK g.calm) (of_filt (gd := fun p : Nat × Pr => .tup [inD p.1, prD p.2]) (fy := fun p => prD p.2) (q := fun p => !decide (p.1 = ffF (a :: l))) fun p hp => ⟨_, rfl, fun s H C cl fp N' hK g' => dt_of (dt_cmp (de_var 3) (de_var 2) o_neI) (by congr 1; exact decide_eq_decide.mpr (by omega)), fun _ s H C cl fp N' hK g' => de_var 4⟩) (ok := blkOk_by (by rfl)) (hds := by rw [List.length_map, idx_len]; exact sz' (by omega))) (cn dss_nil)))))) ?_⟩
        have e : (((idx 0 (a :: l)).filter fun p => !decide (p.1 = ffF (a :: l))).map fun p => prD p.2) = (dropF (a :: l) (ffF (a :: l))).map prD := by unfold dropF; rw [List.map_map]; rfl
        show Wl _ N W _ _ m [some (.p (.lst _)), _, _, _, _] _ _
        rw [e]
        have e3 : (acc ++ [rowAt (a :: l) (ffF (a :: l))]).map prD = acc.map prD ++ [prD (rowAt (a :: l) (ffF (a :: l)))] := by rw [List.map_append]; rfl
        rw [e3] at hw
        exact hw
  obtain ⟨y2, hw⟩ := lp m rows [] out hok (by simp; omega) hfs none
  refine ⟨_, dss_cons (ds_set 1 (de_lstM dp_nil) g.nd) (cn (dss_cons (ds_while g hw) (cn (dss_ret (de_callT (T := "tuple") (da_cons (de_var 1) da_nil) (c_tupM (end_at rfl)) T.tuple (by decide +kernel)))))), ?_⟩
  have e : (μ' ++ [M.lst (([] ++ out).map prD)]).take μ'.length = μ' := List.take_left ..
  conv => rhs; rw [← e]
  exact .rtT (Nat.le_refl _)
theorem form_3 {n : Nat} {ls : List Ln} (h : okC n ls) : ∀ x ∈ begF ls, x.2.2.length ≤ 3 := by
  have : ∀ (l : List Ln) (t : List Ln × List Br), (∀ l' ∈ l, okLn n l') → (∀ x ∈ t.2, x.2.2.length ≤ 3) → ∀ x ∈ (l.foldl (fun t l => stB l t) t).2, x.2.2.length ≤ 3 := by
    intro l
    induction l with
    | nil => intro t _ ht; exact ht
    | cons a l ih =>
      intro t hl ht
      refine ih (stB a t) (fun l' h => hl l' (List.mem_cons_of_mem _ h)) ?_
      cases a with
      | tn s L ps =>
        intro x hx
        rcases List.mem_append.mp (show x ∈ t.2 ++ [((thrF t.1 (s, L)).2, (thrF t.1 (s, L)).1, formF ps)] from hx) with hx | hx
        · exact ht x hx
        · simp only [List.mem_cons, List.not_mem_nil, or_false] at hx
          subst hx
          exact Nat.le_trans (formF_len ps) (hl _ List.mem_cons_self).2.2.1
      | ab q s L => exact ht
      | h a => exact ht
      | pr k a b => exact ht
  exact this ls ([], []) h.ok fun _ h => (List.not_mem_nil h).elim
theorem plF_ok {n : Nat} {ls : List Ln} (h : okC n ls) : okR n (plF ls) := by
  obtain ⟨b1, b2⟩ := beg_ok h
  have f3 := form_3 h
  refine ⟨⟨by unfold plF; rw [List.length_map]; omega, fun x hx => ?_⟩, ?_⟩
  · obtain ⟨y, hy, rfl⟩ := List.mem_map.mp hx
    exact ⟨(b1 y hy).ok, (b1 y hy).len⟩
  · have : ∀ l : List Br, (∀ x ∈ l, x.2.2.length ≤ 3) → fmSum (l.map fun x => (x.1, if 0 < x.2.1 then x.2.2 else bkF x.2.2)) ≤ 3 * l.length := by
      intro l
      induction l with
      | nil => intro _; exact Nat.le_refl _
      | cons a l ih =>
        intro hl
        have h1 := ih fun x hx => hl x (List.mem_cons_of_mem _ hx)
        have h2 := hl a List.mem_cons_self
        have h3 : (if 0 < a.2.1 then a.2.2 else bkF a.2.2).length ≤ 3 := by
          split
          · exact h2
          · unfold bkF; rw [List.length_map]; exact h2
        have h4 : fmSum (((a :: l).map fun x => (x.1, if 0 < x.2.1 then x.2.2 else bkF x.2.2))) = (if 0 < a.2.1 then a.2.2 else bkF a.2.2).length + fmSum (l.map fun x => (x.1, if 0 < x.2.1 then x.2.2 else bkF x.2.2)) := by
          unfold fmSum
          rw [List.map_cons, List.map_cons, List.sum_cons]
        rw [h4, List.length_cons]
        omega
    have := this (begF ls) f3
    show fmSum (plF ls) ≤ 25
    unfold plF
    omega
theorem pt_ok {n : Nat} : ∀ {m : Nat} {rows out : List Pr}, okR n rows → ptF m rows = some out → okR n out
  | 0, rows, out, hok, h => by
    unfold ptF at h
    cases hp : pairF rows with
    | some p => rw [hp] at h; cases h
    | none => rw [hp] at h; cases h; exact hok
  | m + 1, rows, out, hok, h => by
    unfold ptF at h
    cases hp : pairF rows with
    | none => rw [hp] at h; cases h; exact hok
    | some p => rw [hp] at h; exact pt_ok (merge_ok hok hp) h
theorem ok_plain (F : Fun K "plain" "plain" sPlain f fd) (T : TM mg) (cb : Cf P w K mg base 7 "beginnings" [] (rBegin CC)) (ck : Cf P w K mg base 1 "turned_back" [] rBackF) (cp : Cf P w K mg base 4 "_put_together" [] rPutTog) (cs : Cf P w K mg base 4 "_first_sequence" [] rFirstSeq) (ci : Cf P w K mg base 7 "fixed_images" [] (rFixImages C CC)) : FnOk P w K mg base (L2.CX P w) 8 f fd ["circuit"] (spD K (rPlain C CC)) := by
  refine fn_D (k := 7) F scPlain (fun ss μ r μ' h => by obtain ⟨_, _, _, _, _, _, _, _, _, _, rfl, _⟩ := h; rfl) ?_
  intro cdv A0 outer s0 H E N W ss μ r μ' g hA hR
  obtain ⟨n, m1, m2, ls, mid, out, hok, h40, h1, h2, rfl, rfl, rfl⟩ := hR
  have hp := plF_ok hok
  have hm := pt_ok hp h1
  obtain ⟨b1, b2⟩ := beg_ok hok
  have f3 := form_3 hok
  have ep : ((begF ls).map fun x => prD (x.1, if 0 < x.2.1 then x.2.2 else bkF x.2.2)) = (plF ls).map prD := by unfold plF; rw [List.map_map]; rfl
  exact ⟨_, dss_cons (ds_setLc 1 g [("letters", 2), ("sign", 3), ("form", 4)] (di_lst g (de_call g cb (da_cons (de_var 0) da_nil) ⟨n, ls, hok, rfl, rfl, rfl⟩)) (fun s H C cl fp => dg_tup (dgs_cons (dg_name 2 g.nd) (dgs_cons (dg_name 3 g.nd) (dgs_cons (dg_name 4 g.nd) dgs_nil))) g.hK g.calm) (of_maps (gd := brD) (fy := fun x => prD (x.1, if 0 < x.2.1 then x.2.2 else bkF x.2.2)) fun y hy => ⟨_, rfl, fun s H C cl fp N' hK g' => de_tup (dp_cons (de_var 2) (dp_cons (de_if (r := .v (.p (fmD (if 0 < y.2.1 then y.2.2 else bkF y.2.2)))) (k := decide (0 < y.2.1)) (dt_of (dt_cmp (de_var 3) de_int o_gt) (decide_eq_decide.mpr (by omega))) (fun h => by rw [if_pos (of_decide_eq_true h)]; exact de_var 4) (fun h => by rw [if_neg (of_decide_eq_false h)]; exact de_call g' ck (da_cons (de_var 4) da_nil) ⟨y.2.2, by have := f3 y hy; omega, rfl, rfl, rfl⟩)) dp_nil))⟩) (ok := blkOk_by (by rfl)) (hds := by rw [List.length_map]; exact sz' (by omega))) (cn
    (dss_ret (de_tup (dp_cons (de_call g cs (da_cons (de_call g cp (da_cons (s := .p (.lst ((plF ls).map prD))) (de_of (de_var 1) (congrArg D.lst ep)) da_nil) ⟨n, m1, plF ls, mid, hp, h1, rfl, rfl, rfl⟩) da_nil) ⟨n, m2, mid, out, hm.1, h40, h2, rfl, rfl, rfl⟩) (dp_cons (de_call g ci (da_cons (de_var 0) da_nil) ⟨n, ls, hok, rfl, rfl, rfl⟩) dp_nil))))), .rt⟩
end
end K58
set_option Elab.async false
set_option linter.all false
set_option maxRecDepth 100000
set_option maxHeartbeats 4000000
set_option autoImplicit false
namespace Dl
open PySem PySem.Spec PyProof.Rows L2
/-! ## a loop that may end by a return -/
end Dl
set_option Elab.async false
set_option linter.all false
set_option maxRecDepth 100000
set_option maxHeartbeats 4000000
set_option autoImplicit false
namespace K58
open PySem PySem.Spec PyProof.Rows L2 Dl Cq
theorem scEarly : FnScope ["ahead", "rows", "turn", "earlier", "level", "number", "row", "other"] ["ahead"] (defScope sEarly) := ⟨rfl, rfl, rfl, by decide +kernel, rfl, by decide +kernel, by decide +kernel⟩
/-! ### levels -/
def lvB (earlier row : List Nat) : Bool := row.any fun o => decide (o ∈ earlier)
def lvF (rs : List (List Nat)) (earlier : List Nat) : Nat := (idx 0 rs).foldl (fun level p => if lvB earlier p.2 = true then p.1 + 1 else level) 0
def stE (rs : List (List Nat)) (p : Nat × List Nat) : List (List Nat) := if lvF rs p.2 = rs.length then rs ++ [[p.1]] else rs.set (lvF rs p.2) (rs.getD (lvF rs p.2) [] ++ [p.1])
def erF (ahead : List (List Nat)) : List (List Nat) := (idx 0 ahead).foldl stE []
theorem lv_go (rs : List (List Nat)) (e : List Nat) : ∀ (l : List (Nat × List Nat)) (t : Nat), t ≤ rs.length → (∀ p ∈ l, p.1 < rs.length) → l.foldl (fun level p => if lvB e p.2 = true then p.1 + 1 else level) t ≤ rs.length
  | [], _, h, _ => h
  | a :: l, t, h, hl => by
    rw [List.foldl_cons]
    refine lv_go rs e l _ ?_ fun p hp => hl p (List.mem_cons_of_mem _ hp)
    split
    · exact hl a List.mem_cons_self
    · exact h
theorem idx_lt {α : Type} {l : List α} {p : Nat × α} (h : p ∈ idx 0 l) : p.1 < l.length ∧ l[p.1]? = some p.2 := by
  obtain ⟨j, e1, e2⟩ := idx_mem.mp (show (p.1, p.2) ∈ idx 0 l from h)
  rw [e1, Nat.zero_add]
  exact ⟨(List.getElem?_eq_some_iff.mp e2).1, e2⟩
theorem lv_le (rs : List (List Nat)) (e : List Nat) : lvF rs e ≤ rs.length := lv_go rs e _ 0 (Nat.zero_le _) fun p hp => (idx_lt hp).1
/-! ### what stands -/
def pinsF : List Addr → List (List Nat) → List M
  | b :: bs, r :: rs => .pin b (.lst (r.map inD)) :: pinsF bs rs
  | _, _ => []
def memF (μ : List M) (bs : List Addr) (rs : List (List Nat)) : List M := (μ ++ [.lst (bs.map D.adr)]) ++ pinsF bs rs
theorem pins_at : ∀ {bs : List Addr} {rs : List (List Nat)} {i : Nat} {b : Addr} {r : List Nat}, bs[i]? = some b → rs[i]? = some r → (pinsF bs rs)[i]? = some (.pin b (.lst (r.map inD)))
  | [], _, _, _, _, h, _ => by simp at h
  | _ :: _, [], _, _, _, _, h => by simp at h
  | b :: bs, r :: rs, 0, _, _, h, h2 => by cases h; cases h2; rfl
  | b :: bs, r :: rs, i + 1, _, _, h, h2 => pins_at (bs := bs) (rs := rs) (i := i) h h2
theorem pins_snoc : ∀ {bs : List Addr} {rs : List (List Nat)} (b : Addr) (r : List Nat), bs.length = rs.length → pinsF (bs ++ [b]) (rs ++ [r]) = pinsF bs rs ++ [.pin b (.lst (r.map inD))]
  | [], [], _, _, _ => rfl
  | c :: bs, s :: rs, b, r, h => congrArg (M.pin c (.lst (s.map inD)) :: ·) (pins_snoc b r (Nat.succ.inj h))
  | [], _ :: _, _, _, h => by cases h
  | _ :: _, [], _, _, h => by cases h
theorem pins_set : ∀ {bs : List Addr} {rs : List (List Nat)} {i : Nat} {b : Addr} (r : List Nat), bs[i]? = some b → (pinsF bs rs).set i (.pin b (.lst (r.map inD))) = pinsF bs (rs.set i r)
  | [], _, _, _, _, h => by simp at h
  | _ :: _, [], i, _, _, h => by cases i <;> rfl
  | c :: bs, s :: rs, 0, _, r, h => by cases h; rfl
  | c :: bs, s :: rs, i + 1, _, r, h => congrArg (M.pin c (.lst (s.map inD)) :: ·) (pins_set (bs := bs) (rs := rs) (i := i) r h)
section
variable {μ : List M} {bs : List Addr} {rs : List (List Nat)}
theorem mem_rows : (memF μ bs rs)[μ.length]? = some (.lst (bs.map D.adr)) := by
  unfold memF
  rw [List.getElem?_append_left (by simp)]
  exact end_at rfl
theorem mem_pin {i : Nat} {b : Addr} {r : List Nat} (h1 : bs[i]? = some b) (h2 : rs[i]? = some r) : (memF μ bs rs)[μ.length + 1 + i]? = some (.pin b (.lst (r.map inD))) := by
  unfold memF
  rw [List.getElem?_append_right (by simp), show μ.length + 1 + i - (μ ++ [M.lst (bs.map D.adr)]).length = i by simp]
  exact pins_at h1 h2
theorem mem_new (b : Addr) (h : bs.length = rs.length) : (memF μ bs rs).set μ.length (.lst (bs.map D.adr ++ [.adr b])) ++ [.pin b (.lst [])] = memF μ (bs ++ [b]) (rs ++ [[]]) := by
  unfold memF
  rw [List.set_append_left _ _ (by simp), end_set rfl, pins_snoc b [] h, List.map_append, ← List.append_assoc]
  rfl
theorem mem_app {i : Nat} {b : Addr} {r : List Nat} {t : Nat} (h1 : bs[i]? = some b) : (memF μ bs rs).set (μ.length + 1 + i) (.pin b (.lst (r.map inD ++ [inD t]))) = memF μ bs (rs.set i (r ++ [t])) := by
  unfold memF
  rw [List.set_append_right _ _ (by simp), show μ.length + 1 + i - (μ ++ [M.lst (bs.map D.adr)]).length = i by simp, ← pins_set (r ++ [t]) h1, List.map_append]
  rfl
end
section
variable {X : Cx} {N : En} {W : WX} {n : Nat} {μ : List M}
theorem int_in (z : Nat) (zs : List Nat) : decide (((z : Nat) : Int) ∈ (zs.map fun (i : Nat) => (i : Int))) = decide (z ∈ zs) := by
  refine decide_eq_decide.mpr ?_
  rw [List.mem_map]
  exact ⟨fun ⟨a, h1, h2⟩ => by rw [← (show a = z by omega)]; exact h1, fun h => ⟨z, h, rfl⟩⟩
theorem inDs (zs : List Nat) : zs.map inD = (zs.map fun (i : Nat) => (i : Int)).map D.int := by rw [List.map_map]; rfl
/-- a number in a frozen list of numbers; in a tuple -/
theorem o_inNL (g : Go X N W n) {z : Nat} {zs : List Nat} : OpOk X N W (compareOp .In) μ (.p (inD z)) (.p (nsL zs)) (.v (.p (.bl (decide (z ∈ zs))))) μ :=
  ⟨_, op_in_seq, fun σ δ F A H x y Q R rx ry k => by
    cases (show Rep N.K F x (.int z) from rx)
    obtain ⟨a, vs, rfl, h1, h2⟩ := rep_lst (show Rep N.K F y (.lst (zs.map inD)) from ry)
    rw [inDs] at h2
    have e := reps_ints h2
    subst e
    refine ⟨a, _, rfl, .inl (SqL.of (R.rc.sub _ _ h1)), rfl, by simp [flatV], ?_⟩
    rw [K58.inV_ints, int_in]
    exact k.here R (.bl _)⟩
theorem o_inNT (g : Go X N W n) {z : Nat} {zs : List Nat} : OpOk X N W (compareOp .In) μ (.p (inD z)) (.p (nsT zs)) (.v (.p (.bl (decide (z ∈ zs))))) μ :=
  ⟨_, op_in_seq, fun σ δ F A H x y Q R rx ry k => by
    cases (show Rep N.K F x (.int z) from rx)
    obtain ⟨a, vs, rfl, h1, h2⟩ := rep_tup (show Rep N.K F y (.tup (zs.map inD)) from ry)
    rw [inDs] at h2
    have e := reps_ints h2
    subst e
    refine ⟨a, _, rfl, .inr (by rw [← g.hK]; exact same_sqT R.rc.sub h1), rfl, by simp [flatV], ?_⟩
    rw [K58.inV_ints, int_in]
    exact k.here R (.bl _)⟩
theorem o_notInNT (g : Go X N W n) {z : Nat} {zs : List Nat} : OpOk X N W (compareOp .NotIn) μ (.p (inD z)) (.p (nsT zs)) (.v (.p (.bl (!decide (z ∈ zs))))) μ :=
  ⟨_, op_notIn_seq, fun σ δ F A H x y Q R rx ry k => by
    cases (show Rep N.K F x (.int z) from rx)
    obtain ⟨a, vs, rfl, h1, h2⟩ := rep_tup (show Rep N.K F y (.tup (zs.map inD)) from ry)
    rw [inDs] at h2
    have e := reps_ints h2
    subst e
    refine ⟨a, _, rfl, .inr (by rw [← g.hK]; exact same_sqT R.rc.sub h1), rfl, by simp [flatV], ?_⟩
    rw [K58.inV_ints, int_in]
    exact k.here R (.bl _)⟩
end
def rEarly : Rel := fun ss μ r μ' => ∃ (ahead : List (List Nat)), ahead.length ≤ 20 ∧ (∀ r ∈ ahead, r.length ≤ 20) ∧ ss = [.p (.lst (ahead.map nsL))] ∧ r = .v (.p (.tup ((erF ahead).map nsT))) ∧ μ' = μ
end K58
set_option Elab.async false
set_option linter.all false
set_option maxRecDepth 100000
set_option maxHeartbeats 4000000
set_option autoImplicit false
namespace K58
open PySem PySem.Spec PyProof.Rows L2 Dl Cq
theorem idx_get {α : Type} : ∀ (l : List α) (k i : Nat), (idx k l)[i]? = l[i]?.map fun a => (k + i, a)
  | [], _, i => by simp [idx]
  | a :: l, k, 0 => rfl
  | a :: l, k, i + 1 => by
    show (idx (k + 1) l)[i]? = l[i]?.map fun a => (k + (i + 1), a)
    rw [idx_get l (k + 1) i, show k + 1 + i = k + (i + 1) by omega]
theorem take_snoc {α : Type} {l : List α} {i : Nat} {a : α} (h : l[i]? = some a) : l.take (i + 1) = l.take i ++ [a] := by
  rw [List.take_add_one, h]
  rfl
section
variable {P : Program} {w : World} {K : PySem.W.Frag} {mg : Str → Option Value} {base : Heap} {f C CC : Addr} {fd : FuncData}
theorem ok_early (F : Fun K "_early_rows" "_early_rows" sEarly f fd) (T : TM mg) : FnOk P w K mg base (L2.CX P w) 1 f fd ["ahead"] (spD K rEarly) := by
  refine fn_Dy (k := 0) F scEarly (fun ss μ r μ' h => by obtain ⟨_, _, _, rfl, _⟩ := h; rfl) ?_
  intro cdv A0 outer s0 H E N W ss μ r μ' g hA hR
  obtain ⟨ahead, h20, hr20, rfl, rfl, rfl⟩ := hR
  refine dys_one (ds_set 1 (de_lstM dp_nil) g.nd) (dys_cons (dy_for (ds := (idx 0 ahead).map fun p => .tup [inD p.1, nsL p.2])
    (I := fun i δ ν => ∃ (bs : List Addr) (rs : List (List Nat)) (x2 x3 x4 x5 x6 : Option S), rs = ((idx 0 ahead).take i).foldl stE [] ∧ bs.length = rs.length ∧ rs.length ≤ i ∧ (∀ r ∈ rs, r.length ≤ i) ∧ ν = memF μ' bs rs ∧ δ = [some (.p (.lst (ahead.map nsL))), some (.l μ'.length), x2, x3, x4, x5, x6, none])
    g (diy_of (di_of (di_enum g (da_cons (de_var 0) da_nil) T.enum) (idx_enum nsL ahead 0))) (dg_tup (dgs_cons (dg_name 2 g.nd) (dgs_cons (dg_name 3 g.nd) dgs_nil)) g.hK g.calm) ⟨[], [], none, none, none, none, none, rfl, rfl, Nat.le_refl _, fun _ h => (List.not_mem_nil h).elim, by unfold memF pinsF; rw [List.append_nil]; rfl, rfl⟩ ?turn) ?fin (fun o ⟨_, _, e, _⟩ hn => by subst e; exact (hn trivial).elim))
  case turn =>
    intro i d hd δ' ν hI
    obtain ⟨bs, rs, x2, x3, x4, x5, x6, hrs, hbl, hl1, hl2, rfl, rfl⟩ := hI
    rw [List.getElem?_map] at hd
    obtain ⟨p, hp, rfl⟩ := Option.map_eq_some_iff.mp hd
    have hp2 := hp
    rw [idx_get] at hp2
    obtain ⟨e, he, rfl⟩ := Option.map_eq_some_iff.mp hp2
    have hi := (List.getElem?_eq_some_iff.mp he).1
    have lrs : rs.length ≤ 20 := by omega
    have hb20 : bs.length ≤ 20 := by omega
    have hnew : stE rs (0 + i, e) = ((idx 0 ahead).take (i + 1)).foldl stE [] := by rw [take_snoc hp, List.foldl_append, ← hrs]; rfl
    rw [Nat.zero_add] at hnew
    have hlv := lv_le rs e
    refine ⟨_, rfl, dys_one (ds_set 4 de_int g.nd) (dys_cons (dy_for (ds := enumD 0 (bs.map D.adr))
      (I := fun q δ ν => ν = memF μ' bs rs ∧ ∃ x5 x6, δ = [some (.p (.lst (ahead.map nsL))), some (.l μ'.length), some (.p (inD (0 + i))), some (.p (nsL e)), some (.p (inD (((idx 0 rs).take q).foldl (fun level p => if lvB e p.2 = true then p.1 + 1 else level) 0))), x5, x6, none])
      g (diy_enumM (j := μ'.length) g (da_cons (de_var 1) da_nil) mem_rows (fun q δ' ν h => by obtain ⟨rfl, _⟩ := h; exact mem_rows) T.enum) (dg_tup (dgs_cons (dg_name 5 g.nd) (dgs_cons (dg_name 6 g.nd) dgs_nil)) g.hK g.calm) ⟨rfl, x5, x6, rfl⟩ ?inner) ?rest (fun o ⟨_, _, e, _⟩ hn => by subst e; exact (hn trivial).elim))⟩
    case inner =>
      intro q d hd δ2 ν2 hI2
      obtain ⟨rfl, y5, y6, rfl⟩ := hI2
      rw [idx_enum, List.getElem?_map, idx_get] at hd
      obtain ⟨p2, hp3, rfl⟩ := Option.map_eq_some_iff.mp hd
      obtain ⟨b, hb, rfl⟩ := Option.map_eq_some_iff.mp hp3
      have hq : q < rs.length := by rw [← hbl]; exact (List.getElem?_eq_some_iff.mp hb).1
      have hrq : rs[q]? = some rs[q] := List.getElem?_eq_getElem hq
      have l20 : rs[q].length ≤ 20 := Nat.le_trans (hl2 _ (List.getElem_mem hq)) (by omega)
      have pin := mem_pin (μ := μ') hb hrq
      have tk1 : (idx 0 rs).take (q + 1) = (idx 0 rs).take q ++ [(q, rs[q])] := take_snoc (by rw [idx_get, hrq, Nat.zero_add]; rfl)
      have hset : ((memF μ' bs rs).set (μ'.length + 1 + q) (.lst (rs[q].map inD)))[μ'.length + 1 + q]? = some (.lst (rs[q].map inD)) := List.getElem?_set_self (List.getElem?_eq_some_iff.mp pin).1
      have hback : memF μ' bs rs = ((memF μ' bs rs).set (μ'.length + 1 + q) (.lst (rs[q].map inD))).set (μ'.length + 1 + q) (.pin b (.lst (rs[q].map inD))) := by
        rw [List.set_set]
        obtain ⟨h1, h2⟩ := List.getElem?_eq_some_iff.mp pin
        rw [← h2, List.set_getElem_self h1]
      have eany : (rs[q].map fun o => D.bl (decide (o ∈ e))) = (rs[q].map fun o => decide (o ∈ e)).map D.bl := by rw [List.map_map]; rfl
      have ev : (rs[q].map fun o => decide (o ∈ e)).any id = lvB e rs[q] := by unfold lvB; rw [List.any_map]; rfl
      refine ⟨_, rfl, dys_slot (i := 6) (k := μ'.length + 1 + q) rfl pin (dys_cons (O1 := fun o => o = .nx [some (.p (.lst (ahead.map nsL))), some (.l μ'.length), some (.p (inD (0 + i))), some (.p (nsL e)), some (.p (inD (((idx 0 rs).take (q + 1)).foldl (fun level p => if lvB e p.2 = true then p.1 + 1 else level) 0))), some (.p (inD (0 + q))), some (.l (μ'.length + 1 + q)), none] (memF μ' bs rs)) (dy_if (k := lvB e rs[q]) (dt_unp pin (dt_of (dt_val (de_callB (id := "any") (da_cons (de_of (de_lcL g [("other", 7)] (de_var 6) hset (fun s H C cl fp => dg_name 7 g.nd) (fy := fun o => .bl (decide (o ∈ e))) (fun o ho => ⟨_, rfl, fun s H C cl fp N' hK g' => de_cmp (de_var 7) (de_var 3) (o_inNL g')⟩) (ok := blkOk_by (by rfl)) (hds := by rw [List.length_map]; exact sz' (by omega))) (congrArg D.lst eany)) da_nil) (c_any g) T.any (by decide +kernel))) ev) hset trivial hback)
        (fun h => dys_of (dss_cons (ds_set 4 (de_bin (de_var 5) de_int o_add) g.nd) (cn dss_nil)) ?_) (fun h => dys_of dss_nil ?_)) (fun δ1 μ1 e1 => dys_nil ⟨_, _, e1, ?_⟩) (fun o e1 hn => by subst e1; exact (hn trivial).elim))⟩
      · rw [tk1, List.foldl_append]
        show Os.nx [_, _, _, _, some (S.p (D.int (((0 + q : Nat) : Int) + 1))), _, _, _] _ = Os.nx [_, _, _, _, some (S.p (inD (if lvB e rs[q] = true then q + 1 else _))), _, _, _] _
        rw [if_pos h, show (((0 + q : Nat) : Int) + 1) = ((q + 1 : Nat) : Int) by omega]
      · rw [tk1, List.foldl_append]
        show Os.nx [_, _, _, _, some (S.p (inD _)), _, _, _] _ = Os.nx [_, _, _, _, some (S.p (inD (if lvB e rs[q] = true then q + 1 else _))), _, _, _] _
        rw [if_neg (by rw [h]; simp)]
      · cases e1
        exact ⟨rfl, _, _, rfl⟩
    case rest =>
      intro δ2 ν2 hO
      obtain ⟨δ3, ν3, e3, rfl, y5, y6, rfl⟩ := hO
      cases e3
      have elen : (enumD 0 (bs.map D.adr)).length = rs.length := by rw [idx_enum, List.length_map, idx_len, hbl]
      have efull : ((idx 0 rs).take (enumD 0 (bs.map D.adr)).length).foldl (fun level p => if lvB e p.2 = true then p.1 + 1 else level) 0 = lvF rs e := by
        rw [elen, List.take_of_length_le (by rw [idx_len]; exact Nat.le_refl _)]
        rfl
      rw [efull]
      have tl : DT (cxOf (L2.CX P w) P w K mg base ["ahead", "rows", "turn", "earlier", "level", "number", "row", "other"] "_early_rows" (defScope sEarly) f cdv A0 outer s0 H E) N W [some (.p (.lst (ahead.map nsL))), some (.l μ'.length), some (.p (inD (0 + i))), some (.p (nsL e)), some (.p (inD (lvF rs e))), y5, y6, none] (memF μ' bs rs) (ifC ((bodyOf sEarly 1).getD 2 (.Pass ⟨0, 0, 0, 0⟩))) (decide (lvF rs e = rs.length)) (memF μ' bs rs) :=
        dt_of (dt_cmp (de_var 4) (de_callB (id := "len") (da_cons (de_var 1) da_nil) (c_lenM mem_rows) T.len (by decide +kernel)) o_eqI) (decide_eq_decide.mpr (by rw [List.length_map, hbl]; omega))
      have app : ∀ (bs : List Addr) (rs2 : List (List Nat)) (b : Addr) (r : List Nat), bs[lvF rs e]? = some b → rs2[lvF rs e]? = some r → r.length ≤ 20 → rs2.set (lvF rs e) (r ++ [i]) = stE rs (i, e) → bs.length = rs2.length → rs2.length ≤ i + 1 → (∀ r ∈ rs2, r.length ≤ i) → r.length ≤ i →
          Dys (cxOf (L2.CX P w) P w K mg base ["ahead", "rows", "turn", "earlier", "level", "number", "row", "other"] "_early_rows" (defScope sEarly) f cdv A0 outer s0 H E) N W [some (.p (.lst (ahead.map nsL))), some (.l μ'.length), some (.p (inD (0 + i))), some (.p (nsL e)), some (.p (inD (lvF rs e))), y5, y6, none] (memF μ' bs rs2) ((bodyOf sEarly 1).drop 3) (fun o => ∃ δ2 μ2, o = .nx δ2 μ2 ∧ ∃ (bs : List Addr) (rs : List (List Nat)) (x2 x3 x4 x5 x6 : Option S), rs = ((idx 0 ahead).take (i + 1)).foldl stE [] ∧ bs.length = rs.length ∧ rs.length ≤ i + 1 ∧ (∀ r ∈ rs, r.length ≤ i + 1) ∧ μ2 = memF μ' bs rs ∧ δ2 = [some (.p (.lst (ahead.map nsL))), some (.l μ'.length), x2, x3, x4, x5, x6, none]) := by
        intro bs rs2 b r hb hr2 hr20' hst hbl2 hl3 hl4 hl5
        refine dys_of (dss_cons (ds_expr (de_bm PySem.F.plainAttrs_list PySem.F.slot_list_append PySem.F.type_list_append (de_adr (de_ix (de_var 1) (de_var 4) (i_lstM mem_rows (atI_nat (by rw [List.getElem?_map, hb]; rfl)))) (mem_pin hb hr2)) (da_cons (de_var 2) da_nil) (m_appendP (mem_pin hb hr2) (mem_pin hb hr2) (by rw [List.length_map]; exact sz' (by omega))))) (cn dss_nil)) ⟨_, _, rfl, bs, rs2.set (lvF rs e) (r ++ [0 + i]), _, _, _, _, _, ?_, ?_, ?_, ?_, mem_app hb, rfl⟩
        · rw [Nat.zero_add, hst, hnew]
        · rw [List.length_set, hbl2]
        · rw [List.length_set]; exact hl3
        · intro r' h'
          rcases List.mem_or_eq_of_mem_set h' with h' | rfl
          · have := hl4 r' h'; omega
          · rw [List.length_append]; simp; omega
      by_cases hc : lvF rs e = rs.length
      · refine dys_cons (O1 := fun o => ∃ b, o = .nx [some (.p (.lst (ahead.map nsL))), some (.l μ'.length), some (.p (inD (0 + i))), some (.p (nsL e)), some (.p (inD (lvF rs e))), y5, y6, none] (memF μ' (bs ++ [b]) (rs ++ [[]]))) (dy_if (k := true) (dt_of tl (decide_eq_true hc)) (fun _ => dys_cons (dy_appNew (de_var 1) mem_rows (by rw [List.length_map]; exact sz' (by omega))) (fun δ1 μ1 ⟨b, e1⟩ => by cases e1; rw [mem_new b hbl]; exact dys_nil ⟨b, rfl⟩) (fun o ⟨b, e1⟩ hn => by subst e1; exact (hn trivial).elim)) (fun h => nomatch h)) (fun δ1 μ1 ⟨b, e1⟩ => ?_) (fun o ⟨b, e1⟩ hn => by subst e1; exact (hn trivial).elim)
        cases e1
        refine app (bs ++ [b]) (rs ++ [[]]) b [] (by rw [hc, ← hbl]; simp) (by rw [hc]; simp) (by simp) ?_ (by simp [hbl]) (by simp; omega) (fun r hr => ?_) (by simp)
        · unfold stE
          rw [if_pos hc, hc]
          simp
        · rcases List.mem_append.mp hr with hr | hr
          · exact hl2 r hr
          · simp at hr; rw [hr]; simp
      · have hlt : lvF rs e < rs.length := by omega
        have hlb : lvF rs e < bs.length := by omega
        refine dys_cons (O1 := fun o => o = .nx [some (.p (.lst (ahead.map nsL))), some (.l μ'.length), some (.p (inD (0 + i))), some (.p (nsL e)), some (.p (inD (lvF rs e))), y5, y6, none] (memF μ' bs rs)) (dy_if (k := false) (dt_of tl (decide_eq_false hc)) (fun h => nomatch h) (fun _ => dys_nil rfl)) (fun δ1 μ1 e1 => ?_) (fun o e1 hn => by subst e1; exact (hn trivial).elim)
        cases e1
        have hg := List.getElem?_eq_getElem hlt
        have l1 := hl2 _ (List.getElem_mem hlt)
        refine app bs rs bs[lvF rs e] rs[lvF rs e] (List.getElem?_eq_getElem hlb) hg (by omega) ?_ hbl (by omega) hl2 l1
        unfold stE
        rw [if_neg hc, List.getD_eq_getElem?_getD, hg]
        rfl
  case fin =>
    intro δ1 μ1 hO
    obtain ⟨δ3, ν3, e3, bs, rs, x2, x3, x4, x5, x6, hrs, hbl, hl1, hl2, rfl, rfl⟩ := hO
    cases e3
    have elen : ((idx 0 ahead).map fun p => D.tup [inD p.1, nsL p.2]).length = ahead.length := by rw [List.length_map, idx_len]
    rw [elen] at hrs hl1 hl2
    rw [List.take_of_length_le (by rw [idx_len]; exact Nat.le_refl _)] at hrs
    have hrs : rs = erF ahead := hrs
    have hz : (bs.zip rs).map (fun p => D.adr p.1) = bs.map D.adr := by
      rw [show (fun p : Addr × List Nat => D.adr p.1) = D.adr ∘ Prod.fst from rfl, ← List.map_map, List.map_fst_zip (by omega)]
    have hz2 : (bs.zip rs).map (fun p => nsT p.2) = rs.map nsT := by
      rw [show (fun p : Addr × List Nat => nsT p.2) = nsT ∘ Prod.snd from rfl, ← List.map_map, List.map_snd_zip (by omega)]
    have hm : (memF μ' bs rs)[μ'.length]? = some (.lst ((bs.zip rs).map fun p => D.adr p.1)) := by rw [hz]; exact mem_rows
    refine dys_of (dss_ret (de_callT (T := "tuple") (da_cons (s := .p (.lst (rs.map nsT))) (de_of (de_lcL g [("row", 6)] (de_var 1) hm (fun s H C cl fp => dg_name 6 g.nd) (fy := fun p => nsT p.2) (fun p hp => ?_) (ok := blkOk_by (by rfl)) (hds := by rw [List.length_map, List.length_zip]; exact sz' (by omega))) (congrArg D.lst hz2)) da_nil) c_tupL T.tuple (by decide +kernel))) ?_
    · obtain ⟨q, hq⟩ := List.mem_iff_getElem?.mp hp
      obtain ⟨q1, q2⟩ := List.getElem?_zip_eq_some.mp hq
      exact ⟨_, rfl, fun s H C cl fp N' hK g' => de_callT (T := "tuple") (da_cons (de_adr (de_var 6) (mem_pin q1 q2)) da_nil) (c_tupP (mem_pin q1 q2)) T.tuple (by decide +kernel)⟩
    · rw [hrs]
      have e : (memF μ' bs (erF ahead)).take μ'.length = μ' := by unfold memF; rw [List.append_assoc]; exact List.take_left ..
      conv => rhs; rw [← e]
      exact .rtT (Nat.le_refl _)
end
end K58
set_option Elab.async false
set_option linter.all false
set_option maxRecDepth 100000
set_option maxHeartbeats 4000000
set_option autoImplicit false
namespace K58
open PySem PySem.Spec PyProof.Rows L2 Dl Cq
theorem scLayers : FnScope ["circuit", "ahead", "rows", "chain", "row", "fitting", "turn"] ["circuit"] (defScope sLayers) := ⟨rfl, rfl, rfl, by decide +kernel, rfl, by decide +kernel, by decide +kernel⟩
/-! ### a chain through the rows -/
def fitB (ahead : List (List Nat)) (chain : List Nat) (t : Nat) : Bool := decide (chain.length = 0) || decide (t ∈ ahead.getD (chain.getD 0 0) [])
def stC (ahead : List (List Nat)) (chain row : List Nat) : Option (List Nat) :=
  if chain.length = 0 ∨ chain.getD 0 0 < ahead.length then (match row.filter (fitB ahead chain) with
    | [] => none
    | a :: _ => some (a :: chain)) else none
def chG (ahead : List (List Nat)) : List (List Nat) → List Nat → Option (List Nat)
  | [], c => some c
  | r :: rs, c => match stC ahead c r with
    | none => none
    | some c' => chG ahead rs c'
theorem er_go (m : Nat) : ∀ (l : List (Nat × List Nat)) (rs : List (List Nat)) (i : Nat), rs.length ≤ i → (∀ r ∈ rs, r.length ≤ i) → (l.foldl stE rs).length ≤ i + l.length ∧ ∀ r ∈ l.foldl stE rs, r.length ≤ i + l.length
  | [], rs, i, h1, h2 => ⟨h1, h2⟩
  | p :: l, rs, i, h1, h2 => by
    have h3 : (stE rs p).length ≤ i + 1 ∧ ∀ r ∈ stE rs p, r.length ≤ i + 1 := by
      unfold stE
      split
      · refine ⟨by rw [List.length_append]; simp; omega, fun r hr => ?_⟩
        rcases List.mem_append.mp hr with hr | hr
        · have := h2 r hr; omega
        · simp at hr; rw [hr]; simp
      · refine ⟨by rw [List.length_set]; omega, fun r hr => ?_⟩
        rcases List.mem_or_eq_of_mem_set hr with hr | rfl
        · have := h2 r hr; omega
        · rw [List.length_append]
          have : (rs.getD (lvF rs p.2) []).length ≤ i := by
            rw [List.getD_eq_getElem?_getD]
            cases e : rs[lvF rs p.2]? with
            | none => simp
            | some r => exact h2 r (List.mem_of_getElem? e)
          simp
          simp at this
          omega
    obtain ⟨a, b⟩ := er_go m l (stE rs p) (i + 1) h3.1 h3.2
    refine ⟨by rw [List.foldl_cons, List.length_cons]; omega, fun r hr => ?_⟩
    have := b r hr
    rw [List.length_cons]
    omega
theorem er_ok (ahead : List (List Nat)) : (erF ahead).length ≤ ahead.length ∧ ∀ r ∈ erF ahead, r.length ≤ ahead.length := by
  have := er_go 0 (idx 0 ahead) [] 0 (Nat.le_refl _) fun _ h => (List.not_mem_nil h).elim
  rw [idx_len, Nat.zero_add] at this
  exact this
theorem ah_ok {n : Nat} {ls : List Ln} (h : okC n ls) : (ahF (wsF ls)).length ≤ 6 ∧ ∀ r ∈ ahF (wsF ls), r.length ≤ 6 := by
  obtain ⟨a, _⟩ := wsF_ok h
  refine ⟨by unfold ahF; rw [List.length_map, List.length_range]; exact a, fun r hr => ?_⟩
  obtain ⟨t, ht, rfl⟩ := List.mem_map.mp hr
  have := List.mem_range.mp ht
  unfold ahRow
  exact Nat.le_trans (List.length_filter_le _ _) (by rw [List.length_range]; omega)
def rLayers (CC : Addr) : Rel := fun ss μ r μ' => ∃ (n : Nat) (ls : List Ln) (ch : List Nat), okC n ls ∧ chG (ahF (wsF ls)) (erF (ahF (wsF ls))).reverse [] = some ch ∧ ss = [.p (circD CC n ls)] ∧ r = .v (.p (.tup [.tup ((erF (ahF (wsF ls))).map nsT), nsT ch])) ∧ μ' = μ
section
variable {P : Program} {w : World} {K : PySem.W.Frag} {mg : Str → Option Value} {base : Heap} {f C CC : Addr} {fd : FuncData}
theorem ok_layers (F : Fun K "layers" "layers" sLayers f fd) (T : TM mg) (ca : Cf P w K mg base 8 "_all_ahead" [] (rAhead CC)) (ce : Cf P w K mg base 1 "_early_rows" [] rEarly) : FnOk P w K mg base (L2.CX P w) 9 f fd ["circuit"] (spD K (rLayers CC)) := by
  refine fn_D (k := 8) F scLayers (fun ss μ r μ' h => by obtain ⟨_, _, _, _, _, rfl, _⟩ := h; rfl) ?_
  intro cdv A0 outer s0 H E N W ss μ r μ' g hA hR
  obtain ⟨n, ls, ch, hok, hch, rfl, rfl, rfl⟩ := hR
  obtain ⟨a1, a2⟩ := ah_ok hok
  obtain ⟨ahead, hah⟩ : ∃ a, ahF (wsF ls) = a := ⟨_, rfl⟩
  rw [hah] at hch a1 a2
  obtain ⟨e1, e2⟩ := er_ok ahead
  have lp : ∀ (l : List (List Nat)) (c out : List Nat), (∀ r ∈ l, r.length ≤ 6) → c.length + l.length ≤ 20 → chG ahead l c = some out → ∀ x4 x5, ∃ y4 y5, Loop (cxOf (L2.CX P w) P w K mg base ["circuit", "ahead", "rows", "chain", "row", "fitting", "turn"] "layers" (defScope sLayers) f cdv A0 outer s0 H E) N W (asName 4) (bodyOf sLayers 3) (l.map nsT) [some (.p (circD CC n ls)), some (.p (.lst (ahead.map nsL))), some (.p (.tup ((erF ahead).map nsT))), some (.p (nsL c)), x4, x5, none] μ' (.nx [some (.p (circD CC n ls)), some (.p (.lst (ahead.map nsL))), some (.p (.tup ((erF ahead).map nsT))), some (.p (nsL out)), y4, y5, none] μ') := by
    intro l
    induction l with
    | nil =>
      intro c out _ _ h x4 x5
      cases (show some c = some out from h)
      exact ⟨_, _, .nil⟩
    | cons row l ih =>
      intro c out hr hl h x4 x5
      have h6 := hr row List.mem_cons_self
      rw [List.length_cons] at hl
      unfold chG at h
      cases hs : stC ahead c row with
      | none => rw [hs] at h; cases h
      | some c' =>
        rw [hs] at h
        have hs2 := hs
        unfold stC at hs2
        split at hs2
        · rename_i hcond
          cases hf : row.filter (fitB ahead c) with
          | nil => rw [hf] at hs2; cases hs2
          | cons a rest =>
            rw [hf] at hs2
            cases (show some (a :: c) = some c' from hs2)
            obtain ⟨y4, y5, hlo⟩ := ih (a :: c) out (fun r h => hr r (List.mem_cons_of_mem _ h)) (by rw [List.length_cons]; omega) h (some (.p (nsT row))) (some (.p (.lst ((row.filter (fitB ahead c)).map inD))))
            refine ⟨y4, y5, .next rfl (dss_cons (ds_setLcIf 5 g [("turn", 6)] (di_tup g (de_var 4)) (fun s H C cl fp => dg_name 6 g.nd) (of_filt (gd := inD) (fy := inD) (q := fitB ahead c) fun t ht => ⟨_, rfl, fun s H C cl fp N' hK g' => dt_w (dw_or (k := decide (c.length = 0)) (dt_of (dt_cmp (de_of (d' := .int (c.length : Nat)) (de_callB (id := "len") (da_cons (de_var 3) da_nil) (c_lenL g') T.len (by decide +kernel)) (by rw [List.length_map])) de_int o_eqI) (decide_eq_decide.mpr (by omega))) (fun h0 => dw_or1 (dt_cmp (de_var 6) (de_ix (r := .v (.p (nsL (ahead.getD (c.getD 0 0) [])))) (de_var 1) (de_ix (r := .v (.p (inD (c.getD 0 0)))) (de_var 3) de_int (i_lst g' ?h1)) (i_lst g' ?h2)) (o_inNL g')))), fun _ s H C cl fp N' hK g' => de_var 6⟩) (ok := blkOk_by (by rfl)) (hds := by rw [List.length_map]; exact sz' (by omega))) (cn
              (dss_cons (ds_set 3 (de_of (d' := nsL (a :: c)) (de_lst (dp_cons (de_ix (de_var 5) de_int (i_lst g (show atI ((row.filter (fitB ahead c)).map inD) ((0 : Nat) : Int) = some (inD a) from atI_nat (by rw [hf]; rfl)))) (dp_star (de_var 3) dp_nil g.hK)) (by simp; exact sz (by omega))) (by simp)) g.nd) (cn dss_nil)))) hlo⟩
            · have h0 : ¬ c.length = 0 := of_decide_eq_false h0
              exact at_getD (i := 0) (by omega)
            · have h0 : ¬ c.length = 0 := of_decide_eq_false h0
              rcases hcond with hcond | hcond
              · exact (h0 hcond).elim
              · exact at_getD hcond
        · cases hs2
  obtain ⟨y4, y5, hlo⟩ := lp (erF ahead).reverse [] ch (fun r hr => Nat.le_trans (e2 r (List.mem_reverse.mp hr)) a1) (by simp; omega) hch none none
  rw [← hah] at hlo
  have ea : (ahF (wsF ls)).length ≤ 20 ∧ ∀ r ∈ ahF (wsF ls), r.length ≤ 20 := by rw [hah]; exact ⟨by omega, fun r hr => by have := a2 r hr; omega⟩
  exact ⟨_, dss_cons (ds_set 1 (de_call g ca (da_cons (de_var 0) da_nil) ⟨n, ls, hok, rfl, rfl, rfl⟩) g.nd) (cn (dss_cons (ds_set 2 (de_call g ce (da_cons (de_var 1) da_nil) ⟨ahF (wsF ls), ea.1, ea.2, rfl, rfl, rfl⟩) g.nd) (cn (dss_cons (ds_set 3 (de_lst dp_nil (sz (by show 0 ≤ 100000; decide))) g.nd) (cn
    (dss_cons (ds_for g (di_of (di_tup g (de_revT g (de_var 2))) List.map_reverse.symm) (dg_name 4 g.nd) hlo) (cn (dss_ret (de_tup (dp_cons (de_var 2) (dp_cons (de_callT (T := "tuple") (da_cons (s := .p (nsL ch)) (de_var 3) da_nil) c_tupL T.tuple (by decide +kernel)) dp_nil))))))))))), .rt⟩
end
end K58
set_option Elab.async false
set_option linter.all false
set_option maxRecDepth 100000
set_option maxHeartbeats 4000000
set_option autoImplicit false
namespace K58F
open PySem PySem.Spec PyProof.Rows L2 Dl Cq
theorem scIsWhole : FnScope ["value"] ["value"] (defScope sIsWhole) := ⟨rfl, rfl, rfl, by decide +kernel, rfl, by decide +kernel, by decide +kernel⟩
structure TB (K : PySem.W.Frag) (mg : Str → Option Value) : Prop where
  bool : mg "bool" = none
  sorted : mg "sorted" = none
  ib : PySem.W.kitOne K (.type "int") (.type "bool") = some false
def rWhole : Rel := fun ss μ r μ' => ∃ (i : Int), ss = [.p (.int i)] ∧ r = .v (.p (.bl true)) ∧ μ' = μ
section
variable {P : Program} {w : World} {K : PySem.W.Frag} {mg : Str → Option Value} {base : Heap} {f C : Addr} {fd : FuncData} {CC CO CL CM aS aT aW aA aP : Addr}
theorem ok_whole (F : Fun K "is_whole" "is_whole" sIsWhole f fd) (T : TM mg) (B : TB K mg) : FnOk P w K mg base (L2.CX P w) 1 f fd ["value"] (spD K rWhole) := by
  refine fn_D (k := 0) F scIsWhole (fun ss μ r μ' h => by obtain ⟨d, rfl, _⟩ := h; rfl) ?_
  intro cdv A outer s0 H E N W ss μ r μ' g hA hR
  obtain ⟨i, rfl, rfl, rfl⟩ := hR
  exact ⟨_, dss_ret (de_of (d' := .bl true) (de_and (k := true) (k' := true) (de_callB (id := "isinstance") (da_cons (de_var 0) (da_cons (de_ty T.int (by decide +kernel)) da_nil)) (c_isi g (.int _) (.ty _) kit_same) T.isinstance (by decide +kernel)) (fun _ => de_one (de_not (de_callB (id := "isinstance") (da_cons (de_var 0) (da_cons (de_ty B.bool (by decide +kernel)) da_nil)) (c_isi g (.int _) (.ty _) B.ib) T.isinstance (by decide +kernel))))) rfl), .rt⟩
end
end K58F
set_option Elab.async false
set_option linter.all false
set_option maxRecDepth 100000
set_option maxHeartbeats 4000000
set_option autoImplicit false
namespace K58
open PySem PySem.Spec PyProof.Rows L2 Dl Cq
theorem scChoices : FnScope ["turns", "most", "rows", "turn", "row"] ["turns", "most"] (defScope sChoices) := ⟨rfl, rfl, rfl, by decide +kernel, rfl, by decide +kernel, by decide +kernel⟩
theorem scNeedNum : FnScope ["most"] ["most"] (defScope sNeedNum) := ⟨rfl, rfl, rfl, by decide +kernel, rfl, by decide +kernel, by decide +kernel⟩
/-! ### choices -/
def chsF (ts : List Nat) : List (List Nat) := ts.foldl (fun rows t => rows ++ rows.map (· ++ [t])) [[]]
def choF (ts : List Nat) (most : Nat) : List (List Nat) := (chsF ts).filter fun r => decide (1 ≤ r.length) && decide (r.length ≤ most)
def rChoices : Rel := fun ss μ r μ' => ∃ (ts : List Nat) (most : Nat), ts.length ≤ 6 ∧ ss = [.p (nsL ts), .p (inD most)] ∧ r = .v (.p (.lst ((choF ts most).map nsT))) ∧ μ' = μ
def rNeedNum : Rel := fun ss μ r μ' => ∃ (m : Nat), 1 ≤ m ∧ m ≤ 6 ∧ ss = [.p (inD m)] ∧ r = .v (.p .non) ∧ μ' = μ
section
variable {P : Program} {w : World} {K : PySem.W.Frag} {mg : Str → Option Value} {base : Heap} {f C CC : Addr} {fd : FuncData}
theorem ok_alldone (F : Fun K "_all_done" "_all_done" sAllDone f fd) (T : TM mg) : FnOk P w K mg base (L2.CX P w) 1 f fd ["turns", "done"] (spD K rAllDone) := by
  refine fn_D (k := 0) F scAllDone (fun ss μ r μ' h => by obtain ⟨_, _, _, _, rfl, _⟩ := h; rfl) ?_
  intro cdv A0 outer s0 H E N W ss μ r μ' g hA hR
  obtain ⟨ts, done, h1, h2, rfl, rfl, rfl⟩ := hR
  exact ⟨_, dss_ret (de_callB (id := "all") (da_cons (de_lc g [("turn", 2)] (di_lst g (de_var 0)) (fun s H C cl fp => dg_name 2 g.nd) (of_maps (gd := inD) (fy := fun t => .bl (decide (t ∈ done))) fun t ht => ⟨_, rfl, fun s H C cl fp N' hK g' => de_cmp (de_var 2) (de_var 1) (o_inNT g')⟩) (ok := blkOk_by (by rfl)) (hds := by rw [List.length_map]; exact sz' (by omega))) da_nil) (c_allm (q := fun t => decide (t ∈ done)) g) T.all (by decide +kernel)), .rt⟩
theorem ok_neednum (F : Fun K "_need_number" "_need_number" sNeedNum f fd) (hm : ∃ u, mg "MOST_IN_LAYER" = some u ∧ RelV (.int 6) u) (cw : Cf P w K mg base 1 "is_whole" [] K58F.rWhole) : FnOk P w K mg base (L2.CX P w) 2 f fd ["most"] (spD K rNeedNum) := by
  refine fn_D (k := 1) F scNeedNum (fun ss μ r μ' h => by obtain ⟨_, _, _, rfl, _⟩ := h; rfl) ?_
  intro cdv A0 outer s0 H E N W ss μ r μ' g hA hR
  obtain ⟨m, h1, h6, rfl, rfl, rfl⟩ := hR
  obtain ⟨u, hu, ru⟩ := hm
  refine ⟨_, dss_skip (dt_of (dt_w (dw_or (k := false) (k' := false) (dt_of (dt_not (dt_val (de_call g cw (da_cons (de_var 0) da_nil) ⟨(m : Nat), rfl, rfl, rfl⟩))) rfl) (fun _ => dw_or1 (dt_of (dt_not (dt_chn de_int (de_var 0) o_le (fun _ => de_glob hu ru (fun _ _ => .int 6)) (fun _ => o_le))) ?_)))) rfl) dss_nil, .nx⟩
  rw [decide_eq_true (show (1 : Int) ≤ ((m : Nat) : Int) by omega), decide_eq_true (show ((m : Nat) : Int) ≤ 6 by omega)]
  rfl
theorem chs_len : ∀ (ts : List Nat) (rows : List (List Nat)), (ts.foldl (fun rows t => rows ++ rows.map (· ++ [t])) rows).length = rows.length * 2 ^ ts.length
  | [], rows => by simp
  | t :: ts, rows => by
    rw [List.foldl_cons, chs_len ts, List.length_append, List.length_map, List.length_cons, Nat.pow_succ]
    rw [← Nat.two_mul, Nat.mul_comm 2, Nat.mul_assoc, Nat.mul_comm 2]
theorem ok_choices (F : Fun K "_choices" "_choices" sChoices f fd) (T : TM mg) : FnOk P w K mg base (L2.CX P w) 1 f fd ["turns", "most"] (spD K rChoices) := by
  refine fn_D (k := 0) F scChoices (fun ss μ r μ' h => by obtain ⟨_, _, _, rfl, _⟩ := h; rfl) ?_
  intro cdv A0 outer s0 H E N W ss μ r μ' g hA hR
  obtain ⟨ts, most, h6, rfl, rfl, rfl⟩ := hR
  have p6 : ∀ k, k ≤ 6 → 2 ^ k ≤ 64 := fun k h => Nat.pow_le_pow_right (by decide) h
  have hbig : (chsF ts).length ≤ 64 := by
    unfold chsF
    rw [chs_len]
    have := p6 _ h6
    simpa using this
  obtain ⟨δ', hlo, ⟨x3, rfl⟩, hI⟩ := loop_fo (X := cxOf (L2.CX P w) P w K mg base ["turns", "most", "rows", "turn", "row"] "_choices" (defScope sChoices) f cdv A0 outer s0 H E) (N := N) (W := W) (f := asName 3) (body := bodyOf sChoices 1) (T := List (List Nat)) (mu := fun _ => μ') (nx := fun t rows => rows ++ rows.map (· ++ [t])) (gd := inD)
    (fun k rows => rows.length * 2 ^ k ≤ 64 ∧ ∀ r ∈ rows, r.length + k ≤ 6) (fun rows δ => ∃ x3, δ = [some (.p (nsL ts)), some (.p (inD most)), some (.p (.lst (rows.map nsT))), x3, none]) ts [some (.p (nsL ts)), some (.p (inD most)), some (.p (.lst [nsT []])), none, none] [[]]
    (fun t ht k rows δ hδ hI => by
      obtain ⟨x3, rfl⟩ := hδ
      obtain ⟨hI, hr6⟩ := hI
      have h2 : rows.length * 2 ≤ 64 := by
        rw [Nat.pow_succ] at hI
        have h1 : 1 ≤ 2 ^ k := Nat.one_le_two_pow
        have : rows.length * 2 * 1 ≤ rows.length * 2 * 2 ^ k := Nat.mul_le_mul_left _ h1
        have e : rows.length * (2 ^ k * 2) = rows.length * 2 * 2 ^ k := by rw [Nat.mul_comm (2 ^ k), Nat.mul_assoc]
        omega
      have el : rows.map nsT ++ ((rows.map fun r => nsT (r ++ [t])) ++ []) = (rows ++ rows.map (· ++ [t])).map nsT := by
        rw [List.append_nil, List.map_append, List.map_map]
        rfl
      refine ⟨⟨?_, ?_⟩, _, _, rfl, dss_cons (ds_set 2 (de_of (d' := .lst ((rows ++ rows.map (· ++ [t])).map nsT)) (de_lst (dp_star (de_var 2) (dp_star (de_lc g [("row", 4)] (di_lst g (de_var 2)) (fun s H C cl fp => dg_name 4 g.nd) (of_maps (gd := nsT) (fy := fun r => nsT (r ++ [t])) fun r hr => ⟨_, rfl, fun s H C cl fp N' hK g' => de_of (de_tup (dp_starT (de_var 4) (dp_cons (de_var 3) dp_nil) g'.hK) ?hz) (by show D.tup (r.map inD ++ [inD t]) = nsT (r ++ [t]); unfold nsT; rw [List.map_append]; rfl)⟩) (ok := blkOk_by (by rfl)) (hds := by rw [List.length_map]; exact sz' (by omega))) dp_nil g.hK) g.hK) (by rw [el, List.length_map, List.length_append, List.length_map]; exact sz (by omega))) (congrArg D.lst el)) g.nd) (cn dss_nil), _, rfl⟩
      · show (rows ++ rows.map (· ++ [t])).length * 2 ^ k ≤ 64
        rw [List.length_append, List.length_map, ← Nat.two_mul]
        rw [Nat.pow_succ] at hI
        rw [Nat.mul_comm 2, Nat.mul_assoc, Nat.mul_comm 2]
        exact hI
      · intro r hr
        rcases List.mem_append.mp hr with hr | hr
        · have := hr6 r hr; omega
        · obtain ⟨r2, h2, rfl⟩ := List.mem_map.mp hr
          have := hr6 r2 h2
          rw [List.length_append]
          simp
          omega
      · have := hr6 r hr
        rw [List.length_append, List.length_map]
        exact sz (by simp; omega)) ⟨none, rfl⟩ ⟨by have := p6 _ h6; simpa using this, fun r hr => by simp at hr; rw [hr]; simp; exact h6⟩
  refine ⟨_, dss_cons (ds_set 2 (de_lst (dp_cons (de_tup dp_nil) dp_nil) (sz (by show 1 ≤ 100000; decide))) g.nd) (cn (dss_cons (ds_for g (di_lst g (de_var 0)) (dg_name 3 g.nd) hlo) (cn
    (dss_ret (de_lcIf g [("row", 4)] (di_lst g (de_var 2)) (fun s H C cl fp => dg_name 4 g.nd) (of_filt (gd := nsT) (fy := nsT) (q := fun r => decide (1 ≤ r.length) && decide (r.length ≤ most)) fun r hr => ⟨_, rfl, fun s H C cl fp N' hK g' => dt_of (dt_chn de_int (de_of (d' := .int (r.length : Nat)) (de_callB (id := "len") (da_cons (de_var 4) da_nil) (c_lenT g') T.len (by decide +kernel)) (by rw [List.length_map])) o_le (fun _ => de_var 1) (fun _ => o_le)) (by congr 1 <;> exact decide_eq_decide.mpr (by omega)), fun _ s H C cl fp N' hK g' => de_var 4⟩) (ok := blkOk_by (by rfl)) (hds := by rw [List.length_map]; exact sz' (by have : (chsF ts).length ≤ 64 := hbig; unfold chsF at this; omega))))))), .rt⟩
end
end K58
set_option Elab.async false
set_option linter.all false
set_option maxRecDepth 100000
set_option maxHeartbeats 4000000
set_option autoImplicit false
namespace K58
open PySem PySem.Spec PyProof.Rows L2 Dl Cq
theorem scSome : FnScope ["pot", "pool", "many", "rest", "found", "lap"] ["pot", "pool", "many"] (defScope sSome) := ⟨rfl, rfl, rfl, by decide +kernel, rfl, by decide +kernel, by decide +kernel⟩
theorem scKnobs : FnScope ["pot", "many", "pool"] ["pot", "many"] (defScope sKnobs) := ⟨rfl, rfl, rfl, by decide +kernel, rfl, by decide +kernel, by decide +kernel⟩
/-! ### some of a row -/
structure SmT (α : Type) where
  p : Pot
  rest : List α
  found : List α
def smX {α : Type} (d : α) (t : SmT α) : SmT α := ⟨tkP t.p t.rest.length, t.rest.eraseIdx (tk t.p t.rest.length), t.found ++ [t.rest.getD (tk t.p t.rest.length) d]⟩
def iter {T : Type} (nx : T → T) : Nat → T → T
  | 0, t => t
  | n + 1, t => iter nx n (nx t)
def someF {α : Type} (d : α) (n : Nat) (p : Pot) (l : List α) : List α × Pot := ((iter (smX d) n ⟨p, l, []⟩).found, (iter (smX d) n ⟨p, l, []⟩).p)
def rSome : Rel := fun ss μ r μ' => ∃ (α : Type) (q : α → D) (d : α) (j : Nat) (p : Pot) (l : List α) (n : Nat), p.ok 8900 ∧ n ≤ l.length ∧ l.length ≤ 20 ∧ ss = [.l j, .p (.lst (l.map q)), .p (.int (n : Nat))] ∧ μ[j]? = some p.m ∧ r = .v (.p (.lst ((someF d n p l).1.map q))) ∧ μ' = μ.set j (someF d n p l).2.m
theorem erase_perm {α : Type} : ∀ (l : List α) (i : Nat) (h : i < l.length), (l[i] :: l.eraseIdx i).Perm l
  | a :: l, 0, _ => List.Perm.refl _
  | a :: l, i + 1, h => by
    have h' : i < l.length := by simpa using h
    have ih := erase_perm l i h'
    show (l[i] :: a :: l.eraseIdx i).Perm (a :: l)
    exact (List.Perm.swap a l[i] _).trans (List.Perm.cons a ih)
/-- what is drawn: as many, none twice, out of the row -/
theorem sm_sub {α : Type} (d : α) : ∀ (n : Nat) (t : SmT α), n ≤ t.rest.length → (t.found ++ t.rest).Nodup → (iter (smX d) n t).found.length = t.found.length + n ∧ ((iter (smX d) n t).found ++ (iter (smX d) n t).rest).Nodup ∧ ∀ x ∈ (iter (smX d) n t).found ++ (iter (smX d) n t).rest, x ∈ t.found ++ t.rest
  | 0, t, _, h => ⟨rfl, h, fun x hx => hx⟩
  | n + 1, t, hn, h => by
    have hi : tk t.p t.rest.length < t.rest.length := tk_lt (by omega)
    have hg : t.rest.getD (tk t.p t.rest.length) d = t.rest[tk t.p t.rest.length] := by rw [List.getD_eq_getElem?_getD, List.getElem?_eq_getElem hi]; rfl
    have hperm : ((smX d t).found ++ (smX d t).rest).Perm (t.found ++ t.rest) := by
      show ((t.found ++ [t.rest.getD (tk t.p t.rest.length) d]) ++ t.rest.eraseIdx (tk t.p t.rest.length)).Perm _
      rw [List.append_assoc, hg]
      refine List.Perm.append_left _ ?_
      exact erase_perm t.rest _ hi
    obtain ⟨h1, h2, h3⟩ := sm_sub d n (smX d t) (by show n ≤ (t.rest.eraseIdx _).length; rw [List.length_eraseIdx]; split <;> omega) (hperm.nodup_iff.mpr h)
    refine ⟨?_, h2, fun x hx => hperm.mem_iff.mp (h3 x hx)⟩
    show (iter (smX d) n (smX d t)).found.length = _
    rw [h1]
    show (t.found ++ [_]).length + n = _
    simp
    omega
theorem someF_is {α : Type} {d : α} {n : Nat} {p : Pot} {l : List α} (h : n ≤ l.length) (hd : l.Nodup) : (someF d n p l).1.length = n ∧ (someF d n p l).1.Nodup ∧ ∀ x ∈ (someF d n p l).1, x ∈ l := by
  obtain ⟨h1, h2, h3⟩ := sm_sub d n ⟨p, l, []⟩ h hd
  refine ⟨h1.trans (Nat.zero_add n), (List.nodup_append.mp h2).1, fun x hx => ?_⟩
  simpa using h3 x (List.mem_append_left _ hx)
def muS {α : Type} (q : α → D) (j : Nat) (μ0 : List M) (t : SmT α) : List M := μ0.set j t.p.m ++ [.lst (t.rest.map q), .lst (t.found.map q)]
section
variable {α : Type} {q : α → D} {j : Nat} {μ0 : List M} {x : M} {p p' : Pot} {r f r' f' : List α}
theorem ms_at (h : μ0[j]? = some x) : (muS q j μ0 ⟨p, r, f⟩)[j]? = some p.m := by
  have := (List.getElem?_eq_some_iff.mp h).1
  unfold muS
  rw [List.getElem?_append_left (by simpa using this)]
  exact set_at h
theorem ms_r : (muS q j μ0 ⟨p, r, f⟩)[μ0.length]? = some (.lst (r.map q)) := by
  unfold muS
  rw [List.getElem?_append_right (by simp)]
  simp
theorem ms_f : (muS q j μ0 ⟨p, r, f⟩)[μ0.length + 1]? = some (.lst (f.map q)) := by
  unfold muS
  rw [List.getElem?_append_right (by simp)]
  simp
theorem ms_set (h : μ0[j]? = some x) : (muS q j μ0 ⟨p, r, f⟩).set j p'.m = muS q j μ0 ⟨p', r, f⟩ := by
  have := (List.getElem?_eq_some_iff.mp h).1
  unfold muS
  rw [List.set_append_left _ _ (by simpa using this), List.set_set]
theorem ms_rset : (muS q j μ0 ⟨p, r, f⟩).set μ0.length (.lst (r'.map q)) = muS q j μ0 ⟨p, r', f⟩ := by
  unfold muS
  rw [List.set_append_right _ _ (by simp)]
  simp
theorem ms_fset : (muS q j μ0 ⟨p, r, f⟩).set (μ0.length + 1) (.lst (f'.map q)) = muS q j μ0 ⟨p, r, f'⟩ := by
  unfold muS
  rw [List.set_append_right _ _ (by simp)]
  simp
end
theorem map_erase {α : Type} (q : α → D) : ∀ (l : List α) (i : Nat), (l.map q).eraseIdx i = (l.eraseIdx i).map q
  | [], _ => rfl
  | _ :: _, 0 => rfl
  | n :: l, i + 1 => congrArg (q n :: ·) (map_erase q l i)
section
variable {X : Cx} {N : En} {W : WX} {f : As} {body : List Stmt}
theorem loop_st {T : Type} {mu : T → List M} {nx : T → T} (I : Nat → T → Prop) (Δ : T → List (Option S) → Prop)
    (h : ∀ k t d δ, Δ t δ → I (k + 1) t → I k (nx t) ∧ ∃ δt δ1, f d δ = some δt ∧ DSs X N W δt (mu t) body (.nx δ1 (mu (nx t))) ∧ Δ (nx t) δ1) :
    ∀ (ds : List D) (δ : List (Option S)) (t : T), Δ t δ → I ds.length t → ∃ δ', Loop X N W f body ds δ (mu t) (.nx δ' (mu (iter nx ds.length t))) ∧ Δ (iter nx ds.length t) δ' ∧ I 0 (iter nx ds.length t)
  | [], δ, t, h0, hi => ⟨δ, .nil, h0, hi⟩
  | d :: ds, δ, t, h0, hi => by
    obtain ⟨h1, δt, δ1, h2, h3, h4⟩ := h ds.length t d δ h0 hi
    obtain ⟨δ', h5, h6, h7⟩ := loop_st I Δ h ds δ1 (nx t) h4 h1
    exact ⟨δ', .next h2 h3 h5, h6, h7⟩
end
section
variable {P : Program} {w : World} {K : PySem.W.Frag} {mg : Str → Option Value} {base : Heap} {f C : Addr} {fd : FuncData}
theorem ok_some (F : Fun K "_law_some" "_law_some" sSome f fd) (T : TM mg) (ct : Cf P w K mg base 1 "_law_take" [] rTk) : FnOk P w K mg base (L2.CX P w) 2 f fd ["pot", "pool", "many"] (spD K rSome) := by
  refine fn_D (k := 1) F scSome (fun ss μ r μ' h => by obtain ⟨_, _, _, _, _, _, _, _, _, _, rfl, _⟩ := h; rfl) ?_
  intro cdv A0 outer s0 H E N W ss μ r μ' g hA hR
  obtain ⟨α, q, dd, j, p0, ns, n, hp, hn, h10, rfl, hj, rfl, rfl⟩ := hR
  have hone : ∀ k t d δ, (∃ x5, δ = [some (.l j), some (.p (.lst (ns.map q))), some (.p (.int (n : Nat))), some (.l μ.length), some (.l (μ.length + 1)), x5]) → (t.p.ok (8950 - (k + 1)) ∧ k + 1 ≤ t.rest.length ∧ t.rest.length ≤ 20 ∧ t.found.length ≤ 30 - (k + 1) ∧ k + 1 ≤ 20) → (((smX dd t).p.ok (8950 - k) ∧ k ≤ (smX dd t).rest.length ∧ (smX dd t).rest.length ≤ 20 ∧ (smX dd t).found.length ≤ 30 - k ∧ k ≤ 20)) ∧
      ∃ δt δ1, (asName 5) d δ = some δt ∧ DSs (cxOf (L2.CX P w) P w K mg base ["pot", "pool", "many", "rest", "found", "lap"] "_law_some" (defScope sSome) f cdv A0 outer s0 H E) N W δt (muS q j μ t) (bodyOf sSome 1) (.nx δ1 (muS q j μ (smX dd t))) ∧ (∃ x5, δ1 = [some (.l j), some (.p (.lst (ns.map q))), some (.p (.int (n : Nat))), some (.l μ.length), some (.l (μ.length + 1)), x5]) := by
    rintro k ⟨p, rs, fo⟩ d _ ⟨x5, rfl⟩ ⟨ok, hk, h10', hf, hk10⟩
    simp only at ok hk h10' hf
    have hi : tk p rs.length < rs.length := tk_lt (by omega)
    have lr : (rs.map q).length = rs.length := List.length_map ..
    have hx : (rs.map q)[tk p rs.length]? = some (q (rs.getD (tk p rs.length) dd)) := by
      rw [List.getElem?_map, List.getElem?_eq_getElem hi, List.getD_eq_getElem?_getD, List.getElem?_eq_getElem hi]
      rfl
    refine ⟨⟨(tkP_ok ok).mono (by omega), ?_, ?_, ?_, by omega⟩, _, _, rfl, dss_cons (ds_expr (de_bm PySem.F.plainAttrs_list PySem.F.slot_list_append PySem.F.type_list_append (de_var 4) (da_cons
        (de_bm PySem.F.plainAttrs_list PySem.F.slot_list_pop PySem.F.type_list_pop (de_var 3) (da_cons (de_call g ct (da_cons (de_var 0) (da_cons (de_of (de_callB (id := "len") (da_cons (de_var 3) da_nil) (c_lenM ms_r) T.len (by decide +kernel)) (by rw [lr])) da_nil)) ⟨j, p, rs.length, ok.mono (by omega), by omega, by omega, rfl, ms_at hj, rfl, (ms_set hj).symm⟩) da_nil)
          (m_popAt (q := tk p rs.length) ms_r ms_r (by omega) (by rw [lr, seqIndex_of (by omega) (by omega), Int.toNat_natCast]) hx)) da_nil)
        (m_append ms_f (by rw [map_erase, ms_rset]; exact ms_f) (by rw [List.length_map]; exact size4' (by omega))))) (cn (Eq.mp (congrArg (fun ν => DSs _ N W _ ν [] _) ?_) dss_nil)), _, rfl⟩
    · show k ≤ (rs.eraseIdx _).length
      rw [List.length_eraseIdx]
      split <;> omega
    · show (rs.eraseIdx _).length ≤ 20
      rw [List.length_eraseIdx]
      split <;> omega
    · show (fo ++ [_]).length ≤ _
      rw [List.length_append]
      show fo.length + 1 ≤ _
      omega
    · rw [map_erase, ms_rset, show fo.map q ++ [q (rs.getD (tk p rs.length) dd)] = (fo ++ [rs.getD (tk p rs.length) dd]).map q by simp, ms_fset]
      rfl
  have e0 : muS q j μ ⟨p0, ns, []⟩ = (μ ++ [.lst (ns.map q)]) ++ [.lst []] := by
    unfold muS
    rw [set_self hj, List.append_assoc]
    rfl
  have er : (rangeD 0 n).length = n := by simp [rangeD]
  obtain ⟨δ', hl, ⟨x5, rfl⟩, hI⟩ := loop_st (X := cxOf (L2.CX P w) P w K mg base ["pot", "pool", "many", "rest", "found", "lap"] "_law_some" (defScope sSome) f cdv A0 outer s0 H E) (N := N) (W := W) (f := asName 5) (body := bodyOf sSome 1) (T := SmT α) (mu := muS q j μ) (nx := smX dd)
    (fun k t => t.p.ok (8950 - k) ∧ k ≤ t.rest.length ∧ t.rest.length ≤ 20 ∧ t.found.length ≤ 30 - k ∧ k ≤ 20) (fun t δ => ∃ x5, δ = [some (.l j), some (.p (.lst (ns.map q))), some (.p (.int (n : Nat))), some (.l μ.length), some (.l (μ.length + 1)), x5]) hone (rangeD 0 n) [some (.l j), some (.p (.lst (ns.map q))), some (.p (.int (n : Nat))), some (.l μ.length), some (.l (μ.length + 1)), none] ⟨p0, ns, []⟩ ⟨_, rfl⟩
    (by
      rw [er]
      exact ⟨hp.mono (by omega), hn, h10, by show 0 ≤ _; omega, by omega⟩)
  rw [er] at hl
  rw [e0] at hl
  have lenF : (μ ++ [M.lst (ns.map q)]).length = μ.length + 1 := by simp
  have hfin : ∀ t : SmT α, (muS q j μ t).set (μ.length + 1) .gone = μ.set j t.p.m ++ [.lst (t.rest.map q), .gone] := fun t => by
    unfold muS
    rw [List.set_append_right _ _ (by simp)]
    simp
  refine ⟨_, dss_cons (ds_par 3 4 g (da_cons (de_callT (T := "list") (da_cons (de_var 1) da_nil) c_listM T.list (by decide +kernel)) (da_cons (de_lstM dp_nil) da_nil))) (cn
    (dss_cons (ds_for g (di_range1 (da_cons (de_var 2) da_nil) T.range (by omega)) (dg_name 5 g.nd) (by rw [lenF]; exact hl)) (cn
    (dss_freeze ms_f (by omega) 4 rfl (dss_ret (de_var 4)))))), ?_⟩
  rw [hfin]
  have e2 : (μ.set j (someF dd n p0 ns).2.m ++ [M.lst ((iter (smX dd) n ⟨p0, ns, []⟩).rest.map q), M.gone]).take μ.length = μ.set j (someF dd n p0 ns).2.m := by
    rw [List.take_append_of_le_length (by simp), List.take_of_length_le (by simp)]
  conv => rhs; rw [← e2]
  exact .rtT (Nat.le_refl _)
end
/-! ### drawn knobs -/
abbrev nmD (k : List Nat) : D := .str (st k)
def poolL : List (List Nat) := [[107], [109], [110], [97], [98], [98, 121], [116, 117, 114, 110], [119, 105, 114, 101, 115], [104], [122, 122, 122, 122, 122, 122, 122, 122], [102, 108, 105, 112], [120], [115, 101, 116], [115, 116, 97, 114, 116]]
structure okKs (ks : List (List Nat)) : Prop where
  one : ks ≠ []
  len : ks.length ≤ 14
  nd : ks.Nodup
  nm : ∀ k ∈ ks, okNm k
theorem pool_nd : poolL.Nodup := by decide +kernel
theorem pool_nm : ∀ k ∈ poolL, okNm k := by
  have h : ∀ k ∈ poolL, 1 ≤ k.length ∧ k.length ≤ 8 ∧ ∀ c ∈ k, 97 ≤ c ∧ c ≤ 122 := by decide +kernel
  exact fun k hk => ⟨(h k hk).1, (h k hk).2.1, (h k hk).2.2⟩
def knobsD (m : Nat) (p : Pot) : List (List Nat) × Pot := someF [] m p poolL
theorem knobsD_is {m : Nat} {p : Pot} (h1 : 1 ≤ m) (h : m ≤ 14) : okKs (knobsD m p).1 := by
  obtain ⟨l1, l2, l3⟩ := someF_is (d := ([] : List Nat)) (n := m) (p := p) (l := poolL) h pool_nd
  exact ⟨fun e => by rw [show (someF [] m p poolL).1 = [] from e] at l1; simp at l1; omega, by rw [show (knobsD m p).1.length = m from l1]; exact h, l2, fun k hk => pool_nm k (l3 k hk)⟩
def rKnobs : Rel := fun ss μ r μ' => ∃ (j : Nat) (p : Pot) (m : Nat), p.ok 8880 ∧ m ≤ 14 ∧ ss = [.l j, .p (.int (m : Nat))] ∧ μ[j]? = some p.m ∧ r = .v (.p (.lst ((knobsD m p).1.map nmD))) ∧ μ' = μ.set j (knobsD m p).2.m
section
variable {P : Program} {w : World} {K : PySem.W.Frag} {mg : Str → Option Value} {base : Heap} {f C : Addr} {fd : FuncData}
theorem ok_knobs (F : Fun K "_law_knobs" "_law_knobs" sKnobs f fd) (cs : Cf P w K mg base 2 "_law_some" [] rSome) : FnOk P w K mg base (L2.CX P w) 3 f fd ["pot", "many"] (spD K rKnobs) := by
  refine fn_D (k := 2) F scKnobs (fun ss μ r μ' h => by obtain ⟨_, _, _, _, _, rfl, _⟩ := h; rfl) ?_
  intro cdv A0 outer s0 H E N W ss μ r μ' g hA hR
  obtain ⟨j, p, m, hp, hm, rfl, hj, rfl, rfl⟩ := hR
  exact ⟨_, dss_cons (ds_set 2 (de_of (d' := .lst (poolL.map nmD)) (de_lst (dp_cons de_str (dp_cons de_str (dp_cons de_str (dp_cons de_str (dp_cons de_str (dp_cons de_str (dp_cons de_str (dp_cons de_str (dp_cons de_str (dp_cons de_str (dp_cons de_str (dp_cons de_str (dp_cons de_str (dp_cons de_str dp_nil)))))))))))))) (sz (by show 14 ≤ 100000; decide))) rfl) g.nd) (cn (dss_ret (de_call g cs (da_cons (de_var 0) (da_cons (de_var 2) (da_cons (de_var 1) da_nil))) ⟨List Nat, nmD, [], j, p, poolL, m, hp.mono (by omega), hm, by decide, rfl, hj, rfl, rfl⟩))), .rt⟩
end
end K58
set_option Elab.async false
set_option linter.all false
set_option maxRecDepth 100000
set_option maxHeartbeats 4000000
set_option autoImplicit false
namespace Dl
open PySem PySem.Spec PyProof.Rows L2
/-! ## dicts that change, with keys that are tuples of ints and texts -/
abbrev TK := List Key
def valT (kv : List (TK × D)) (k : TK) : Option D := (kv.find? fun p => decide (p.1 = k)).map (·.2)
def putT (kv : List (TK × D)) (k : TK) (d : D) : List (TK × D) :=
  if (kv.any fun p => decide (p.1 = k)) = true then kv.map (fun p => if p.1 = k then (p.1, d) else p) else kv ++ [(k, d)]
inductive RKT (K : PySem.W.Frag) (F : Hp) : List (TK × V) → List (TK × D) → Prop
  | nil : RKT K F [] []
  | cons {k v d kvs kv} : Rep K F v d → RKT K F kvs kv → RKT K F ((k, v) :: kvs) ((k, d) :: kv)
section
variable {K : PySem.W.Frag} {F F' : Hp} {kvs : List (TK × V)} {kv : List (TK × D)} {k : TK} {v : V} {d : D}
theorem RKT.keys (h : RKT K F kvs kv) : kvs.map (·.1) = kv.map (·.1) := by
  induction h with
  | nil => rfl
  | cons _ _ ih => rw [List.map_cons, List.map_cons, ih]
theorem RKT.reps (h : RKT K F kvs kv) : Reps K F (kvs.map (·.2)) (kv.map (·.2)) := by
  induction h with
  | nil => exact .nil
  | cons r _ ih => exact .cons r ih
theorem RKT.mono (h : RKT K F kvs kv) (s : Same F F') : RKT K F' kvs kv := by
  induction h with
  | nil => exact .nil
  | cons r _ ih => exact .cons (r.mono s) ih
theorem RKT.length (h : RKT K F kvs kv) : kvs.length = kv.length := by
  induction h with
  | nil => rfl
  | cons _ _ ih => rw [List.length_cons, List.length_cons, ih]
theorem RKT.any (h : RKT K F kvs kv) : (kvs.any fun p => decide (p.1 = k)) = kv.any fun p => decide (p.1 = k) := by
  induction h with
  | nil => rfl
  | cons _ _ ih => rw [List.any_cons, List.any_cons, ih]
theorem RKT.over (h : RKT K F kvs kv) (r : Rep K F v d) : RKT K F (kvs.map fun p => if p.1 = k then (p.1, v) else p) (kv.map fun p => if p.1 = k then (p.1, d) else p) := by
  induction h with
  | nil => exact .nil
  | @cons j x y ks es q _ ih =>
    rw [List.map_cons, List.map_cons]
    by_cases hj : j = k
    · rw [if_pos hj, if_pos hj]; exact .cons r ih
    · rw [if_neg hj, if_neg hj]; exact .cons q ih
theorem RKT.snoc (h : RKT K F kvs kv) (r : Rep K F v d) : RKT K F (kvs ++ [(k, v)]) (kv ++ [(k, d)]) := by
  induction h with
  | nil => exact .cons r .nil
  | cons q _ ih => exact .cons q ih
theorem RKT.put (h : RKT K F kvs kv) (r : Rep K F v d) : RKT K F (putK kvs k v) (putT kv k d) := by
  unfold putK putT
  rw [h.any]
  split
  · exact h.over r
  · exact h.snoc r
theorem RKT.val (h : RKT K F kvs kv) (k : TK) : (valT kv k = none ∧ valV kvs k = none) ∨ ∃ v d, valT kv k = some d ∧ valV kvs k = some v ∧ Rep K F v d := by
  induction h with
  | nil => exact .inl ⟨rfl, rfl⟩
  | @cons j v d kvs kv r _ ih =>
    by_cases hj : j = k
    · exact .inr ⟨v, d, by simp [valT, hj], by simp [valV, hj], r⟩
    · have e1 : valT ((j, d) :: kv) k = valT kv k := by simp [valT, hj]
      have e2 : valV ((j, v) :: kvs) k = valV kvs k := by simp [valV, hj]
      rw [e1, e2]
      exact ih
theorem RKT.some_eq (h : RKT K F kvs kv) (k : TK) : (valV kvs k).isSome = (valT kv k).isSome := by
  rcases h.val k with ⟨a, b⟩ | ⟨v, d, a, b, _⟩ <;> rw [a, b] <;> rfl
theorem rkt_of : ∀ {kvs : List (TK × V)} {kv : List (TK × D)}, kvs.map (·.1) = kv.map (·.1) → Reps K F (kvs.map (·.2)) (kv.map (·.2)) → RKT K F kvs kv
  | [], [], _, _ => .nil
  | [], _ :: _, h, _ => by cases h
  | _ :: _, [], h, _ => by cases h
  | (a, v) :: kvs, (b, d) :: kv, h, r => by
    cases (List.cons.inj h).1
    cases r with
    | cons r1 r2 => exact .cons r1 (rkt_of (List.cons.inj h).2 r2)
theorem rep_keyD {a : V} {ks : TK} (h : Rep K F a (.key ks)) : ∃ b, a = .ref b ∧ F b = some (.tup (ks.map kV)) := by
  cases h with
  | key h => exact ⟨_, rfl, h⟩
theorem reps_keys : ∀ ks : TK, Reps K F (ks.map kV) (ks.map keyD)
  | [] => .nil
  | .inl i :: ks => .cons (.int i) (reps_keys ks)
  | .inr x :: ks => .cons (.str x) (reps_keys ks)
/-- a key is a tuple -/
theorem rep_keyT {a : V} {ks : TK} (h : Rep K F a (.key ks)) : Rep K F a (.tup (ks.map keyD)) := by
  obtain ⟨b, rfl, hb⟩ := rep_keyD h
  exact .tup (.inl (.inl hb)) (reps_keys ks)
theorem keys_of_reps : ∀ {ks : TK} {vs : List V}, Reps K F vs (ks.map keyD) → vs = ks.map kV
  | [], _, h => by cases h; rfl
  | .inl i :: ks, _, h => by
    cases h with
    | cons r t =>
      cases (show Rep K F _ (.int i) from r)
      rw [keys_of_reps t]
      rfl
  | .inr x :: ks, _, h => by
    cases h with
    | cons r t =>
      cases (show Rep K F _ (.str x) from r)
      rw [keys_of_reps t]
      rfl
end
theorem op_notInDict {X : Cx} (hu : X.A.units + 1 < cLine) : OpR X (compareOp .NotIn) (fun x y H Q => ∃ a o, y = .ref a ∧ DGet H a x o ∧ Q (.bl (!o.isSome)) H) := by
  intro pins s σ H x y v u Q I rx ry ⟨a, o, e, g, k⟩
  subst e
  cases (show u = Value.ref a from ry)
  exact d_notIn hu I g rx fun s' I' => ⟨.bl _, H, I', rfl, k⟩
section
variable {X : Cx} {N : En} {W : WX} {n : Nat} {δ : List (Option S)} {μ μ1 μ2 μ3 : List M} {a b e o value iter tg : Expr} {pos apos cpos pos' p : Pos} {d : D} {k : TK} {kv : List (TK × D)} {j : Nat}
/-- it may be written still, or not -/
def isTab (m : M) (kv : List (TK × D)) : Prop := m = .dT kv ∨ ∃ o kvs, m = .fT o kvs kv
theorem tab_at {F : Hp} {A : List Addr} {H : Hp} {ad : Addr} {m : M} (R : Rc N F A H μ) (ha : A[j]? = some ad) (hm : μ[j]? = some m) (ht : isTab m kv) : ∃ kvs, Rd H ad (.dT kvs) ∧ RKT N.K F kvs kv := by
  rcases ht with rfl | ⟨o, kvs, rfl⟩
  · obtain ⟨kvs, h1, h2, h3⟩ := R.mus j ad _ ha hm
    exact ⟨kvs, .inl h1, rkt_of h2 h3⟩
  · obtain ⟨h1, h2, h3⟩ := R.mus j ad _ ha hm
    exact ⟨kvs, .inr ⟨o, h1⟩, rkt_of h2 h3⟩
theorem tabW_at {F : Hp} {A : List Addr} {H : Hp} {ad : Addr} (R : Rc N F A H μ) (ha : A[j]? = some ad) (hm : μ[j]? = some (.dT kv)) : ∃ kvs, H ad = some (.dT kvs) ∧ RKT N.K F kvs kv := by
  obtain ⟨kvs, h1, h2, h3⟩ := R.mus j ad _ ha hm
  exact ⟨kvs, h1, rkt_of h2 h3⟩
theorem dget_t {H : Hp} {ad b : Addr} {kvs : List (TK × V)} (e : Rd H ad (.dT kvs)) (eb : H b = some (.tup (k.map kV))) : DGet H ad (.ref b) (valV kvs k) := .inr ⟨kvs, k, b, e, rfl, eb, rfl⟩
theorem o_notInTab (g : Go X N W n) {m : M} (hm : μ[j]? = some m) (ht : isTab m kv) : OpOk X N W (compareOp .NotIn) μ (.p (.key k)) (.l j) (.v (.p (.bl (!(valT kv k).isSome)))) μ :=
  ⟨_, op_notInDict (by have := g.room.un; omega), fun σ δ F A H x y Q R rx ry q => by
    obtain ⟨b, rfl, hb⟩ := rep_keyD (show Rep N.K F x (.key k) from rx)
    obtain ⟨ad, rfl, had⟩ := ry
    obtain ⟨kvs, h1, h2⟩ := tab_at R.rc had hm ht
    exact ⟨ad, _, rfl, dget_t h1 (R.rc.sub _ _ hb), by rw [h2.some_eq]; exact q.here R (.bl _)⟩⟩
/-- d[k] -/
theorem de_tget (g : Go X N W n) {m : M} (ho : DE X N W δ μ o (.v (.l j)) μ1) (hi : DE X N W δ μ1 e (.v (.p (.key k))) μ2) (hm : μ2[j]? = some m) (ht : isTab m kv) (hv : valT kv k = some d) (hs : NoSl e := by exact fun _ _ => rfl) : DE X N W δ μ (.Subscript o e pos) (.v (.p d)) μ2 :=
  PE.imp (pe_dget (by have := g.room.un; omega) ho hi hs) fun σ H Q ⟨F, A, R0, q⟩ => ⟨F, A, R0, fun x F1 A1 H1 e1 p1 R1 rx => ⟨F1, A1, R1, fun y F2 A2 H2 e2 p2 R2 ry => by
    obtain ⟨ad, rfl, ha⟩ := rx
    obtain ⟨kvs, h1, h2⟩ := tab_at R2.rc (getElem?_pre p2 ha) hm ht
    obtain ⟨b, rfl, hb⟩ := rep_keyD (show Rep N.K F2 y (.key k) from ry)
    rcases h2.val k with ⟨z, _⟩ | ⟨v, d', h3, h4, h5⟩
    · rw [hv] at z; cases z
    · rw [hv] at h3; cases h3
      exact ⟨ad, v, rfl, by have := dget_t (k := k) h1 (R2.rc.sub _ _ hb); rw [h4] at this; exact this, q v F2 A2 H2 (e1.trans e2) (p1.trans p2) R2 h5⟩⟩⟩
/-- d[k] = v -/
theorem ds_tput (g : Go X N W n) (hv : DE X N W δ μ value (.v (.p d)) μ1) (ho : DE X N W δ μ1 o (.v (.l j)) μ2) (hi : DE X N W δ μ2 e (.v (.p (.key k))) μ3) (hm : μ3[j]? = some (.dT kv)) (hl : kv.length < sizeLine)
    (hs : swapsWith value (some (.Subscript o e pos')) pos.line X.env = pure false := by rfl) : DS X N W δ μ (.Assign [.Subscript o e pos'] value pos) (.nx δ (μ3.set j (.dT (putT kv k d)))) :=
  PS.imp (ps_dput (by have := g.room.un; omega) ho hi hv hs) fun K σ H ⟨F, A, R0, q⟩ => ⟨F, A, R0, fun v F1 A1 H1 e1 p1 R1 rv => ⟨F1, A1, R1, fun x F2 A2 H2 e2 p2 R2 rx => ⟨F2, A2, R2, fun y F3 A3 H3 e3 p3 R3 ry => by
    obtain ⟨ad, rfl, had⟩ := rx
    obtain ⟨b, rfl, hb⟩ := rep_keyD (show Rep N.K F3 y (.key k) from ry)
    have rv : Rep N.K F1 v d := rv
    have had3 := getElem?_pre p3 had
    obtain ⟨kvs, h1, h2⟩ := tabW_at R3.rc had3 hm
    have h4 := h2.put (k := k) (rv.mono (e2.trans e3))
    refine ⟨ad, upd H3 ad (.dT (putK kvs k v)), rfl, DPut.t h1 (R3.rc.sub _ _ hb) (by rw [h2.length]; exact hl), ?_⟩
    exact q σ F3 A3 _ ((e1.trans e2).trans e3) ((p1.trans p2).trans p3) (R3.to (Same.refl _) (List.prefix_refl _) (R3.rc.write had3 hm trivial ⟨_, upd_same, h4.keys, h4.reps⟩))⟩⟩⟩
/-- {} -/
theorem de_tabM0 : DE X N W δ μ (.Dict [] [] pos) (.v (.l μ.length)) (μ ++ [.dT []]) :=
  PE.imp pe_dnewT fun σ H Q ⟨F, A, R, q⟩ p np => by
    have pp : A <+: A ++ [p] := List.prefix_append _ _
    exact q (.ref p) F (A ++ [p]) _ (Same.refl _) pp (R.to (Same.refl _) pp (R.rc.newM (m := .dT []) np (o := .dT []) ⟨[], upd_same, rfl, .nil⟩)) ⟨p, rfl, by rw [← R.rc.len]; exact List.getElem?_concat_length ..⟩
/-- a key, taken as a tuple -/
theorem de_key (h : DE X N W δ μ e (.v (.p (.key k))) μ1) : DE X N W δ μ e (.v (.p (.tup (k.map keyD)))) μ1 :=
  PE.imp h fun σ H Q ⟨F, A, R, q⟩ => ⟨F, A, R, fun v F1 A1 H1 e1 p1 R1 rv => q v F1 A1 H1 e1 p1 R1 (rep_keyT (show Rep N.K F1 v (.key k) from rv))⟩
/-- tuple(xs), a key -/
theorem c_tupKey : CallOk X N W (.type "tuple") μ [.p (.lst (k.map keyD))] (.v (.p (.key k))) μ :=
  ⟨_, call_tuple_of, fun σ δ F A H vs Q R rv q => by
    obtain ⟨v, rfl, h⟩ := one_of rv
    obtain ⟨a, ws, rfl, h1, h2⟩ := rep_lst (show Rep N.K F v (.lst (k.map keyD)) from h)
    have e := keys_of_reps h2
    subst e
    refine ⟨a, _, rfl, .inl ⟨SqL.of (R.rc.sub _ _ h1), fun p np => ?_⟩⟩
    have sm := same_updN (o := .tup (k.map kV)) (R.rc.fresh np).2.1
    exact q (.ref p) _ A _ sm (List.prefix_refl _) (R.to sm (List.prefix_refl _) (R.rc.frozen np _)) (.key upd_same)⟩
/-- for k in d, the dict locked -/
theorem dy_forT {body : List Stmt} {f : As} {ix : List Nat} {I : Obj → List (TK × V) → Nat → List (Option S) → List M → Prop} (g : Go X N W n) (hm : μ[j]? = some (.dT kv)) (hi : ∀ o kvs, DE X N W δ (μ.set j (.fT o kvs kv)) iter (.v (.l j)) (μ.set j (.fT o kvs kv))) (hg : DG X N tg f ix) (h0 : ∀ o kvs, I o kvs 0 δ (μ.set j (.fT o kvs kv)))
    (hI : ∀ o kvs i δ' μ', I o kvs i δ' μ' → μ'[j]? = some (.fT o kvs kv))
    (hl : ∀ o kvs i k d, kv[i]? = some (k, d) → ∀ δ' μ', I o kvs i δ' μ' → ∃ δt, f (.key k) δ' = some δt ∧ Dys X N W δt μ' body (fun r => ∃ δ2 μ2, r = .nx δ2 μ2 ∧ I o kvs (i + 1) δ2 μ2)) (hs : ∀ x, foldedSetIterable iter X.env x = pure x := by intro _; rfl) :
    Dy X N W δ μ (.For tg iter body [] pos) (fun r => ∃ o kvs δ' μ', r = .nx δ' (μ'.set j (.dT kv)) ∧ I o kvs kv.length δ' μ') := by
  have hb : PSs X body (fun K σ H => ∃ δt μt O, Dys X N W δt μt body O ∧ tDy N W δt μt O K σ H) := ⟨fun p s σ H K I ⟨δt, μt, O, hd, q⟩ => hd.run p s σ H K I q⟩
  have hc : PE X iter (fun σ H Q => ∃ o kvs, ∃ F A, Rl N F A H σ δ (μ.set j (.fT o kvs kv)) ∧ EndE N W σ δ F A (μ.set j (.fT o kvs kv)) Q (.v (.l j))) := ⟨fun p s σ H Q I ⟨o, kvs, h⟩ => (hi o kvs).run p s σ H Q I h⟩
  refine PS.imp (ps_lock (ps_for g.po g.calm (pi_keys hc) hg hb hs)) fun K σ H ⟨F, A, R, k⟩ => ?_
  obtain ⟨a, ha, mok⟩ := R.rc.at' hm
  obtain ⟨kvs, h1, h2, h3⟩ := mok
  refine ⟨a, _, h1, trivial, fun od => ?_⟩
  have hjl := (List.getElem?_eq_some_iff.mp hm).1
  have hset : (μ.set j (M.fT od kvs kv))[j]? = some (.fT od kvs kv) := List.getElem?_set_self hjl
  have R1 : Rl N F A (upd H a (.frz od (.dT kvs))) σ δ (μ.set j (.fT od kvs kv)) := R.to (Same.refl _) (List.prefix_refl _) (R.rc.write ha hm trivial ⟨upd_same, h2, h3⟩)
  have hlen : kvs.length = kv.length := by have := congrArg List.length h2; simpa using this
  refine ⟨od, kvs, F, A, R1, fun v F1 A1 H1 e1 p1 R2 rv => ?_⟩
  obtain ⟨a', rfl, ha'⟩ := rv
  have ha1 := getElem?_pre p1 ha
  rw [ha1] at ha'
  cases ha'
  obtain ⟨q1, _, _⟩ := R2.rc.mus j a _ ha1 hset
  refine ⟨a, od, rfl, .inr ⟨kvs, q1, ?_⟩⟩
  have wk := walk_keysT (d := a) (o := od) (kvs := kvs)
  refine ⟨fun i m σ' H' => i ≤ kv.length ∧ m = kv.length - i ∧ ∃ F' A' δ' μ', Same F1 F' ∧ A1 <+: A' ∧ Rl N F' A' H' σ' δ' μ' ∧ I od kvs i δ' μ', ⟨kv.length, Nat.zero_le _, by simp, F1, A1, δ, _, Same.refl _, List.prefix_refl _, R2, h0 od kvs⟩, ?_⟩
  rintro i m σ' H' ⟨hi, rfl, F', A', δ', μ', e', p', R', hI'⟩
  have ha2 := getElem?_pre p' ha1
  have hf := hI od kvs i δ' μ' hI'
  obtain ⟨q2, q3, q4⟩ := R'.rc.mus j a _ ha2 hf
  by_cases hlt : i < kv.length
  · refine .inr ⟨wk.goes i H' (by omega) q2, fun σ2 H2 => ∃ F2 A2 δ2 μ2, Same F1 F2 ∧ A1 <+: A2 ∧ Rl N F2 A2 H2 σ2 δ2 μ2 ∧ I od kvs (i + 1) δ2 μ2, fun σ2 H2 ⟨F2, A2, δ2, μ2, a, b, c, d⟩ => ⟨kv.length - (i + 1), by omega, hlt, rfl, F2, A2, δ2, μ2, a, b, c, d⟩, fun x H2 hy => ?_⟩
    obtain ⟨rfl, k', v', q, w1, rfl, w2⟩ := wk.yields i H' x H2 (by omega) q2 hy
    have ek : kv[i]?.map (·.1) = some k' := by
      have := congrArg (fun l => l[i]?) h2
      simp only [List.getElem?_map, w1, Option.map_some] at this
      exact this.symm
    obtain ⟨⟨k2, d⟩, hd, rfl⟩ := Option.map_eq_some_iff.mp ek
    obtain ⟨F2, e2, R3, rx⟩ := R'.item (d := .key k2) (.inr (.inr ⟨k2, q, rfl, rfl, rfl, w2⟩))
    obtain ⟨δt, hft, hbd⟩ := hl od kvs i k2 d hd δ' μ' hI'
    exact ⟨F2, A', δ', μ', .key k2, _, R3, rx, hft, fun σ3 _ R4 => ⟨_, _, _, hbd, F2, A', R4, fun o ⟨δ4, μ4, eo, hI4⟩ => by
      subst eo
      exact fun σ4 F4 A4 H4 e4 p4 R5 => ⟨F4, A4, δ4, μ4, (e'.trans e2).trans e4, p'.trans p4, R5, hI4⟩⟩⟩
  · have e : i = kv.length := by omega
    subst e
    refine .inl ⟨by have w := wk.stops H' q2; rw [hlen] at w; exact w, q2, ?_⟩
    have Rb : Rl N F' A' (upd H' a (.dT kvs)) σ' δ' (μ'.set j (.dT kv)) := R'.to (Same.refl _) (List.prefix_refl _) (R'.rc.write ha2 hf trivial ⟨kvs, upd_same, q3, q4⟩)
    exact (k _ ⟨od, kvs, δ', μ', rfl, hI'⟩) σ' F' A' _ (e1.trans e') (p1.trans p') Rb
end
end Dl
set_option Elab.async false
set_option linter.all false
set_option maxRecDepth 100000
set_option maxHeartbeats 4000000
set_option autoImplicit false
namespace Dl
open PySem PySem.Spec PyProof.Rows L2
/-! ## {k: v}, k a tuple of ints and texts -/
def tDispT (tk tv : TE) : TE := fun σ H Q => ∀ p, H p = none → tPairs [(tk, tv)] σ (upd H p (.dT [])) fun ps H2 => H2 p = some (.dT []) ∧ ∃ (ks : TK) (b : Addr) (y : V), ps = [(.ref b, y)] ∧ H2 b = some (.tup (ks.map kV)) ∧ Q (.ref p) (upd H2 p (.dT [(ks, y)]))
theorem pe_dispT {X : Cx} {pos : Pos} {k v : Expr} {tk tv : TE} (hu : X.A.units + 1 < cLine) (hk : PE X k tk) (hv : PE X v tv) : PE X (.Dict [some k] [v] pos) (tDispT tk tv) := by
  refine ⟨fun pins s σ H Q I q => ?_⟩
  have hn := I.hok.fresh (Nat.le_refl s.heap.objs.size)
  have I1 := I.laid (a := s.heap.objs.size) (o := .dT []) (h' := s.heap.push { cls := .type "dict", data := .dict #[] }) (t' := s.toks) (fun _ _ q => Heap.get?_push_of_some _ q) (Nat.le_refl _) (dt_empty s.heap I.big)
  have hz := zip_pairTrees [some k] [v] X.env pos rfl rfl
  rw [arm_eval_Dict, hz, dictDisplay_pairs _ (by intro e; cases e) (by show 1 < 17; decide)]
  refine wpAny_bind (wpAny_standAt (wpAny_bind (wpAny_subDictH (knd := tupleKind (mixKind X.prog X.w)) (Q := fun d s' => wpAny (model X.prog X.w) X.A (pure (Value.ref d)) _ X.xe s') (show X.A.units < cLine by omega) (by show 1 ≤ 15; decide)
    (thn ((pps_cons hk hv pps_nil).run pins _ σ _ _ I1 (q _ hn)) fun ws s2 ⟨ps, H2, I2, rel, e, ks, b, y, ep, eb, q2⟩ => ?_))))
  subst ep
  cases rel with
  | @cons p1 u1 t1 t2 h t =>
    cases t
    obtain ⟨u, r⟩ := u1
    obtain ⟨ru, rr⟩ := h
    cases (show u = Value.ref b from ru)
    obtain ⟨z, hd, xs, r0, dd⟩ := L2.dt_of I2.hok e
    cases r0
    refine ⟨[(ks, b, r)], ⟨rfl, rfl, key_of I2.hok eb, trivial⟩, dd, fun h' tk' dd' hs => wpAny_pure ?_⟩
    have he : ∃ q, h'.get? s.heap.objs.size = some q := let ⟨q, _, _, hq, _⟩ := dd'; ⟨q, hq⟩
    have ne : b ≠ s.heap.objs.size := fun z => by rw [z, e] at eb; cases eb
    refine ⟨.ref s.heap.objs.size, _, d_write I2 (ob := .dT [(ks, y)]) (by rw [e]; exact True.intro) hs he ?_, rfl, q2⟩
    obtain ⟨o, es, ep, d1, d2, d3, d4, d5, d6⟩ := dd'
    exact ⟨by show 1 ≤ sizeLine; decide, hd, [(ks, b, r)], .cons ⟨rfl, by rw [upd_ne ne]; exact eb, rr⟩ .nil, o, es, ep, d1, d2, d3, d4, d6⟩
section
variable {X : Cx} {N : En} {W : WX} {n : Nat} {δ : List (Option S)} {μ : List M} {a b : Expr} {pos : Pos} {d : D} {k : TK}
theorem de_tabM1 (g : Go X N W n) (hk : DE X N W δ (μ ++ [.dT []]) a (.v (.p (.key k))) (μ ++ [.dT []])) (hv : DE X N W δ (μ ++ [.dT []]) b (.v (.p d)) (μ ++ [.dT []])) : DE X N W δ μ (.Dict [some a] [b] pos) (.v (.l μ.length)) (μ ++ [.dT [(k, d)]]) :=
  PE.imp (pe_dispT (by have := g.room.un; omega) hk hv) fun σ H Q ⟨F, A, R, q⟩ p np => by
    have r1 := R.rc.newM (m := .dT []) np (o := .dT []) ⟨[], upd_same, rfl, .nil⟩
    refine ⟨F, A ++ [p], R.to (Same.refl _) (List.prefix_append _ _) r1, fun x F1 A1 H1 e1 p1 R1 rx => ⟨F1, A1, R1, fun y F2 A2 H2 e2 p2 R2 ry => ?_⟩⟩
    obtain ⟨b2, rfl, hb⟩ := rep_keyD (show Rep N.K F1 x (.key k) from rx)
    have ry : Rep N.K F2 y d := ry
    have lA : A.length = μ.length := R.rc.len
    have e3 : A2 = A ++ [p] := app_one (p1.trans p2) (by rw [R2.rc.len, List.length_append, lA]; rfl)
    subst e3
    have ha : (A ++ [p])[μ.length]? = some p := by rw [← lA, List.getElem?_append_right (Nat.le_refl _), Nat.sub_self]; rfl
    have hm : (μ ++ [M.dT []])[μ.length]? = some (.dT []) := by rw [List.getElem?_append_right (Nat.le_refl _), Nat.sub_self]; rfl
    obtain ⟨k0, h0, h1⟩ := tabW_at R2.rc ha hm
    cases h1
    refine ⟨h0, k, b2, y, rfl, R2.rc.sub _ _ (e2 _ _ hb), ?_⟩
    have r4 := R2.rc.write ha hm trivial (o := .dT [(k, y)]) (m' := .dT [(k, d)]) ⟨[(k, y)], upd_same, rfl, .cons ry .nil⟩
    rw [List.set_append_right _ _ (Nat.le_refl _), Nat.sub_self] at r4
    exact q (.ref p) F2 (A ++ [p]) _ (e1.trans e2) (List.prefix_append _ _) (R.to (e1.trans e2) (List.prefix_append _ _) r4) ⟨p, rfl, ha⟩
/-- (a, b, ..), a key -/
theorem de_tupKey {es : List Expr} {x1} {μ1 : List M} (h : DP X N W δ μ es (k.map keyD) μ1) (hl : k.length ≤ sizeLine) : DE X N W δ μ (.Tuple es x1 pos) (.v (.p (.key k))) μ1 :=
  PE.imp (pe_tup h) fun σ H Q ⟨F, A, R, q⟩ => ⟨F, A, R, fun vs F1 A1 H1 e1 p1 R1 rv => by
    have e := keys_of_reps (reps_of rv)
    subst e
    refine ⟨by rw [List.length_map]; exact hl, fun p np => ?_⟩
    have sm := same_updN (o := .tup (k.map kV)) (R1.rc.fresh np).2.1
    exact q (.ref p) _ A1 _ (e1.trans sm) p1 (R1.to sm (List.prefix_refl _) (R1.rc.frozen np _)) (.key upd_same)⟩
end
end Dl
set_option Elab.async false
set_option linter.all false
set_option maxRecDepth 100000
set_option maxHeartbeats 4000000
set_option autoImplicit false
namespace K58
open PySem PySem.Spec PyProof.Rows L2 Dl Cq
theorem scOneMore : FnScope ["reached", "ahead", "most", "made", "done", "free", "row", "now", "turn"] ["reached", "ahead", "most"] (defScope sOneMore) := ⟨rfl, rfl, rfl, by decide +kernel, rfl, by decide +kernel, by decide +kernel⟩
/-! ### keys that are tuples of numbers -/
def kI (zs : List Nat) : TK := zs.map fun (z : Nat) => (Sum.inl (z : Int) : Key)
theorem kI_D (zs : List Nat) : (kI zs).map keyD = zs.map inD := by unfold kI; rw [List.map_map]; rfl
theorem kI_inj : ∀ {a b : List Nat}, kI a = kI b → a = b
  | [], [], _ => rfl
  | x :: a, y :: b, h => by
    have h1 : (x : Int) = y := Sum.inl.inj (List.cons.inj h).1
    have h2 : a = b := kI_inj (List.cons.inj h).2
    rw [h2, Int.ofNat.inj h1]
  | [], _ :: _, h => by cases h
  | _ :: _, [], h => by cases h
abbrev Rds := List (List Nat × List (List Nat))
def tabD (kv : Rds) : List (TK × D) := kv.map fun p => (kI p.1, .tup (p.2.map nsT))
def hasF (kv : Rds) (k : List Nat) : Bool := kv.any fun p => decide (p.1 = k)
def getF (kv : Rds) (k : List Nat) : List (List Nat) := ((kv.find? fun p => decide (p.1 = k)).map (·.2)).getD []
theorem tab_val (k : List Nat) : ∀ kv : Rds, valT (tabD kv) (kI k) = (kv.find? fun p => decide (p.1 = k)).map fun p => D.tup (p.2.map nsT)
  | [] => rfl
  | (a, v) :: kv => by
    have ih := tab_val k kv
    by_cases h : a = k
    · subst h
      simp [valT, tabD]
    · have h2 : ¬ kI a = kI k := fun e => h (kI_inj e)
      have e1 : valT (tabD ((a, v) :: kv)) (kI k) = valT (tabD kv) (kI k) := by simp [valT, tabD, h2]
      rw [e1, ih]
      simp [h]
theorem has_some (k : List Nat) (kv : Rds) : (valT (tabD kv) (kI k)).isSome = hasF kv k := by
  rw [tab_val, Option.isSome_map]
  unfold hasF
  induction kv with
  | nil => rfl
  | cons p kv ih =>
    rw [List.find?_cons, List.any_cons]
    cases decide (p.1 = k)
    · simpa using ih
    · rfl
theorem tab_any (k : List Nat) : ∀ kv : Rds, ((tabD kv).any fun p => decide (p.1 = kI k)) = hasF kv k
  | [] => rfl
  | (a, v) :: kv => by
    have ih := tab_any k kv
    unfold tabD hasF at *
    rw [List.map_cons, List.any_cons, List.any_cons, ih]
    congr 1
    exact decide_eq_decide.mpr ⟨kI_inj, fun h => by rw [h]⟩
theorem tab_get {kv : Rds} {k : List Nat} (h : hasF kv k = true) : valT (tabD kv) (kI k) = some (.tup ((getF kv k).map nsT)) := by
  have q := has_some k kv
  rw [tab_val] at q ⊢
  unfold getF
  cases e : kv.find? fun p => decide (p.1 = k) with
  | some p => rfl
  | none => rw [e, h] at q; cases q
theorem tab_put {kv : Rds} {k : List Nat} {v : List (List Nat)} (h : hasF kv k = false) : putT (tabD kv) (kI k) (.tup (v.map nsT)) = tabD (kv ++ [(k, v)]) := by
  unfold putT
  rw [tab_any, h, if_neg (by decide)]
  unfold tabD
  rw [List.map_append]
  rfl
theorem tab_len (kv : Rds) : (tabD kv).length = kv.length := by unfold tabD; rw [List.length_map]
theorem get_mem {kv : Rds} {k : List Nat} {Q : List (List Nat) → Prop} (h0 : Q []) (h : ∀ p ∈ kv, Q p.2) : Q (getF kv k) := by
  unfold getF
  cases e : kv.find? fun p => decide (p.1 = k) with
  | none => exact h0
  | some p => exact h p (List.mem_of_find?_eq_some e)
theorem has_mem {kv : Rds} {p : List Nat × List (List Nat)} (h : p ∈ kv) : hasF kv p.1 = true := List.any_eq_true.mpr ⟨p, h, decide_eq_true rfl⟩
/-! ### one layer more -/
def frF (ahead : List (List Nat)) (done : List Nat) : List Nat := (List.range ahead.length).filter fun t => !decide (t ∈ done) && (ahead.getD t []).all fun o => decide (o ∈ done)
def nowF (n : Nat) (done row : List Nat) : List Nat := (List.range n).filter fun t => decide (t ∈ done) || decide (t ∈ row)
def stM (n : Nat) (done : List Nat) (vs : List (List Nat)) (row : List Nat) (made : Rds) : Rds := if hasF made (nowF n done row) = true then made else made ++ [(nowF n done row, vs ++ [row])]
def stO (kv : Rds) (ahead : List (List Nat)) (most : Nat) (made : Rds) (p : List Nat × List (List Nat)) : Rds := (choF (frF ahead p.1) most).foldl (fun made row => stM ahead.length p.1 (getF kv p.1) row made) made
def oneF (kv : Rds) (ahead : List (List Nat)) (most : Nat) : Rds := kv.foldl (stO kv ahead most) []
structure okRd (kv : Rds) (ahead : List (List Nat)) (q : Nat) : Prop where
  a6 : ahead.length ≤ 6
  r6 : ∀ a ∈ ahead, a.length ≤ 6
  len : kv.length ≤ 200
  key : ∀ p ∈ kv, p.1.length ≤ 6
  val : ∀ p ∈ kv, p.2.length ≤ q
def rOneMore : Rel := fun ss μ r μ' => ∃ (j most : Nat) (kv : Rds) (ahead : List (List Nat)), okRd kv ahead 20 ∧ ss = [.l j, .p (.lst (ahead.map nsL)), .p (inD most)] ∧ μ[j]? = some (.dT (tabD kv)) ∧ r = .v (.l μ.length) ∧ μ' = μ ++ [.dT (tabD (oneF kv ahead most))]
theorem cho_len {ts : List Nat} {most : Nat} (h : ts.length ≤ 6) : (choF ts most).length ≤ 64 := by
  refine Nat.le_trans (List.length_filter_le _ _) ?_
  unfold chsF
  rw [chs_len]
  have := Nat.pow_le_pow_right (show 0 < 2 by decide) h
  simpa using this
theorem cho_row {ts : List Nat} {most : Nat} {r : List Nat} (h : r ∈ choF ts most) : r.length ≤ most := by
  have := (List.mem_filter.mp h).2
  rw [Bool.and_eq_true] at this
  exact of_decide_eq_true this.2
theorem fr_len (ahead : List (List Nat)) (done : List Nat) : (frF ahead done).length ≤ ahead.length := Nat.le_trans (List.length_filter_le _ _) (by rw [List.length_range]; exact Nat.le_refl _)
section
variable {X : Cx} {N : En} {W : WX} {nn : Nat} {δ : List (Option S)} {μ μ1 : List M} {e : Expr} {zs : List Nat}
theorem de_keyN (h : DE X N W δ μ e (.v (.p (.key (kI zs)))) μ1) : DE X N W δ μ e (.v (.p (nsT zs))) μ1 := de_of (de_key h) (congrArg D.tup (kI_D zs))
end
section
variable {P : Program} {w : World} {K : PySem.W.Frag} {mg : Str → Option Value} {base : Heap} {f C CC : Addr} {fd : FuncData}
theorem ok_onemore (F : Fun K "_one_layer_more" "_one_layer_more" sOneMore f fd) (T : TM mg) (ca : Cf P w K mg base 1 "_all_done" [] rAllDone) (cc : Cf P w K mg base 1 "_choices" [] rChoices) : FnOk P w K mg base (L2.CX P w) 2 f fd ["reached", "ahead", "most"] (spD K rOneMore) := by
  refine fn_Dy (k := 1) F scOneMore (fun ss μ r μ' h => by obtain ⟨_, _, _, _, _, rfl, _⟩ := h; rfl) ?_
  intro cdv A0 outer s0 H E N W ss μ r μ' g hA hR
  obtain ⟨j, most, kv, ahead, hok, rfl, hj, rfl, rfl⟩ := hR
  have hjl := (List.getElem?_eq_some_iff.mp hj).1
  have hn0 : (μ ++ [M.dT []])[j]? = some (.dT (tabD kv)) := by rw [List.getElem?_append_left hjl]; exact hj
  have h6 := hok.a6
  have hl200 := hok.len
  have el : ((ahead.map nsL).length : Int) = (ahead.length : Nat) := by rw [List.length_map]
  refine dys_one (ds_set 3 de_tabM0 g.nd) (dys_cons (dy_forT (kv := tabD kv) (I := fun o kvs i δ ν => ∃ (made : Rds) (x4 x5 x6 x7 : Option S), made = (kv.take i).foldl (stO kv ahead most) [] ∧ made.length ≤ i * 64 ∧ ν = μ.set j (.fT o kvs (tabD kv)) ++ [.dT (tabD made)] ∧ δ = [some (.l j), some (.p (.lst (ahead.map nsL))), some (.p (inD most)), some (.l μ.length), x4, x5, x6, x7, none]) g hn0 (fun o kvs => de_var 0) (dg_name 4 g.nd) ?h0 ?hI ?hl) ?fin (fun o ⟨_, _, _, _, e, _⟩ hn => by subst e; exact (hn trivial).elim))
  case h0 =>
    intro o kvs
    exact ⟨[], none, none, none, none, rfl, Nat.zero_le _, by rw [List.set_append_left _ _ hjl]; rfl, rfl⟩
  case hI =>
    rintro o kvs i δ' ν ⟨made, x4, x5, x6, x7, _, _, rfl, rfl⟩
    rw [List.getElem?_append_left (by rw [List.length_set]; exact hjl)]
    exact List.getElem?_set_self hjl
  case hl =>
    rintro o kvs i k d hkd δ' ν ⟨made, x4, x5, x6, x7, hmade, hml, rfl, rfl⟩
    obtain ⟨p, hp, e⟩ := Option.map_eq_some_iff.mp (show (kv[i]?).map _ = some (k, d) by rw [← List.getElem?_map]; exact hkd)
    cases e
    have hpm := List.mem_of_getElem? hp
    have hik := (List.getElem?_eq_some_iff.mp hp).1
    have hfr : (frF ahead p.1).length ≤ 6 := Nat.le_trans (fr_len _ _) h6
    have hget : (getF kv p.1).length ≤ 20 := get_mem (Q := fun v => v.length ≤ 20) (by decide) hok.val
    have hkey := hok.key p hpm
    have hfT : ∀ md, (μ.set j (M.fT o kvs (tabD kv)) ++ [M.dT (tabD md)])[j]? = some (.fT o kvs (tabD kv)) := fun md => by
      rw [List.getElem?_append_left (by rw [List.length_set]; exact hjl)]
      exact List.getElem?_set_self hjl
    have hdT : ∀ md, (μ.set j (M.fT o kvs (tabD kv)) ++ [M.dT (tabD md)])[μ.length]? = some (.dT (tabD md)) := fun md => end_at (by rw [List.length_set])
    obtain ⟨δ3, hlo, ⟨y6, y7, rfl⟩, hI⟩ := loop_fo (X := cxOf (L2.CX P w) P w K mg base ["reached", "ahead", "most", "made", "done", "free", "row", "now", "turn"] "_one_layer_more" (defScope sOneMore) f cdv A0 outer s0 H E) (N := N) (W := W) (f := asName 6) (body := match (bodyOf sOneMore 1).getD 1 (.Pass ⟨0, 0, 0, 0⟩) with | .For _ _ b _ _ => b | _ => []) (T := Rds) (mu := fun md => μ.set j (M.fT o kvs (tabD kv)) ++ [M.dT (tabD md)]) (nx := fun row md => stM ahead.length p.1 (getF kv p.1) row md) (gd := nsT)
      (fun k md => md.length + k ≤ i * 64 + 64) (fun md δ => ∃ x6 x7, δ = [some (.l j), some (.p (.lst (ahead.map nsL))), some (.p (inD most)), some (.l μ.length), some (.p (.key (kI p.1))), some (.p (nsL (frF ahead p.1))), x6, x7, none]) (choF (frF ahead p.1) most) [some (.l j), some (.p (.lst (ahead.map nsL))), some (.p (inD most)), some (.l μ.length), some (.p (.key (kI p.1))), some (.p (nsL (frF ahead p.1))), x6, x7, none] made
      (fun row hrow k md δ hδ hI => by
        obtain ⟨x6, x7, rfl⟩ := hδ
        have hrl := cho_row hrow
        have dnow : DS (cxOf (L2.CX P w) P w K mg base ["reached", "ahead", "most", "made", "done", "free", "row", "now", "turn"] "_one_layer_more" (defScope sOneMore) f cdv A0 outer s0 H E) N W [some (.l j), some (.p (.lst (ahead.map nsL))), some (.p (inD most)), some (.l μ.length), some (.p (.key (kI p.1))), some (.p (nsL (frF ahead p.1))), some (.p (nsT row)), x7, none] (μ.set j (M.fT o kvs (tabD kv)) ++ [M.dT (tabD md)]) ((match (bodyOf sOneMore 1).getD 1 (.Pass ⟨0, 0, 0, 0⟩) with | .For _ _ b _ _ => b | _ => []).getD 0 (.Pass ⟨0, 0, 0, 0⟩)) (.nx [some (.l j), some (.p (.lst (ahead.map nsL))), some (.p (inD most)), some (.l μ.length), some (.p (.key (kI p.1))), some (.p (nsL (frF ahead p.1))), some (.p (nsT row)), some (.p (.key (kI (nowF ahead.length p.1 row)))), none] (μ.set j (M.fT o kvs (tabD kv)) ++ [M.dT (tabD md)])) :=
          ds_set 7 (de_callT (T := "tuple") (da_cons (s := .p (.lst ((kI (nowF ahead.length p.1 row)).map keyD))) (de_of (de_lcIf g [("turn", 8)] (di_of (di_range1 (da_cons (de_of (d' := .int (ahead.length : Nat)) (de_callB (id := "len") (da_cons (de_var 1) da_nil) (c_lenL g) T.len (by decide +kernel)) (congrArg D.int el)) da_nil) T.range (by omega)) (by rw [Int.toNat_natCast, rng_in])) (fun s H C cl fp => dg_name 8 g.nd) (of_filt (gd := inD) (fy := inD) (q := fun t => decide (t ∈ p.1) || decide (t ∈ row)) fun t ht => ⟨_, rfl, fun s H C cl fp N' hK g' => dt_w (dw_or (dt_cmp (de_var 8) (de_keyN (de_var 4)) (o_inNT g')) (fun _ => dw_or1 (dt_cmp (de_var 8) (de_var 6) (o_inNT g')))), fun _ s H C cl fp N' hK g' => de_var 8⟩) (ok := blkOk_by (by rfl)) (hds := by rw [List.length_map, List.length_range]; exact sz' (by omega))) (congrArg D.lst (kI_D _).symm)) da_nil) c_tupKey T.tuple (by decide +kernel)) g.nd
        have tst : DT (cxOf (L2.CX P w) P w K mg base ["reached", "ahead", "most", "made", "done", "free", "row", "now", "turn"] "_one_layer_more" (defScope sOneMore) f cdv A0 outer s0 H E) N W [some (.l j), some (.p (.lst (ahead.map nsL))), some (.p (inD most)), some (.l μ.length), some (.p (.key (kI p.1))), some (.p (nsL (frF ahead p.1))), some (.p (nsT row)), some (.p (.key (kI (nowF ahead.length p.1 row)))), none] (μ.set j (M.fT o kvs (tabD kv)) ++ [M.dT (tabD md)]) (ifC ((match (bodyOf sOneMore 1).getD 1 (.Pass ⟨0, 0, 0, 0⟩) with | .For _ _ b _ _ => b | _ => []).getD 1 (.Pass ⟨0, 0, 0, 0⟩))) (!hasF md (nowF ahead.length p.1 row)) (μ.set j (M.fT o kvs (tabD kv)) ++ [M.dT (tabD md)]) :=
          dt_of (dt_cmp (de_var 7) (de_var 3) (o_notInTab g (hdT md) (.inl rfl))) (by rw [has_some])
        cases hb : hasF md (nowF ahead.length p.1 row) with
        | true =>
          have e : stM ahead.length p.1 (getF kv p.1) row md = md := by unfold stM; rw [if_pos hb]
          refine ⟨by rw [e]; omega, _, _, rfl, dss_cons dnow (cn (dss_skip (dt_of tst (by rw [hb]; rfl)) (by rw [e]; exact dss_nil))), _, _, rfl⟩
        | false =>
          have e : stM ahead.length p.1 (getF kv p.1) row md = md ++ [(nowF ahead.length p.1 row, getF kv p.1 ++ [row])] := by unfold stM; rw [if_neg (by rw [hb]; decide)]
          have e2 : (getF kv p.1).map nsT ++ [nsT row] = (getF kv p.1 ++ [row]).map nsT := by rw [List.map_append]; rfl
          refine ⟨by rw [e, List.length_append]; simp; omega, _, _, rfl, dss_cons dnow (cn (dss_cons (ds_if (k := true) (dt_of tst (by rw [hb]; rfl)) (fun _ => dss_cons (ds_to (ds_tput g (d := .tup ((getF kv p.1 ++ [row]).map nsT)) (de_of (de_tup (dp_starT (de_tget g (de_var 0) (de_var 4) (hfT md) (.inr ⟨_, _, rfl⟩) (tab_get (has_mem hpm))) (dp_cons (de_var 6) dp_nil) g.hK) ?hz) (congrArg D.tup e2)) (de_var 3) (de_var 7) (hdT md) ?hz2) ?hset) (cn dss_nil)) (fun h => nomatch h)) (cn dss_nil))), _, _, rfl⟩
          case hz => rw [e2, List.length_map, List.length_append]; exact sz (by simp; omega)
          case hz2 => rw [tab_len]; exact sz' (by omega)
          case hset => rw [tab_put hb, e, end_set (by rw [List.length_set])]) ⟨_, _, rfl⟩ (by have := cho_len (most := most) hfr; omega)
    refine ⟨_, rfl, dys_one (ds_setLcIf 5 g [("turn", 8)] (di_of (di_range1 (da_cons (de_of (d' := .int (ahead.length : Nat)) (de_callB (id := "len") (da_cons (de_var 1) da_nil) (c_lenL g) T.len (by decide +kernel)) (congrArg D.int el)) da_nil) T.range (by omega)) (by rw [Int.toNat_natCast, rng_in])) (fun s H C cl fp => dg_name 8 g.nd) (of_filt (gd := inD) (fy := inD) (q := fun t => !decide (t ∈ p.1) && (ahead.getD t []).all fun o => decide (o ∈ p.1)) fun t ht => ⟨_, rfl, fun s H C cl fp N' hK g' => dt_w (dw_and (dt_cmp (de_var 8) (de_keyN (de_var 4)) (o_notInNT g')) (fun _ => dw_and1 (dt_val (de_call g' ca (da_cons (s := .p (nsL (ahead.getD t []))) (de_ix (de_var 1) (de_var 8) (i_lst g' (at_getD (List.mem_range.mp ht)))) (da_cons (de_keyN (de_var 4)) da_nil)) ⟨ahead.getD t [], p.1, ?ha, by omega, rfl, rfl, rfl⟩)))), fun _ s H C cl fp N' hK g' => de_var 8⟩) (ok := blkOk_by (by rfl)) (hds := by rw [List.length_map, List.length_range]; exact sz' (by omega))) (dys_of (dss_cons (ds_for g (di_lst g (de_call g cc (da_cons (de_var 5) (da_cons (de_var 2) da_nil)) ⟨frF ahead p.1, most, hfr, rfl, rfl, rfl⟩)) (dg_name 6 g.nd) hlo) (cn dss_nil)) ⟨_, _, rfl, _, _, _, _, _, ?hm, ?hl2, rfl, rfl⟩)⟩
    case ha =>
      have hlt := List.mem_range.mp ht
      rw [List.getD_eq_getElem?_getD, List.getElem?_eq_getElem hlt]
      have := hok.r6 _ (List.getElem_mem hlt)
      show (ahead[t]).length ≤ 100
      omega
    case hm =>
      rw [take_snoc hp, List.foldl_append, ← hmade]
      rfl
    case hl2 =>
      have hI : _ + 0 ≤ i * 64 + 64 := hI
      rw [Nat.succ_mul]
      omega
  case fin =>
    intro δ1 μ1 hO
    obtain ⟨o, kvs, δ3, ν3, e3, made, x4, x5, x6, x7, hmade, hml, rfl, rfl⟩ := hO
    cases e3
    rw [tab_len, List.take_length] at hmade
    have hs : (μ.set j (M.fT o kvs (tabD kv)) ++ [M.dT (tabD made)]).set j (.dT (tabD kv)) = μ ++ [.dT (tabD (oneF kv ahead most))] := by
      rw [List.set_append_left _ _ (by rw [List.length_set]; exact hjl), List.set_set, set_self hj, hmade]
      rfl
    rw [hs]
    exact dys_of (dss_ret (de_var 3)) .rt
end
end K58
set_option Elab.async false
set_option linter.all false
set_option maxRecDepth 100000
set_option maxHeartbeats 4000000
set_option autoImplicit false
namespace K58
open PySem PySem.Spec PyProof.Rows L2 Dl Cq
theorem scPacked : FnScope ["circuit", "most", "ahead", "everything", "reached"] ["circuit", "most"] (defScope sPacked) := ⟨rfl, rfl, rfl, by decide +kernel, rfl, by decide +kernel, by decide +kernel⟩
section
variable {X : Cx} {N : En} {W : WX} {n : Nat} {δ : List (Option S)} {μ μ1 : List M} {a : Expr} {p pos : Pos}
theorem rg_key (i : Nat) : rgV 0 (i : Nat) = (kI (List.range i)).map kV := by
  unfold rgV kI
  rw [Int.sub_zero, Int.toNat_natCast, List.map_map]
  exact List.map_congr_left fun j _ => by simp [kV]
theorem de_tupRgK {i : Nat} {p2 pos2 : Pos} (g : Go X N W n) (ha : DE X N W δ μ a (.v (.p (.int (i : Nat)))) μ1) (hm : X.mg "tuple" = none) (hm2 : X.mg "range" = none) (hi : i ≤ 16777216) (hg : Gl X "tuple" := by rfl) (hg2 : Gl X "range" := by rfl)
    (hs : starEach [a] X.env = (false, eval a X.env) :: starEach [] X.env := by rfl) (hs2 : starEach [.Call (.Name "range" p2) [a] [] pos2] X.env = (false, eval (.Call (.Name "range" p2) [a] [] pos2) X.env) :: starEach [] X.env := by rfl) :
    DE X N W δ μ (.Call (.Name "tuple" p) [.Call (.Name "range" p2) [a] [] pos2] [] pos) (.v (.p (.key (kI (List.range i))))) μ1 :=
  PE.imp (pe_tupRg g.calm hg hm (prg_1 hg2 hm2 ha hs) hs2) fun σ H Q ⟨F, A, R0, k⟩ => ⟨F, A, R0, fun x F1 A1 H1 e1 p1 R1 rx => by
    have ex : x = .int (i : Nat) := rs_int rx
    subst ex
    refine ⟨i, rfl, RgOk.of_le (by omega) (by omega) (by omega) (by omega), fun q nq => ?_⟩
    have sm := same_updN (o := .tup (rgV 0 (i : Nat))) (R1.rc.fresh nq).2.1
    refine k (.ref q) _ A1 _ (e1.trans sm) p1 (R1.to sm (List.prefix_refl _) (R1.rc.frozen nq _)) (.key ?_)
    rw [← rg_key]
    exact upd_same⟩
end
/-! ### packed layers -/
def okRdB (kv : Rds) (ahead : List (List Nat)) : Bool := decide (ahead.length ≤ 6) && (ahead.all fun a => decide (a.length ≤ 6)) && decide (kv.length ≤ 200) && (kv.all fun p => decide (p.1.length ≤ 6) && decide (p.2.length ≤ 20))
theorem okRdB_ok {kv : Rds} {ahead : List (List Nat)} (h : okRdB kv ahead = true) : okRd kv ahead 20 := by
  unfold okRdB at h
  simp only [Bool.and_eq_true, decide_eq_true_eq, List.all_eq_true] at h
  exact ⟨h.1.1.1, h.1.1.2, h.1.2, fun p hp => (h.2 p hp).1, fun p hp => (h.2 p hp).2⟩
def pkF (ahead : List (List Nat)) (most : Nat) : Nat → Rds → Option (List (List Nat))
  | 0, kv => if hasF kv (List.range ahead.length) = true ∧ okRdB kv ahead = true then some (getF kv (List.range ahead.length)) else none
  | m + 1, kv => if okRdB kv ahead = true then (if hasF kv (List.range ahead.length) = true then some (getF kv (List.range ahead.length)) else pkF ahead most m (oneF kv ahead most)) else none
def rPacked (CC : Addr) : Rel := fun ss μ r μ' => ∃ (n most m : Nat) (ls : List Ln) (out : List (List Nat)), okC n ls ∧ 1 ≤ most ∧ most ≤ 6 ∧ pkF (ahF (wsF ls)) most m [([], [])] = some out ∧ ss = [.p (circD CC n ls), .p (inD most)] ∧ r = .v (.p (.tup [.int (out.length : Nat), .tup (out.map nsT)])) ∧ μ' = μ
section
variable {P : Program} {w : World} {K : PySem.W.Frag} {mg : Str → Option Value} {base : Heap} {f C CC : Addr} {fd : FuncData}
theorem ok_packed (F : Fun K "packed" "packed" sPacked f fd) (T : TM mg) (cn_ : Cf P w K mg base 2 "_need_number" [] rNeedNum) (ca : Cf P w K mg base 8 "_all_ahead" [] (rAhead CC)) (co : Cf P w K mg base 2 "_one_layer_more" [] rOneMore) : FnOk P w K mg base (L2.CX P w) 9 f fd ["circuit", "most"] (spD K (rPacked CC)) := by
  refine fn_D (k := 8) F scPacked (fun ss μ r μ' h => by obtain ⟨_, _, _, _, _, _, _, _, _, rfl, _⟩ := h; rfl) ?_
  intro cdv A0 outer s0 H E N W ss μ r μ' g hA hR
  obtain ⟨n, most, m, ls, out, hok, h1, h6, hpk, rfl, rfl, rfl⟩ := hR
  obtain ⟨a6, ar6⟩ := ah_ok hok
  obtain ⟨ahead, hah⟩ : ∃ a, ahF (wsF ls) = a := ⟨_, rfl⟩
  rw [hah] at hpk a6 ar6
  have el : ((ahead.map nsL).length : Int) = (ahead.length : Nat) := by rw [List.length_map]
  have tst : ∀ (ν : List M) (kv : Rds) (k : Nat), ν[k]? = some (.dT (tabD kv)) → DT (cxOf (L2.CX P w) P w K mg base ["circuit", "most", "ahead", "everything", "reached"] "packed" (defScope sPacked) f cdv A0 outer s0 H E) N W [some (.p (circD CC n ls)), some (.p (inD most)), some (.p (.lst (ahead.map nsL))), some (.p (.key (kI (List.range ahead.length)))), some (.l k)] ν (whC sPacked 4) (!hasF kv (List.range ahead.length)) ν := fun ν kv k hk =>
    dt_of (dt_cmp (de_var 3) (de_var 4) (o_notInTab g hk (.inl rfl))) (by rw [has_some])
  have lp : ∀ (m : Nat) (kv : Rds) (ν : List M) (k : Nat), ν[k]? = some (.dT (tabD kv)) → pkF ahead most m kv = some out → ∃ (ν' : List M) (k' : Nat) (kv' : Rds), (∃ t, ν' = ν ++ t) ∧ ν'[k']? = some (.dT (tabD kv')) ∧ hasF kv' (List.range ahead.length) = true ∧ getF kv' (List.range ahead.length) = out ∧ out.length ≤ 20 ∧ Wl (cxOf (L2.CX P w) P w K mg base ["circuit", "most", "ahead", "everything", "reached"] "packed" (defScope sPacked) f cdv A0 outer s0 H E) N W (whC sPacked 4) (whB sPacked 4) m [some (.p (circD CC n ls)), some (.p (inD most)), some (.p (.lst (ahead.map nsL))), some (.p (.key (kI (List.range ahead.length)))), some (.l k)] ν (.nx [some (.p (circD CC n ls)), some (.p (inD most)), some (.p (.lst (ahead.map nsL))), some (.p (.key (kI (List.range ahead.length)))), some (.l k')] ν') := by
    intro m
    induction m with
    | zero =>
      intro kv ν k hk h
      unfold pkF at h
      split at h
      · rename_i hc
        have hv := (okRdB_ok hc.2).val
        cases h
        exact ⟨ν, k, kv, ⟨[], (List.append_nil _).symm⟩, hk, hc.1, rfl, get_mem (Q := fun v => v.length ≤ 20) (by decide) hv, .stop (dt_of (tst ν kv k hk) (by rw [hc.1]; rfl))⟩
      · cases h
    | succ m ih =>
      intro kv ν k hk h
      unfold pkF at h
      split at h
      · rename_i hokd
        have hv := okRdB_ok hokd
        split at h
        · rename_i hc
          cases h
          exact ⟨ν, k, kv, ⟨[], (List.append_nil _).symm⟩, hk, hc, rfl, get_mem (Q := fun v => v.length ≤ 20) (by decide) hv.val, .stop (dt_of (tst ν kv k hk) (by rw [hc]; rfl))⟩
        · rename_i hc
          have hc : hasF kv (List.range ahead.length) = false := by cases e : hasF kv (List.range ahead.length) with | true => exact (hc e).elim | false => rfl
          obtain ⟨ν', k', kv', ⟨t, rfl⟩, q1, q2, q3, q4, hw⟩ := ih (oneF kv ahead most) (ν ++ [.dT (tabD (oneF kv ahead most))]) ν.length (end_at rfl) h
          refine ⟨_, k', kv', ⟨_, List.append_assoc ..⟩, q1, q2, q3, q4, .turn (dt_of (tst ν kv k hk) (by rw [hc]; rfl)) (dss_cons (ds_set 4 (de_call g co (da_cons (de_var 4) (da_cons (de_var 2) (da_cons (de_var 1) da_nil))) ⟨k, most, kv, ahead, hv, rfl, hk, rfl, rfl⟩) g.nd) (cn dss_nil)) hw⟩
      · cases h
  obtain ⟨ν', k', kv', ⟨t, rfl⟩, q1, q2, q3, q4, hw⟩ := lp m [([], [])] (μ' ++ [.dT (tabD [([], [])])]) μ'.length (end_at rfl) hpk
  have hg := tab_get q2
  rw [q3] at hg
  refine ⟨_, dss_cons (ds_expr (de_call g cn_ (da_cons (de_var 1) da_nil) ⟨most, h1, h6, rfl, rfl, rfl⟩)) (cn (dss_cons (ds_set 2 (de_of (d' := .lst (ahead.map nsL)) (de_call g ca (da_cons (de_var 0) da_nil) ⟨n, ls, hok, rfl, rfl, rfl⟩) (by rw [hah])) g.nd) (cn
    (dss_cons (ds_set 3 (de_tupRgK g (de_of (d' := .int (ahead.length : Nat)) (de_callB (id := "len") (da_cons (de_var 2) da_nil) (c_lenL g) T.len (by decide +kernel)) (congrArg D.int el)) T.tuple T.range (by omega)) g.nd) (cn
    (dss_cons (ds_set 4 (de_tabM1 (k := []) (d := .tup []) g (de_tupKey dp_nil (by decide)) (de_tup dp_nil)) g.nd) (cn
    (dss_cons (ds_while g hw) (cn (dss_ret (de_tup (dp_cons (de_of (d' := .int (out.length : Nat)) (de_callB (id := "len") (da_cons (de_tget g (de_var 4) (de_var 3) q1 (.inl rfl) hg) da_nil) (c_lenT g) T.len (by decide +kernel)) (by rw [List.length_map])) (dp_cons (de_tget g (de_var 4) (de_var 3) q1 (.inl rfl) hg) dp_nil))))))))))))), ?_⟩
  have e : (μ' ++ [M.dT (tabD [([], [])])] ++ t).take μ'.length = μ' := by rw [List.append_assoc]; exact List.take_left ..
  conv => rhs; rw [← e]
  exact .rtT (Nat.le_refl _)
end
end K58
set_option Elab.async false
set_option linter.all false
set_option maxRecDepth 100000
set_option maxHeartbeats 4000000
set_option autoImplicit false
namespace Cq
open PySem PySem.Spec PyProof.Rows L2 Dl
/-! ## good circuits, looked at by machine -/
def okWdB (n : Nat) (s : Int) (L : List Nat) : Bool := decide (1 ≤ L.length ∧ L.length ≤ 4) && (L.all (fun c => decide (c ∈ IXYZ)) && ((decide (s = 1) || decide (s = -1)) && (decide (L.length = n) && !decide (L = List.replicate n 73))))
theorem okWd_ofB {n : Nat} {s : Int} {L : List Nat} (h : okWdB n s L = true) : okWd n s L := by
  unfold okWdB at h
  simp only [Bool.and_eq_true, decide_eq_true_eq, List.all_eq_true, Bool.or_eq_true, Bool.not_eq_true', decide_eq_false_iff_not] at h
  obtain ⟨⟨a1, a4⟩, b, c, d, e⟩ := h
  exact ⟨⟨a1, a4, b⟩, c, d, e⟩
def okNmB (k : List Nat) : Bool := decide (1 ≤ k.length ∧ k.length ≤ 8) && k.all fun c => decide (97 ≤ c ∧ c ≤ 122)
theorem okNm_ofB {k : List Nat} (h : okNmB k = true) : okNm k := by
  unfold okNmB at h
  simp only [Bool.and_eq_true, decide_eq_true_eq, List.all_eq_true] at h
  exact ⟨h.1.1, h.1.2, h.2⟩
def okLnB (n : Nat) : Ln → Bool
  | .ab _ s L => okWdB n s L
  | .h a => decide (a < n)
  | .pr k a b => decide (k < 3 ∧ a < n ∧ b < n ∧ a ≠ b)
  | .tn s L ps => okWdB n s L && (decide (1 ≤ ps.length ∧ ps.length ≤ 3) && (decide ((ps.map (·.1)).Nodup) && ps.all fun p => okNmB p.1 && decide (p.2 ∈ manys)))
theorem okLn_ofB {n : Nat} : ∀ {l : Ln}, okLnB n l = true → okLn n l
  | .ab q s L, h => okWd_ofB h
  | .h a, h => (show a < n from of_decide_eq_true (show decide (a < n) = true from h))
  | .pr k a b, h => (show k < 3 ∧ a < n ∧ b < n ∧ a ≠ b from of_decide_eq_true (show decide (k < 3 ∧ a < n ∧ b < n ∧ a ≠ b) = true from h))
  | .tn s L ps, h => by
    unfold okLnB at h
    simp only [Bool.and_eq_true, decide_eq_true_eq, List.all_eq_true] at h
    obtain ⟨a, ⟨b1, b2⟩, c, d⟩ := h
    exact ⟨okWd_ofB a, b1, b2, c, fun p hp => ⟨okNm_ofB (d p hp).1, (d p hp).2⟩⟩
def okCB (n : Nat) (ls : List Ln) : Bool := decide (1 ≤ n ∧ n ≤ 4) && (ls.all (okLnB n) && (decide (ls.length ≤ 40) && decide ((ls.filter isT).length ≤ 6)))
theorem okC_ofB {n : Nat} {ls : List Ln} (h : okCB n ls = true) : okC n ls := by
  unfold okCB at h
  simp only [Bool.and_eq_true, decide_eq_true_eq, List.all_eq_true] at h
  obtain ⟨⟨a1, a4⟩, b, c, d⟩ := h
  exact ⟨a1, a4, fun l hl => okLn_ofB (b l hl), c, d⟩
/-! ## texts of lines parted by a stroke -/
def tx47 (ls : List Ln) : List Nat := TL.joinL [47] (ls.map lt)
theorem chars_up {n : Nat} {l : Ln} (hw : n ≤ 4) (h : okLn n l) : 47 ∉ lt l := by
  have no : ∀ p ∈ lw l, 47 ∉ p := by
    have sg : ∀ (s : Int) (L : List Nat), okL L → 47 ∉ sgL L s := fun s L hL hc => by
      unfold sgL at hc
      have hn : 47 ∉ L := fun z => by have := hL.all 47 z; revert this; decide
      split at hc
      · rcases List.mem_cons.mp hc with z | z
        · cases z
        · exact hn z
      · exact hn hc
    cases l with
    | ab q s L =>
      intro p hp
      rcases List.mem_cons.mp (show p ∈ [if q then wQuarter else wFlip, sgL L s] from hp) with rfl | hp
      · cases q <;> decide
      · rw [List.mem_singleton.mp hp]; exact sg s L h.okL
    | h a =>
      intro p hp
      rcases List.mem_cons.mp (show p ∈ [[104], [48 + a]] from hp) with rfl | hp
      · decide
      · rw [List.mem_singleton.mp hp]; simp; omega
    | pr k a b =>
      intro p hp
      rcases List.mem_cons.mp (show p ∈ [pn k, [48 + a], [48 + b]] from hp) with rfl | hp
      · unfold pn; split
        · decide
        · split <;> decide
      · rcases List.mem_cons.mp hp with rfl | hp
        · simp; omega
        · rw [List.mem_singleton.mp hp]; simp; omega
    | tn s L ps =>
      intro p hp
      rcases List.mem_cons.mp (show p ∈ wTurn :: sgL L s :: wBy :: _ from hp) with rfl | hp
      · decide
      rcases List.mem_cons.mp hp with rfl | hp
      · exact sg s L h.1.okL
      rcases List.mem_cons.mp hp with rfl | hp
      · decide
      obtain ⟨x, hx, hp⟩ := List.mem_flatMap.mp hp
      rcases List.mem_cons.mp hp with rfl | hp
      · unfold mt; split
        · simp; omega
        · simp; omega
      · rw [List.mem_singleton.mp hp]
        intro z
        have := (h.2.2.2.2 x hx).1.az 47 z
        omega
  intro hc
  rcases mem_joinL hc with z | ⟨p, hp, z⟩
  · revert z; decide
  · exact no p hp z
theorem split_47 {n : Nat} {ls : List Ln} (h : okC n ls) (hn : ls ≠ []) : (Txt.split (st (tx47 ls)) (Str.ofString "/")).map D.str = ls.map fun l => D.str (st (lt l)) := by
  have e : Txt.split (st (tx47 ls)) (Str.ofString "/") = (TL.spl [47] 0 [] (tx47 ls)).map st := SX.split_S (b := [47]) (by simp) (by decide)
  have e2 : TL.spl [47] 0 [] (tx47 ls) = ls.map lt := TL.spl_join (by simpa using hn) fun p hp hc => by
    obtain ⟨l, hl, rfl⟩ := List.mem_map.mp hp
    exact chars_up h.w4 (h.ok l hl) hc
  rw [e, e2, List.map_map, List.map_map]
  rfl
theorem tx47_len {n : Nat} {ls : List Ln} (h : okC n ls) : (tx47 ls).length ≤ 3500 := by
  have := joinL_len (S := [47]) (m := 81) (ps := ls.map lt) fun p hp => by
    obtain ⟨l, hl, rfl⟩ := List.mem_map.mp hp
    exact lt_len (h.ok l hl)
  have e : (ls.map lt).length * (81 + ([47] : List Nat).length) ≤ 40 * 82 := Nat.mul_le_mul (by have := h.len; simp; omega) (Nat.le_refl _)
  unfold tx47
  omega
theorem joinL_ne {S : List Nat} {p : List Nat} {ps : List (List Nat)} (h : p ≠ []) : TL.joinL S (p :: ps) ≠ [] := by
  cases ps with
  | nil => exact h
  | cons q r => exact fun e => h (List.append_eq_nil_iff.mp e).1
theorem tx47_ne {n : Nat} {ls : List Ln} (h : okC n ls) : tx47 ls = [] ↔ ls = [] := by
  cases ls with
  | nil => exact ⟨fun _ => rfl, fun _ => rfl⟩
  | cons l ls =>
    have : lt l ≠ [] := by cases l <;> first | exact (joinL_ne (by decide)) | skip
                           all_goals first | (rename_i q _ _; cases q <;> exact joinL_ne (by decide)) | (rename_i k _ _; exact joinL_ne (by unfold pn; split; decide; split <;> decide))
    exact ⟨fun e => (joinL_ne this e).elim, fun e => by cases e⟩
end Cq
set_option Elab.async false
set_option linter.all false
set_option maxRecDepth 100000
set_option maxHeartbeats 4000000
set_option autoImplicit false
namespace Dl
open PySem PySem.Spec PyProof.Rows L2
/-! ## data of ints, texts, tuples, lists, beside itself -/
mutual
def toPy : D → PyData
  | .bl b => .bool b
  | .int i => .int i
  | .str x => .str x
  | .tup ds => .tuple (toPys ds)
  | .lst ds => .list (toPys ds)
  | _ => .none
def toPys : List D → List PyData
  | [] => []
  | d :: ds => toPy d :: toPys ds
end
mutual
def simD : D → Bool
  | .non => true
  | .bl _ => true
  | .int _ => true
  | .str _ => true
  | .tup ds => simDs ds
  | .lst ds => simDs ds
  | _ => false
def simDs : List D → Bool
  | [] => true
  | d :: ds => simD d && simDs ds
end
mutual
theorem pyD_of : ∀ {d : D}, simD d = true → PyD d (toPy d)
  | .non, _ => by simp only [toPy]; exact .non
  | .bl b, _ => by rw [toPy]; exact .bl b
  | .int i, _ => by rw [toPy]; exact .int i
  | .str x, _ => by rw [toPy]; exact .str x
  | .tup ds, h => by rw [toPy]; exact .tup (pyDs_of (by rw [simD] at h; exact h))
  | .lst ds, h => by rw [toPy]; exact .lst (pyDs_of (by rw [simD] at h; exact h))
  | .ty n, h => by simp [simD] at h
  | .adr n, h => by simp [simD] at h
  | .dic a b, h => by simp [simD] at h
  | .ins a b c, h => by simp [simD] at h
  | .exc a b, h => by simp [simD] at h
  | .sc a, h => by simp [simD] at h
  | .key a, h => by simp [simD] at h
theorem pyDs_of : ∀ {ds : List D}, simDs ds = true → PyDs ds (toPys ds)
  | [], _ => by rw [toPys]; exact .nil
  | d :: ds, h => by
    rw [simDs, Bool.and_eq_true] at h
    rw [toPys]
    exact .cons (pyD_of h.1) (pyDs_of h.2)
end
/-- it can be laid beside itself -/
def goD (d : D) : Bool := simD d && SeqAt.shaped (toPy d)
theorem toPys_map : ∀ ds : List D, toPys ds = ds.map toPy
  | [] => by rw [toPys]; rfl
  | d :: ds => by rw [toPys, toPys_map ds]; rfl
section
variable {X : Cx} {N : En} {W : WX} {n : Nat} {μ : List M} {d e : D}
theorem eqv_self (h : goD d = true) : PyData.eqv (toPy d) (toPy d) = true := by
  unfold goD SeqAt.shaped at h
  simp only [Bool.and_eq_true] at h
  exact SeqAt.eqv_refl _ h.2.1
theorem o_eqSelf (g : Go X N W n) (h : goD d = true) : OpOk X N W (compareOp .Eq) μ (.p d) (.p d) (.v (.p (.bl true))) μ := by
  have h2 := h
  unfold goD at h2
  rw [Bool.and_eq_true] at h2
  exact o_eqD g (pyD_of h2.1) (pyD_of h2.1) h2.2 h2.2 (eqv_self h)
theorem o_neSelf (g : Go X N W n) (h : goD d = true) : OpOk X N W (compareOp .NotEq) μ (.p d) (.p d) (.v (.p (.bl false))) μ := by
  have h2 := h
  unfold goD at h2
  rw [Bool.and_eq_true] at h2
  exact o_neD g (pyD_of h2.1) (pyD_of h2.1) h2.2 h2.2 (by rw [eqv_self h]; rfl)
/-! ### in a tuple of data -/
theorem op_notInDT (hu : X.A.units + 65 < cLine) : OpR X (compareOp .NotIn) (fun x y H Q => ∃ d ds, Dp X.K H x d ∧ Dp X.K H y (.tuple ds) ∧ SeqAt.shaped d = true ∧ SeqAt.shaped (.tuple ds) = true ∧ Q (.bl (!ds.any fun z => PyData.eqv z d)) H) := by
  intro pins s σ H x y v u Q I rx ry h
  obtain ⟨d, ds, hd, he, sd, se, q⟩ := h
  obtain ⟨as, r1⟩ := Dp.reads I d x v hd rx
  obtain ⟨bs, r2⟩ := Dp.reads I (.tuple ds) y u he ry
  exact SeqAt.notIn_tuple_reads r2 r1 (SeqAt.canLay_of_shaped se) (SeqAt.canLay_of_shaped sd) (room_in_shaped sd hu) ⟨.bl _, H, I, rfl, q⟩
def inDs (d : D) (ds : List D) : Bool := ds.any fun z => PyData.eqv (toPy z) (toPy d)
theorem any_py (ds : List D) : ((toPys ds).any fun z => PyData.eqv z (toPy d)) = inDs d ds := by rw [toPys_map, List.any_map]; rfl
theorem o_notInDT (g : Go X N W n) {ds : List D} {q : Bool} (h1 : goD d = true) (h2 : goD (.tup ds) = true) (hq : inDs d ds = q) : OpOk X N W (compareOp .NotIn) μ (.p d) (.p (.tup ds)) (.v (.p (.bl (!q)))) μ := by
  unfold goD at h1 h2
  rw [Bool.and_eq_true] at h1 h2
  rw [toPy] at h2
  have e := any_py (d := d) ds
  exact ⟨_, op_notInDT (by have := g.room.un; omega), fun σ δ F A H x y Q R rx ry k => ⟨toPy d, toPys ds, by rw [← g.hK]; exact (pyD_of h1.1).dp R.rc.sub rx, by rw [← g.hK]; exact (PyD.tup (pyDs_of (by have := h2.1; rw [simD] at this; exact this))).dp R.rc.sub ry, h1.2, h2.2, by rw [e, hq]; exact k.here R (.bl _)⟩⟩
end
end Dl
set_option Elab.async false
set_option linter.all false
set_option maxRecDepth 100000
set_option maxHeartbeats 4000000
set_option autoImplicit false
namespace K58
open PySem PySem.Spec PyProof.Rows L2 Dl Cq
theorem scLRows : FnScope ["k", "m", "a", "b", "three", "found"] ["k", "m"] (defScope sLRows) := ⟨rfl, rfl, rfl, by decide +kernel, rfl, by decide +kernel, by decide +kernel⟩
theorem scLMade : FnScope ["text"] ["text"] (defScope sLMade) := ⟨rfl, rfl, rfl, by decide +kernel, rfl, by decide +kernel, by decide +kernel⟩
section
variable {X : Cx} {N : En} {W : WX} {nn : Nat} {δ : List (Option S)} {μ μ1 μ2 : List M} {a b : Expr} {pos : Pos} {A B : List Nat}
theorem de_strL (L : List Nat) {x : Str} {j} (h : x = st L := by rfl) : DE X N W δ μ (.Constant (.str x) j pos) (.v (.p (.str (st L)))) μ := by subst h; exact de_str
theorem de_catS (ha : DE X N W δ μ a (.v (.p (.str (st A)))) μ1) (hb : DE X N W δ μ1 b (.v (.p (.str (st B)))) μ2) (hl : A.length + B.length ≤ 100000) : DE X N W δ μ (.BinOp a .Add b pos) (.v (.p (.str (st (A ++ B))))) μ2 :=
  de_of (de_bin ha hb (o_addS (by rw [st_len, st_len]; exact sz hl))) (congrArg D.str (st_app A B))
end
/-! ### the rows -/
def pA (k : List Nat) : List Nat := [32, 98, 121, 32, 49, 32] ++ k
def threeD (k m : List Nat) : D := .tup [.tup [.str (st [88, 73]), .tup [.tup [.str (st k), .int 1]]], .tup [.str (st [90, 90]), .tup [.tup [.str (st m), .int 1]]], .tup [.str (st [88, 73]), .tup [.tup [.str (st k), .int 1]]]]
abbrev RowL := List Ln × List Pr
def row0 (k m : List Nat) : RowL := ([.tn 1 [88, 73] [(k, 1)], .tn 1 [90, 90] [(m, 1)], .tn 1 [88, 73] [(k, 1)]], [([88, 73], [(st k, 1)]), ([90, 90], [(st m, 1)]), ([88, 73], [(st k, 1)])])
def row1 (k m : List Nat) : RowL := ([.tn 1 [88, 73] [(k, 1)], .tn 1 [73, 88] [(m, 1)], .tn 1 [88, 73] [(k, 1)]], [([73, 88], [(st m, 1)]), ([88, 73], [(st k, 2)])])
def row2 (k m : List Nat) : RowL := ([.tn 1 [88, 73] [(k, 1)], .tn (-1) [88, 73] [(k, 1)]], [])
def row3 (k m : List Nat) : RowL := ([.tn 1 [88, 73] [(k, 1)], .tn (-1) [88, 73] [(m, 1)]], [([88, 73], [(st k, 1), (st m, (-1))])])
def row4 (k m : List Nat) : RowL := ([.tn 1 [88, 73] [(k, 1)], .tn 1 [90, 73] [(m, 1)], .tn (-1) [90, 73] [(m, 1)], .tn 1 [88, 73] [(k, 1)]], [([88, 73], [(st k, 2)])])
def row5 (k m : List Nat) : RowL := ([.tn 1 [90, 90] [(k, 1)], .tn 1 [88, 88] [(m, 1)]], [([88, 88], [(st m, 1)]), ([90, 90], [(st k, 1)])])
def row6 (k m : List Nat) : RowL := ([.tn 1 [90, 73] [(k, 1)], .tn 1 [88, 73] [(m, 1)]], [([90, 73], [(st k, 1)]), ([88, 73], [(st m, 1)])])
def row7 (k m : List Nat) : RowL := ([.h 0, .tn 1 [90, 73] [(k, 1)]], [([88, 73], [(st k, 1)])])
def row8 (k m : List Nat) : RowL := ([.ab true 1 [90, 73], .tn 1 [88, 73] [(k, 1)]], [([89, 73], [(st k, (-1))])])
def row9 (k m : List Nat) : RowL := ([.pr 1 0 1, .tn 1 [73, 90] [(k, 1)], .pr 1 0 1, .tn 1 [90, 90] [(k, 1)]], [([90, 90], [(st k, 2)])])
def row10 (k m : List Nat) : RowL := ([.ab false 1 [88, 73], .tn 1 [90, 73] [(k, 1)], .tn 1 [73, 90] [(k, 1)]], [([73, 90], [(st k, 1)]), ([90, 73], [(st k, (-1))])])
def row11 (k m : List Nat) : RowL := ([], [])
def row12 (k m : List Nat) : RowL := ([.h 0, .pr 1 0 1], [])
def rowsK (k m : List Nat) : List RowL := [row0 k m, row1 k m, row2 k m, row3 k m, row4 k m, row5 k m, row6 k m, row7 k m, row8 k m, row9 k m, row10 k m, row11 k m, row12 k m]
def rwD (r : RowL) : D := .tup [.str (st (tx47 r.1)), .tup (r.2.map prD)]
theorem rwD_of {T : List Nat} {X : D} {r : RowL} (h1 : T = tx47 r.1) (h2 : X = .tup (r.2.map prD)) : D.tup [.str (st T), X] = rwD r := by subst h1 h2; rfl
def rLRows : Rel := fun ss μ r μ' => ∃ (k m : List Nat), k.length ≤ 8 ∧ m.length ≤ 8 ∧ ss = [.p (.str (st k)), .p (.str (st m))] ∧ r = .v (.p (.lst ((rowsK k m).map rwD))) ∧ μ' = μ
theorem tx_row0 (k m : List Nat) : ((((([116, 117, 114, 110, 32, 88, 73] ++ (pA k)) ++ [47, 116, 117, 114, 110, 32, 90, 90]) ++ (pA m)) ++ [47, 116, 117, 114, 110, 32, 88, 73]) ++ (pA k)) = tx47 (row0 k m).1 := by simp [row0, tx47, pA, TL.joinL, lt, lw, sgL, Cq.mt, wTurn, wBy, wFlip, wQuarter, pn]
theorem tx_row1 (k m : List Nat) : ((((([116, 117, 114, 110, 32, 88, 73] ++ (pA k)) ++ [47, 116, 117, 114, 110, 32, 73, 88]) ++ (pA m)) ++ [47, 116, 117, 114, 110, 32, 88, 73]) ++ (pA k)) = tx47 (row1 k m).1 := by simp [row1, tx47, pA, TL.joinL, lt, lw, sgL, Cq.mt, wTurn, wBy, wFlip, wQuarter, pn]
theorem tx_row2 (k m : List Nat) : ((([116, 117, 114, 110, 32, 88, 73] ++ (pA k)) ++ [47, 116, 117, 114, 110, 32, 45, 88, 73]) ++ (pA k)) = tx47 (row2 k m).1 := by simp [row2, tx47, pA, TL.joinL, lt, lw, sgL, Cq.mt, wTurn, wBy, wFlip, wQuarter, pn]
theorem tx_row3 (k m : List Nat) : ((([116, 117, 114, 110, 32, 88, 73] ++ (pA k)) ++ [47, 116, 117, 114, 110, 32, 45, 88, 73]) ++ (pA m)) = tx47 (row3 k m).1 := by simp [row3, tx47, pA, TL.joinL, lt, lw, sgL, Cq.mt, wTurn, wBy, wFlip, wQuarter, pn]
theorem tx_row4 (k m : List Nat) : ((((((([116, 117, 114, 110, 32, 88, 73] ++ (pA k)) ++ [47, 116, 117, 114, 110, 32, 90, 73]) ++ (pA m)) ++ [47, 116, 117, 114, 110, 32, 45, 90, 73]) ++ (pA m)) ++ [47, 116, 117, 114, 110, 32, 88, 73]) ++ (pA k)) = tx47 (row4 k m).1 := by simp [row4, tx47, pA, TL.joinL, lt, lw, sgL, Cq.mt, wTurn, wBy, wFlip, wQuarter, pn]
theorem tx_row5 (k m : List Nat) : ((([116, 117, 114, 110, 32, 90, 90] ++ (pA k)) ++ [47, 116, 117, 114, 110, 32, 88, 88]) ++ (pA m)) = tx47 (row5 k m).1 := by simp [row5, tx47, pA, TL.joinL, lt, lw, sgL, Cq.mt, wTurn, wBy, wFlip, wQuarter, pn]
theorem tx_row6 (k m : List Nat) : ((([116, 117, 114, 110, 32, 90, 73] ++ (pA k)) ++ [47, 116, 117, 114, 110, 32, 88, 73]) ++ (pA m)) = tx47 (row6 k m).1 := by simp [row6, tx47, pA, TL.joinL, lt, lw, sgL, Cq.mt, wTurn, wBy, wFlip, wQuarter, pn]
theorem tx_row7 (k m : List Nat) : ([104, 32, 48, 47, 116, 117, 114, 110, 32, 90, 73] ++ (pA k)) = tx47 (row7 k m).1 := by simp [row7, tx47, pA, TL.joinL, lt, lw, sgL, Cq.mt, wTurn, wBy, wFlip, wQuarter, pn]
theorem tx_row8 (k m : List Nat) : ([113, 117, 97, 114, 116, 101, 114, 32, 90, 73, 47, 116, 117, 114, 110, 32, 88, 73] ++ (pA k)) = tx47 (row8 k m).1 := by simp [row8, tx47, pA, TL.joinL, lt, lw, sgL, Cq.mt, wTurn, wBy, wFlip, wQuarter, pn]
theorem tx_row9 (k m : List Nat) : ((([99, 120, 32, 48, 32, 49, 47, 116, 117, 114, 110, 32, 73, 90] ++ (pA k)) ++ [47, 99, 120, 32, 48, 32, 49, 47, 116, 117, 114, 110, 32, 90, 90]) ++ (pA k)) = tx47 (row9 k m).1 := by simp [row9, tx47, pA, TL.joinL, lt, lw, sgL, Cq.mt, wTurn, wBy, wFlip, wQuarter, pn]
theorem tx_row10 (k m : List Nat) : ((([102, 108, 105, 112, 32, 88, 73, 47, 116, 117, 114, 110, 32, 90, 73] ++ (pA k)) ++ [47, 116, 117, 114, 110, 32, 73, 90]) ++ (pA k)) = tx47 (row10 k m).1 := by simp [row10, tx47, pA, TL.joinL, lt, lw, sgL, Cq.mt, wTurn, wBy, wFlip, wQuarter, pn]
theorem tx_row11 (k m : List Nat) : [] = tx47 (row11 k m).1 := by simp [row11, tx47, pA, TL.joinL, lt, lw, sgL, Cq.mt, wTurn, wBy, wFlip, wQuarter, pn]
theorem tx_row12 (k m : List Nat) : [104, 32, 48, 47, 99, 120, 32, 48, 32, 49] = tx47 (row12 k m).1 := by simp [row12, tx47, pA, TL.joinL, lt, lw, sgL, Cq.mt, wTurn, wBy, wFlip, wQuarter, pn]
section
variable {P : Program} {w : World} {K : PySem.W.Frag} {mg : Str → Option Value} {base : Heap} {f C CC : Addr} {fd : FuncData}
theorem ok_lrows (F : Fun K "_law_rows" "_law_rows" sLRows f fd) : FnOk P w K mg base (L2.CX P w) 1 f fd ["k", "m"] (spD K rLRows) := by
  refine fn_D (k := 0) F scLRows (fun ss μ r μ' h => by obtain ⟨_, _, _, _, rfl, _⟩ := h; rfl) ?_
  intro cdv A0 outer s0 H E N W ss μ r μ' g hA hR
  obtain ⟨k, m, hk, hm, rfl, rfl, rfl⟩ := hR
  refine ⟨_, dss_cons (ds_par 2 3 g (da_cons (s := .p (.str (st (pA k)))) (de_catS (A := [32, 98, 121, 32, 49, 32]) (B := k) (de_strL [32, 98, 121, 32, 49, 32]) (de_var 0) (by simp only [pA, List.length_append, List.length_cons, List.length_nil]; omega)) (da_cons (s := .p (.str (st (pA m)))) (de_catS (A := [32, 98, 121, 32, 49, 32]) (B := m) (de_strL [32, 98, 121, 32, 49, 32]) (de_var 1) (by simp only [pA, List.length_append, List.length_cons, List.length_nil]; omega)) da_nil))) (cn
    (dss_cons (ds_set 4 (de_of (d' := threeD k m) (de_tup (ds := [.tup [.str (st [88, 73]), .tup [.tup [.str (st k), .int 1]]], .tup [.str (st [90, 90]), .tup [.tup [.str (st m), .int 1]]], .tup [.str (st [88, 73]), .tup [.tup [.str (st k), .int 1]]]]) (dp_cons (de_tup (ds := [.str (st [88, 73]), .tup [.tup [.str (st k), .int 1]]]) (dp_cons (de_strL [88, 73]) (dp_cons (de_tup (ds := [.tup [.str (st k), .int 1]]) (dp_cons (de_tup (ds := [.str (st k), .int 1]) (dp_cons (de_var 0) (dp_cons (de_int (i := 1)) dp_nil))) dp_nil)) dp_nil))) (dp_cons (de_tup (ds := [.str (st [90, 90]), .tup [.tup [.str (st m), .int 1]]]) (dp_cons (de_strL [90, 90]) (dp_cons (de_tup (ds := [.tup [.str (st m), .int 1]]) (dp_cons (de_tup (ds := [.str (st m), .int 1]) (dp_cons (de_var 1) (dp_cons (de_int (i := 1)) dp_nil))) dp_nil)) dp_nil))) (dp_cons (de_tup (ds := [.str (st [88, 73]), .tup [.tup [.str (st k), .int 1]]]) (dp_cons (de_strL [88, 73]) (dp_cons (de_tup (ds := [.tup [.str (st k), .int 1]]) (dp_cons (de_tup (ds := [.str (st k), .int 1]) (dp_cons (de_var 0) (dp_cons (de_int (i := 1)) dp_nil))) dp_nil)) dp_nil))) dp_nil)))) rfl) g.nd) (cn
    (dss_cons (ds_set 5 (de_lstM (dp_cons (de_of (d' := rwD (row0 k m)) (de_tup (ds := [.str (st ((((([116, 117, 114, 110, 32, 88, 73] ++ (pA k)) ++ [47, 116, 117, 114, 110, 32, 90, 90]) ++ (pA m)) ++ [47, 116, 117, 114, 110, 32, 88, 73]) ++ (pA k))), (threeD k m)]) (dp_cons (de_catS (A := (((([116, 117, 114, 110, 32, 88, 73] ++ (pA k)) ++ [47, 116, 117, 114, 110, 32, 90, 90]) ++ (pA m)) ++ [47, 116, 117, 114, 110, 32, 88, 73])) (B := (pA k)) (de_catS (A := ((([116, 117, 114, 110, 32, 88, 73] ++ (pA k)) ++ [47, 116, 117, 114, 110, 32, 90, 90]) ++ (pA m))) (B := [47, 116, 117, 114, 110, 32, 88, 73]) (de_catS (A := (([116, 117, 114, 110, 32, 88, 73] ++ (pA k)) ++ [47, 116, 117, 114, 110, 32, 90, 90])) (B := (pA m)) (de_catS (A := ([116, 117, 114, 110, 32, 88, 73] ++ (pA k))) (B := [47, 116, 117, 114, 110, 32, 90, 90]) (de_catS (A := [116, 117, 114, 110, 32, 88, 73]) (B := (pA k)) (de_strL [116, 117, 114, 110, 32, 88, 73]) (de_var 2) (by simp only [pA, List.length_append, List.length_cons, List.length_nil]; omega)) (de_strL [47, 116, 117, 114, 110, 32, 90, 90]) (by simp only [pA, List.length_append, List.length_cons, List.length_nil]; omega)) (de_var 3) (by simp only [pA, List.length_append, List.length_cons, List.length_nil]; omega)) (de_strL [47, 116, 117, 114, 110, 32, 88, 73]) (by simp only [pA, List.length_append, List.length_cons, List.length_nil]; omega)) (de_var 2) (by simp only [pA, List.length_append, List.length_cons, List.length_nil]; omega)) (dp_cons (de_var 4) dp_nil))) (rwD_of (tx_row0 k m) rfl)) dp_nil)) g.nd) (cn
    (dss_cons (ds_to (ds_expr (de_bm PySem.F.plainAttrs_list PySem.F.slot_list_append PySem.F.type_list_append (de_var 5) (da_cons (de_of (d' := rwD (row1 k m)) (de_tup (ds := [.str (st ((((([116, 117, 114, 110, 32, 88, 73] ++ (pA k)) ++ [47, 116, 117, 114, 110, 32, 73, 88]) ++ (pA m)) ++ [47, 116, 117, 114, 110, 32, 88, 73]) ++ (pA k))), .tup [.tup [.str (st [73, 88]), .tup [.tup [.str (st m), .int 1]]], .tup [.str (st [88, 73]), .tup [.tup [.str (st k), .int 2]]]]]) (dp_cons (de_catS (A := (((([116, 117, 114, 110, 32, 88, 73] ++ (pA k)) ++ [47, 116, 117, 114, 110, 32, 73, 88]) ++ (pA m)) ++ [47, 116, 117, 114, 110, 32, 88, 73])) (B := (pA k)) (de_catS (A := ((([116, 117, 114, 110, 32, 88, 73] ++ (pA k)) ++ [47, 116, 117, 114, 110, 32, 73, 88]) ++ (pA m))) (B := [47, 116, 117, 114, 110, 32, 88, 73]) (de_catS (A := (([116, 117, 114, 110, 32, 88, 73] ++ (pA k)) ++ [47, 116, 117, 114, 110, 32, 73, 88])) (B := (pA m)) (de_catS (A := ([116, 117, 114, 110, 32, 88, 73] ++ (pA k))) (B := [47, 116, 117, 114, 110, 32, 73, 88]) (de_catS (A := [116, 117, 114, 110, 32, 88, 73]) (B := (pA k)) (de_strL [116, 117, 114, 110, 32, 88, 73]) (de_var 2) (by simp only [pA, List.length_append, List.length_cons, List.length_nil]; omega)) (de_strL [47, 116, 117, 114, 110, 32, 73, 88]) (by simp only [pA, List.length_append, List.length_cons, List.length_nil]; omega)) (de_var 3) (by simp only [pA, List.length_append, List.length_cons, List.length_nil]; omega)) (de_strL [47, 116, 117, 114, 110, 32, 88, 73]) (by simp only [pA, List.length_append, List.length_cons, List.length_nil]; omega)) (de_var 2) (by simp only [pA, List.length_append, List.length_cons, List.length_nil]; omega)) (dp_cons (de_tup (ds := [.tup [.str (st [73, 88]), .tup [.tup [.str (st m), .int 1]]], .tup [.str (st [88, 73]), .tup [.tup [.str (st k), .int 2]]]]) (dp_cons (de_tup (ds := [.str (st [73, 88]), .tup [.tup [.str (st m), .int 1]]]) (dp_cons (de_strL [73, 88]) (dp_cons (de_tup (ds := [.tup [.str (st m), .int 1]]) (dp_cons (de_tup (ds := [.str (st m), .int 1]) (dp_cons (de_var 1) (dp_cons (de_int (i := 1)) dp_nil))) dp_nil)) dp_nil))) (dp_cons (de_tup (ds := [.str (st [88, 73]), .tup [.tup [.str (st k), .int 2]]]) (dp_cons (de_strL [88, 73]) (dp_cons (de_tup (ds := [.tup [.str (st k), .int 2]]) (dp_cons (de_tup (ds := [.str (st k), .int 2]) (dp_cons (de_var 0) (dp_cons (de_int (i := 2)) dp_nil))) dp_nil)) dp_nil))) dp_nil))) dp_nil))) (rwD_of (tx_row1 k m) rfl)) da_nil) (m_append (end_at rfl) (end_at rfl) (sz' (by show 1 ≤ 100000; decide))))) (end_set rfl)) (cn
    (dss_cons (ds_to (ds_expr (de_bm PySem.F.plainAttrs_list PySem.F.slot_list_append PySem.F.type_list_append (de_var 5) (da_cons (de_of (d' := rwD (row2 k m)) (de_tup (ds := [.str (st ((([116, 117, 114, 110, 32, 88, 73] ++ (pA k)) ++ [47, 116, 117, 114, 110, 32, 45, 88, 73]) ++ (pA k))), .tup []]) (dp_cons (de_catS (A := (([116, 117, 114, 110, 32, 88, 73] ++ (pA k)) ++ [47, 116, 117, 114, 110, 32, 45, 88, 73])) (B := (pA k)) (de_catS (A := ([116, 117, 114, 110, 32, 88, 73] ++ (pA k))) (B := [47, 116, 117, 114, 110, 32, 45, 88, 73]) (de_catS (A := [116, 117, 114, 110, 32, 88, 73]) (B := (pA k)) (de_strL [116, 117, 114, 110, 32, 88, 73]) (de_var 2) (by simp only [pA, List.length_append, List.length_cons, List.length_nil]; omega)) (de_strL [47, 116, 117, 114, 110, 32, 45, 88, 73]) (by simp only [pA, List.length_append, List.length_cons, List.length_nil]; omega)) (de_var 2) (by simp only [pA, List.length_append, List.length_cons, List.length_nil]; omega)) (dp_cons (de_tup (ds := []) dp_nil) dp_nil))) (rwD_of (tx_row2 k m) rfl)) da_nil) (m_append (end_at rfl) (end_at rfl) (sz' (by show 2 ≤ 100000; decide))))) (end_set rfl)) (cn
    (dss_cons (ds_to (ds_expr (de_bm PySem.F.plainAttrs_list PySem.F.slot_list_append PySem.F.type_list_append (de_var 5) (da_cons (de_of (d' := rwD (row3 k m)) (de_tup (ds := [.str (st ((([116, 117, 114, 110, 32, 88, 73] ++ (pA k)) ++ [47, 116, 117, 114, 110, 32, 45, 88, 73]) ++ (pA m))), .tup [.tup [.str (st [88, 73]), .tup [.tup [.str (st k), .int 1], .tup [.str (st m), .int (-1)]]]]]) (dp_cons (de_catS (A := (([116, 117, 114, 110, 32, 88, 73] ++ (pA k)) ++ [47, 116, 117, 114, 110, 32, 45, 88, 73])) (B := (pA m)) (de_catS (A := ([116, 117, 114, 110, 32, 88, 73] ++ (pA k))) (B := [47, 116, 117, 114, 110, 32, 45, 88, 73]) (de_catS (A := [116, 117, 114, 110, 32, 88, 73]) (B := (pA k)) (de_strL [116, 117, 114, 110, 32, 88, 73]) (de_var 2) (by simp only [pA, List.length_append, List.length_cons, List.length_nil]; omega)) (de_strL [47, 116, 117, 114, 110, 32, 45, 88, 73]) (by simp only [pA, List.length_append, List.length_cons, List.length_nil]; omega)) (de_var 3) (by simp only [pA, List.length_append, List.length_cons, List.length_nil]; omega)) (dp_cons (de_tup (ds := [.tup [.str (st [88, 73]), .tup [.tup [.str (st k), .int 1], .tup [.str (st m), .int (-1)]]]]) (dp_cons (de_tup (ds := [.str (st [88, 73]), .tup [.tup [.str (st k), .int 1], .tup [.str (st m), .int (-1)]]]) (dp_cons (de_strL [88, 73]) (dp_cons (de_tup (ds := [.tup [.str (st k), .int 1], .tup [.str (st m), .int (-1)]]) (dp_cons (de_tup (ds := [.str (st k), .int 1]) (dp_cons (de_var 0) (dp_cons (de_int (i := 1)) dp_nil))) (dp_cons (de_tup (ds := [.str (st m), .int (-1)]) (dp_cons (de_var 1) (dp_cons (de_un (de_int (i := 1)) u_neg) dp_nil))) dp_nil))) dp_nil))) dp_nil)) dp_nil))) (rwD_of (tx_row3 k m) rfl)) da_nil) (m_append (end_at rfl) (end_at rfl) (sz' (by show 3 ≤ 100000; decide))))) (end_set rfl)) (cn
    (dss_cons (ds_to (ds_expr (de_bm PySem.F.plainAttrs_list PySem.F.slot_list_append PySem.F.type_list_append (de_var 5) (da_cons (de_of (d' := rwD (row4 k m)) (de_tup (ds := [.str (st ((((((([116, 117, 114, 110, 32, 88, 73] ++ (pA k)) ++ [47, 116, 117, 114, 110, 32, 90, 73]) ++ (pA m)) ++ [47, 116, 117, 114, 110, 32, 45, 90, 73]) ++ (pA m)) ++ [47, 116, 117, 114, 110, 32, 88, 73]) ++ (pA k))), .tup [.tup [.str (st [88, 73]), .tup [.tup [.str (st k), .int 2]]]]]) (dp_cons (de_catS (A := (((((([116, 117, 114, 110, 32, 88, 73] ++ (pA k)) ++ [47, 116, 117, 114, 110, 32, 90, 73]) ++ (pA m)) ++ [47, 116, 117, 114, 110, 32, 45, 90, 73]) ++ (pA m)) ++ [47, 116, 117, 114, 110, 32, 88, 73])) (B := (pA k)) (de_catS (A := ((((([116, 117, 114, 110, 32, 88, 73] ++ (pA k)) ++ [47, 116, 117, 114, 110, 32, 90, 73]) ++ (pA m)) ++ [47, 116, 117, 114, 110, 32, 45, 90, 73]) ++ (pA m))) (B := [47, 116, 117, 114, 110, 32, 88, 73]) (de_catS (A := (((([116, 117, 114, 110, 32, 88, 73] ++ (pA k)) ++ [47, 116, 117, 114, 110, 32, 90, 73]) ++ (pA m)) ++ [47, 116, 117, 114, 110, 32, 45, 90, 73])) (B := (pA m)) (de_catS (A := ((([116, 117, 114, 110, 32, 88, 73] ++ (pA k)) ++ [47, 116, 117, 114, 110, 32, 90, 73]) ++ (pA m))) (B := [47, 116, 117, 114, 110, 32, 45, 90, 73]) (de_catS (A := (([116, 117, 114, 110, 32, 88, 73] ++ (pA k)) ++ [47, 116, 117, 114, 110, 32, 90, 73])) (B := (pA m)) (de_catS (A := ([116, 117, 114, 110, 32, 88, 73] ++ (pA k))) (B := [47, 116, 117, 114, 110, 32, 90, 73]) (de_catS (A := [116, 117, 114, 110, 32, 88, 73]) (B := (pA k)) (de_strL [116, 117, 114, 110, 32, 88, 73]) (de_var 2) (by simp only [pA, List.length_append, List.length_cons, List.length_nil]; omega)) (de_strL [47, 116, 117, 114, 110, 32, 90, 73]) (by simp only [pA, List.length_append, List.length_cons, List.length_nil]; omega)) (de_var 3) (by simp only [pA, List.length_append, List.length_cons, List.length_nil]; omega)) (de_strL [47, 116, 117, 114, 110, 32, 45, 90, 73]) (by simp only [pA, List.length_append, List.length_cons, List.length_nil]; omega)) (de_var 3) (by simp only [pA, List.length_append, List.length_cons, List.length_nil]; omega)) (de_strL [47, 116, 117, 114, 110, 32, 88, 73]) (by simp only [pA, List.length_append, List.length_cons, List.length_nil]; omega)) (de_var 2) (by simp only [pA, List.length_append, List.length_cons, List.length_nil]; omega)) (dp_cons (de_tup (ds := [.tup [.str (st [88, 73]), .tup [.tup [.str (st k), .int 2]]]]) (dp_cons (de_tup (ds := [.str (st [88, 73]), .tup [.tup [.str (st k), .int 2]]]) (dp_cons (de_strL [88, 73]) (dp_cons (de_tup (ds := [.tup [.str (st k), .int 2]]) (dp_cons (de_tup (ds := [.str (st k), .int 2]) (dp_cons (de_var 0) (dp_cons (de_int (i := 2)) dp_nil))) dp_nil)) dp_nil))) dp_nil)) dp_nil))) (rwD_of (tx_row4 k m) rfl)) da_nil) (m_append (end_at rfl) (end_at rfl) (sz' (by show 4 ≤ 100000; decide))))) (end_set rfl)) (cn
    (dss_cons (ds_to (ds_expr (de_bm PySem.F.plainAttrs_list PySem.F.slot_list_append PySem.F.type_list_append (de_var 5) (da_cons (de_of (d' := rwD (row5 k m)) (de_tup (ds := [.str (st ((([116, 117, 114, 110, 32, 90, 90] ++ (pA k)) ++ [47, 116, 117, 114, 110, 32, 88, 88]) ++ (pA m))), .tup [.tup [.str (st [88, 88]), .tup [.tup [.str (st m), .int 1]]], .tup [.str (st [90, 90]), .tup [.tup [.str (st k), .int 1]]]]]) (dp_cons (de_catS (A := (([116, 117, 114, 110, 32, 90, 90] ++ (pA k)) ++ [47, 116, 117, 114, 110, 32, 88, 88])) (B := (pA m)) (de_catS (A := ([116, 117, 114, 110, 32, 90, 90] ++ (pA k))) (B := [47, 116, 117, 114, 110, 32, 88, 88]) (de_catS (A := [116, 117, 114, 110, 32, 90, 90]) (B := (pA k)) (de_strL [116, 117, 114, 110, 32, 90, 90]) (de_var 2) (by simp only [pA, List.length_append, List.length_cons, List.length_nil]; omega)) (de_strL [47, 116, 117, 114, 110, 32, 88, 88]) (by simp only [pA, List.length_append, List.length_cons, List.length_nil]; omega)) (de_var 3) (by simp only [pA, List.length_append, List.length_cons, List.length_nil]; omega)) (dp_cons (de_tup (ds := [.tup [.str (st [88, 88]), .tup [.tup [.str (st m), .int 1]]], .tup [.str (st [90, 90]), .tup [.tup [.str (st k), .int 1]]]]) (dp_cons (de_tup (ds := [.str (st [88, 88]), .tup [.tup [.str (st m), .int 1]]]) (dp_cons (de_strL [88, 88]) (dp_cons (de_tup (ds := [.tup [.str (st m), .int 1]]) (dp_cons (de_tup (ds := [.str (st m), .int 1]) (dp_cons (de_var 1) (dp_cons (de_int (i := 1)) dp_nil))) dp_nil)) dp_nil))) (dp_cons (de_tup (ds := [.str (st [90, 90]), .tup [.tup [.str (st k), .int 1]]]) (dp_cons (de_strL [90, 90]) (dp_cons (de_tup (ds := [.tup [.str (st k), .int 1]]) (dp_cons (de_tup (ds := [.str (st k), .int 1]) (dp_cons (de_var 0) (dp_cons (de_int (i := 1)) dp_nil))) dp_nil)) dp_nil))) dp_nil))) dp_nil))) (rwD_of (tx_row5 k m) rfl)) da_nil) (m_append (end_at rfl) (end_at rfl) (sz' (by show 5 ≤ 100000; decide))))) (end_set rfl)) (cn
    (dss_cons (ds_to (ds_expr (de_bm PySem.F.plainAttrs_list PySem.F.slot_list_append PySem.F.type_list_append (de_var 5) (da_cons (de_of (d' := rwD (row6 k m)) (de_tup (ds := [.str (st ((([116, 117, 114, 110, 32, 90, 73] ++ (pA k)) ++ [47, 116, 117, 114, 110, 32, 88, 73]) ++ (pA m))), .tup [.tup [.str (st [90, 73]), .tup [.tup [.str (st k), .int 1]]], .tup [.str (st [88, 73]), .tup [.tup [.str (st m), .int 1]]]]]) (dp_cons (de_catS (A := (([116, 117, 114, 110, 32, 90, 73] ++ (pA k)) ++ [47, 116, 117, 114, 110, 32, 88, 73])) (B := (pA m)) (de_catS (A := ([116, 117, 114, 110, 32, 90, 73] ++ (pA k))) (B := [47, 116, 117, 114, 110, 32, 88, 73]) (de_catS (A := [116, 117, 114, 110, 32, 90, 73]) (B := (pA k)) (de_strL [116, 117, 114, 110, 32, 90, 73]) (de_var 2) (by simp only [pA, List.length_append, List.length_cons, List.length_nil]; omega)) (de_strL [47, 116, 117, 114, 110, 32, 88, 73]) (by simp only [pA, List.length_append, List.length_cons, List.length_nil]; omega)) (de_var 3) (by simp only [pA, List.length_append, List.length_cons, List.length_nil]; omega)) (dp_cons (de_tup (ds := [.tup [.str (st [90, 73]), .tup [.tup [.str (st k), .int 1]]], .tup [.str (st [88, 73]), .tup [.tup [.str (st m), .int 1]]]]) (dp_cons (de_tup (ds := [.str (st [90, 73]), .tup [.tup [.str (st k), .int 1]]]) (dp_cons (de_strL [90, 73]) (dp_cons (de_tup (ds := [.tup [.str (st k), .int 1]]) (dp_cons (de_tup (ds := [.str (st k), .int 1]) (dp_cons (de_var 0) (dp_cons (de_int (i := 1)) dp_nil))) dp_nil)) dp_nil))) (dp_cons (de_tup (ds := [.str (st [88, 73]), .tup [.tup [.str (st m), .int 1]]]) (dp_cons (de_strL [88, 73]) (dp_cons (de_tup (ds := [.tup [.str (st m), .int 1]]) (dp_cons (de_tup (ds := [.str (st m), .int 1]) (dp_cons (de_var 1) (dp_cons (de_int (i := 1)) dp_nil))) dp_nil)) dp_nil))) dp_nil))) dp_nil))) (rwD_of (tx_row6 k m) rfl)) da_nil) (m_append (end_at rfl) (end_at rfl) (sz' (by show 6 ≤ 100000; decide))))) (end_set rfl)) (cn
    (dss_cons (ds_to (ds_expr (de_bm PySem.F.plainAttrs_list PySem.F.slot_list_append PySem.F.type_list_append (de_var 5) (da_cons (de_of (d' := rwD (row7 k m)) (de_tup (ds := [.str (st ([104, 32, 48, 47, 116, 117, 114, 110, 32, 90, 73] ++ (pA k))), .tup [.tup [.str (st [88, 73]), .tup [.tup [.str (st k), .int 1]]]]]) (dp_cons (de_catS (A := [104, 32, 48, 47, 116, 117, 114, 110, 32, 90, 73]) (B := (pA k)) (de_strL [104, 32, 48, 47, 116, 117, 114, 110, 32, 90, 73]) (de_var 2) (by simp only [pA, List.length_append, List.length_cons, List.length_nil]; omega)) (dp_cons (de_tup (ds := [.tup [.str (st [88, 73]), .tup [.tup [.str (st k), .int 1]]]]) (dp_cons (de_tup (ds := [.str (st [88, 73]), .tup [.tup [.str (st k), .int 1]]]) (dp_cons (de_strL [88, 73]) (dp_cons (de_tup (ds := [.tup [.str (st k), .int 1]]) (dp_cons (de_tup (ds := [.str (st k), .int 1]) (dp_cons (de_var 0) (dp_cons (de_int (i := 1)) dp_nil))) dp_nil)) dp_nil))) dp_nil)) dp_nil))) (rwD_of (tx_row7 k m) rfl)) da_nil) (m_append (end_at rfl) (end_at rfl) (sz' (by show 7 ≤ 100000; decide))))) (end_set rfl)) (cn
    (dss_cons (ds_to (ds_expr (de_bm PySem.F.plainAttrs_list PySem.F.slot_list_append PySem.F.type_list_append (de_var 5) (da_cons (de_of (d' := rwD (row8 k m)) (de_tup (ds := [.str (st ([113, 117, 97, 114, 116, 101, 114, 32, 90, 73, 47, 116, 117, 114, 110, 32, 88, 73] ++ (pA k))), .tup [.tup [.str (st [89, 73]), .tup [.tup [.str (st k), .int (-1)]]]]]) (dp_cons (de_catS (A := [113, 117, 97, 114, 116, 101, 114, 32, 90, 73, 47, 116, 117, 114, 110, 32, 88, 73]) (B := (pA k)) (de_strL [113, 117, 97, 114, 116, 101, 114, 32, 90, 73, 47, 116, 117, 114, 110, 32, 88, 73]) (de_var 2) (by simp only [pA, List.length_append, List.length_cons, List.length_nil]; omega)) (dp_cons (de_tup (ds := [.tup [.str (st [89, 73]), .tup [.tup [.str (st k), .int (-1)]]]]) (dp_cons (de_tup (ds := [.str (st [89, 73]), .tup [.tup [.str (st k), .int (-1)]]]) (dp_cons (de_strL [89, 73]) (dp_cons (de_tup (ds := [.tup [.str (st k), .int (-1)]]) (dp_cons (de_tup (ds := [.str (st k), .int (-1)]) (dp_cons (de_var 0) (dp_cons (de_un (de_int (i := 1)) u_neg) dp_nil))) dp_nil)) dp_nil))) dp_nil)) dp_nil))) (rwD_of (tx_row8 k m) rfl)) da_nil) (m_append (end_at rfl) (end_at rfl) (sz' (by show 8 ≤ 100000; decide))))) (end_set rfl)) (cn
    (dss_cons (ds_to (ds_expr (de_bm PySem.F.plainAttrs_list PySem.F.slot_list_append PySem.F.type_list_append (de_var 5) (da_cons (de_of (d' := rwD (row9 k m)) (de_tup (ds := [.str (st ((([99, 120, 32, 48, 32, 49, 47, 116, 117, 114, 110, 32, 73, 90] ++ (pA k)) ++ [47, 99, 120, 32, 48, 32, 49, 47, 116, 117, 114, 110, 32, 90, 90]) ++ (pA k))), .tup [.tup [.str (st [90, 90]), .tup [.tup [.str (st k), .int 2]]]]]) (dp_cons (de_catS (A := (([99, 120, 32, 48, 32, 49, 47, 116, 117, 114, 110, 32, 73, 90] ++ (pA k)) ++ [47, 99, 120, 32, 48, 32, 49, 47, 116, 117, 114, 110, 32, 90, 90])) (B := (pA k)) (de_catS (A := ([99, 120, 32, 48, 32, 49, 47, 116, 117, 114, 110, 32, 73, 90] ++ (pA k))) (B := [47, 99, 120, 32, 48, 32, 49, 47, 116, 117, 114, 110, 32, 90, 90]) (de_catS (A := [99, 120, 32, 48, 32, 49, 47, 116, 117, 114, 110, 32, 73, 90]) (B := (pA k)) (de_strL [99, 120, 32, 48, 32, 49, 47, 116, 117, 114, 110, 32, 73, 90]) (de_var 2) (by simp only [pA, List.length_append, List.length_cons, List.length_nil]; omega)) (de_strL [47, 99, 120, 32, 48, 32, 49, 47, 116, 117, 114, 110, 32, 90, 90]) (by simp only [pA, List.length_append, List.length_cons, List.length_nil]; omega)) (de_var 2) (by simp only [pA, List.length_append, List.length_cons, List.length_nil]; omega)) (dp_cons (de_tup (ds := [.tup [.str (st [90, 90]), .tup [.tup [.str (st k), .int 2]]]]) (dp_cons (de_tup (ds := [.str (st [90, 90]), .tup [.tup [.str (st k), .int 2]]]) (dp_cons (de_strL [90, 90]) (dp_cons (de_tup (ds := [.tup [.str (st k), .int 2]]) (dp_cons (de_tup (ds := [.str (st k), .int 2]) (dp_cons (de_var 0) (dp_cons (de_int (i := 2)) dp_nil))) dp_nil)) dp_nil))) dp_nil)) dp_nil))) (rwD_of (tx_row9 k m) rfl)) da_nil) (m_append (end_at rfl) (end_at rfl) (sz' (by show 9 ≤ 100000; decide))))) (end_set rfl)) (cn
    (dss_cons (ds_to (ds_expr (de_bm PySem.F.plainAttrs_list PySem.F.slot_list_append PySem.F.type_list_append (de_var 5) (da_cons (de_of (d' := rwD (row10 k m)) (de_tup (ds := [.str (st ((([102, 108, 105, 112, 32, 88, 73, 47, 116, 117, 114, 110, 32, 90, 73] ++ (pA k)) ++ [47, 116, 117, 114, 110, 32, 73, 90]) ++ (pA k))), .tup [.tup [.str (st [73, 90]), .tup [.tup [.str (st k), .int 1]]], .tup [.str (st [90, 73]), .tup [.tup [.str (st k), .int (-1)]]]]]) (dp_cons (de_catS (A := (([102, 108, 105, 112, 32, 88, 73, 47, 116, 117, 114, 110, 32, 90, 73] ++ (pA k)) ++ [47, 116, 117, 114, 110, 32, 73, 90])) (B := (pA k)) (de_catS (A := ([102, 108, 105, 112, 32, 88, 73, 47, 116, 117, 114, 110, 32, 90, 73] ++ (pA k))) (B := [47, 116, 117, 114, 110, 32, 73, 90]) (de_catS (A := [102, 108, 105, 112, 32, 88, 73, 47, 116, 117, 114, 110, 32, 90, 73]) (B := (pA k)) (de_strL [102, 108, 105, 112, 32, 88, 73, 47, 116, 117, 114, 110, 32, 90, 73]) (de_var 2) (by simp only [pA, List.length_append, List.length_cons, List.length_nil]; omega)) (de_strL [47, 116, 117, 114, 110, 32, 73, 90]) (by simp only [pA, List.length_append, List.length_cons, List.length_nil]; omega)) (de_var 2) (by simp only [pA, List.length_append, List.length_cons, List.length_nil]; omega)) (dp_cons (de_tup (ds := [.tup [.str (st [73, 90]), .tup [.tup [.str (st k), .int 1]]], .tup [.str (st [90, 73]), .tup [.tup [.str (st k), .int (-1)]]]]) (dp_cons (de_tup (ds := [.str (st [73, 90]), .tup [.tup [.str (st k), .int 1]]]) (dp_cons (de_strL [73, 90]) (dp_cons (de_tup (ds := [.tup [.str (st k), .int 1]]) (dp_cons (de_tup (ds := [.str (st k), .int 1]) (dp_cons (de_var 0) (dp_cons (de_int (i := 1)) dp_nil))) dp_nil)) dp_nil))) (dp_cons (de_tup (ds := [.str (st [90, 73]), .tup [.tup [.str (st k), .int (-1)]]]) (dp_cons (de_strL [90, 73]) (dp_cons (de_tup (ds := [.tup [.str (st k), .int (-1)]]) (dp_cons (de_tup (ds := [.str (st k), .int (-1)]) (dp_cons (de_var 0) (dp_cons (de_un (de_int (i := 1)) u_neg) dp_nil))) dp_nil)) dp_nil))) dp_nil))) dp_nil))) (rwD_of (tx_row10 k m) rfl)) da_nil) (m_append (end_at rfl) (end_at rfl) (sz' (by show 10 ≤ 100000; decide))))) (end_set rfl)) (cn
    (dss_ret (de_of (d' := .lst ((rowsK k m).map rwD)) (de_bin (de_var 5) (de_lst (ds := [rwD (row11 k m), rwD (row12 k m)]) (dp_cons (de_of (d' := rwD (row11 k m)) (de_tup (ds := [.str (st []), .tup []]) (dp_cons (de_strL []) (dp_cons (de_tup (ds := []) dp_nil) dp_nil))) (rwD_of (tx_row11 k m) rfl)) (dp_cons (de_of (d' := rwD (row12 k m)) (de_tup (ds := [.str (st [104, 32, 48, 47, 99, 120, 32, 48, 32, 49]), .tup []]) (dp_cons (de_strL [104, 32, 48, 47, 99, 120, 32, 48, 32, 49]) (dp_cons (de_tup (ds := []) dp_nil) dp_nil))) (rwD_of (tx_row12 k m) rfl)) dp_nil))) (o_catM (end_at rfl) (by show 13 ≤ _; exact sz (by decide)))) rfl))))))))))))))))))))))))))), ?_⟩
  refine Eq.mp (congrArg (Fit _ _ _) ?_) (Fit.rtT (n := μ'.length) (Nat.le_refl _))
  exact List.take_left ..
end
def rLMade (CC : Addr) : Rel := fun ss μ r μ' => ∃ (ls : List Ln), okC 2 ls ∧ ss = [.p (.str (st (tx47 ls)))] ∧ r = .v (.p (circD CC 2 ls)) ∧ μ' = μ
section
variable {P : Program} {w : World} {K : PySem.W.Frag} {mg : Str → Option Value} {base : Heap} {f C CC : Addr} {fd : FuncData}
theorem ok_lmade (F : Fun K "_law_made" "_law_made" sLMade f fd) (ci : Ci P w K mg base 7 CC "Circuit" [] (K58F.rCInit CC)) : FnOk P w K mg base (L2.CX P w) 9 f fd ["text"] (spD K (rLMade CC)) := by
  refine fn_D (k := 8) F scLMade (fun ss μ r μ' h => by obtain ⟨_, _, rfl, _⟩ := h; rfl) ?_
  intro cdv A0 outer s0 H E N W ss μ r μ' g hA hR
  obtain ⟨ls, hok, rfl, rfl, rfl⟩ := hR
  have hlen := tx47_len hok
  have h40 := hok.len
  refine ⟨_, dss_ret (K58F.de_circ g ci hok (de_of (d' := .str (st (ct 2 ls))) (de_bm PySem.F.plainAttrs_str PySem.F.slot_str_join PySem.F.type_str_join (de_strL [10]) (da_cons (s := .p (.lst (((Cq.wT 2 :: ls.map lt).map st).map D.str))) (de_of (de_bin (de_lst (dp_cons (de_strL (Cq.wT 2)) dp_nil)) (de_if (r := .v (.p (.lst (ls.map fun l => D.str (st (lt l)))))) (k := !decide (ls = [])) (dt_of (dt_cmp (de_var 0) (de_strL []) o_neS) ?ht) (fun h => de_of (de_bm PySem.F.plainAttrs_str PySem.F.slot_str_split PySem.F.type_str_split (de_var 0) (da_cons de_str da_nil) (m_split (by decide) (by rw [st_len]; exact sz (by omega)))) (congrArg D.lst (split_47 hok ?hne))) (fun h => de_of (de_lst dp_nil) ?he)) (o_catL ?hl)) ?hd) da_nil) (m_join (ct_sum hok))) (congrArg D.str (join_ct 2 ls)))), .rt⟩
  case ht =>
    congr 1
    exact decide_eq_decide.mpr (st_inj.trans (tx47_ne hok))
  case hne =>
    intro e
    rw [decide_eq_true e] at h
    cases h
  case he =>
    have : ls = [] := by
      cases hd : decide (ls = []) with
      | true => exact of_decide_eq_true hd
      | false => rw [hd] at h; cases h
    rw [this]
    rfl
  case hl =>
    rw [List.length_map]
    show 1 + _ ≤ _
    exact sz (by omega)
  case hd =>
    rw [List.map_cons, List.map_cons, List.map_map, List.map_map]
    rfl
end
end K58
set_option Elab.async false
set_option linter.all false
set_option maxRecDepth 100000
set_option maxHeartbeats 4000000
set_option autoImplicit false
namespace Dl
open PySem PySem.Spec PyProof.Rows L2
/-! ## set(xs) of a list of ints, with what its order rests on -/
end Dl
set_option Elab.async false
set_option linter.all false
set_option maxRecDepth 100000
set_option maxHeartbeats 4000000
set_option autoImplicit false
namespace Dl
open PySem PySem.Spec PyProof.Rows L2
/-! ## sorted(set(xs)), xs a list of texts: sets of texts, with what their order rests on -/
abbrev newSet3 (w : World) : Obj := { cls := .type "set", dict := none, data := .set #[] 0 (.fresh 0 0 (!w.params.followText "set-order")) }
def keyT (e : Int × Value) : Str := match e.2 with
  | .str z _ => z
  | _ => Str.empty
def ElT (P : Program) (w : World) (e : Int × Value) : Prop := ∃ z t, e.2 = Value.str z t ∧ e.1 = (strKind P w).hash z
def TxR (P : Program) (w : World) (h : Heap) (a : Addr) (S : Str → Bool) (n : Nat) : Prop :=
  ∃ (o : Obj) (es : Array (Int × Value)) (ep : Nat) (t : SetTable), h.get? a = some o ∧ (o.ExactSet ∧ o.data = .set es ep t) ∧ (Ris t.place.toList ∧ (w.params.followText "set-order" = true ∨ t.led = true)) ∧ (∀ x ∈ es.toList, ElT P w x) ∧
    (es.toList.map keyT).Nodup ∧ (∀ k, S k = true ↔ k ∈ es.toList.map keyT) ∧ (es.size < scanBound ∧ t.fits es.size = true ∧ es.size = n)
section
variable {P : Program} {w : World} {h h' : Heap} {a : Addr} {S S' : Str → Bool} {n n' : Nat}
theorem TxR.keep (R : TxR P w h a S n) (k : ∀ o, h.get? a = some o → h'.get? a = some o) : TxR P w h' a S n := by
  obtain ⟨o, es, ep, t, ho, r⟩ := R
  exact ⟨o, es, ep, t, k o ho, r⟩
theorem TxR.as (R : TxR P w h a S n) (e : ∀ k, S k = S' k) (en : n = n') : TxR P w h a S' n' := by
  obtain rfl : S = S' := funext e
  exact en ▸ R
theorem elT_els {l : List (Int × Value)} (g : ∀ x ∈ l, ElT P w x) : ElemsOf (strKind P w) l := fun x hx => by
  obtain ⟨z, t, q1, q2⟩ := g x hx
  exact ⟨⟨z, by rw [q1]; exact strKind_is P w z t, q2⟩, by rw [q1] <;> rfl⟩
theorem elT_is {x : Int × Value} (g : ElT P w x) (k : Str) : (strKind P w).is k x.2 = true ↔ keyT x = k := by
  obtain ⟨z, t, q1, _⟩ := g
  unfold keyT
  rw [q1]
  show ((z == k) = true) ↔ z = k
  exact beq_iff_eq
theorem elT_mem {l : List (Int × Value)} (g : ∀ x ∈ l, ElT P w x) (k : Str) : k ∈ l.map keyT ↔ ∃ x ∈ l, (strKind P w).is k x.2 = true :=
  List.mem_map.trans ⟨fun ⟨x, hx, q⟩ => ⟨x, hx, (elT_is (g x hx) k).mpr q⟩, fun ⟨x, hx, q⟩ => ⟨x, hx, (elT_is (g x hx) k).mp q⟩⟩
theorem txR_new (ho : h.get? a = some (newSet3 w)) : TxR P w h a (fun j => decide (j ∈ ([] : List Str))) 0 := by
  refine ⟨_, #[], 0, _, ho, ⟨⟨rfl, rfl, rfl⟩, rfl⟩, ⟨?_, ?_⟩, fun x hx => by simp at hx, by simp, fun k => by simp, by decide, by rfl, rfl⟩
  · exact List.Pairwise.nil
  · cases q : w.params.followText "set-order" with
    | true => exact .inl rfl
    | false => right; rfl
end
section
variable {P : Program} {w : World} {A : Around} {E : Value → Shared → Prop} {s : Shared} {a : Addr} {S : Str → Bool} {n : Nat}
theorem txR_tail {g : Bool → Sem Unit} (hg : ∀ (b : Bool) (r : Shared) (Q' : Unit → Shared → Prop), Q' () r → wpAny (model P w) A (g b) Q' E r)
    {o : Obj} {es : Array (Int × Value)} {ep : Nat} {t : SetTable} (at0 : s.heap.get? a = some o) (ex0 : o.ExactSet) (dat : o.data = .set es ep t)
    {ys : Array (Int × Value)} {u : SetTable} {S' : Str → Bool} (el : ∀ x ∈ ys.toList, ElT P w x) (nd : (ys.toList.map keyT).Nodup) (mm : ∀ k, S' k = true ↔ k ∈ ys.toList.map keyT)
    (few : ys.size < scanBound) (ft : u.fits ys.size = true) (ri : Ris u.place.toList) (le : w.params.followText "set-order" = true ∨ u.led = true) {dum : Bool} {R : Option Bool → Shared → Prop}
    (end_ : ∀ h', Heap.SameBut a s.heap h' → TxR P w h' a S' ys.size → R (some true) { s with heap := h' }) :
    wpAny (model P w) A (do
        storeSet a ys u
        if (!dum && u.tooFull) = true then do
            g (relayAll u ys (SetTable.grown ys.size)).2.2
            storeSet a (relayAll u ys (SetTable.grown ys.size)).1 (relayAll u ys (SetTable.grown ys.size)).2.1
            pure (some true)
          else pure (some true)) R E s := by
  refine wpAny_bind (wpAny_storeSet_of at0 dat ?_ (fits_of_scanBound few))
  have at1 := store_at (es' := ys) (t' := u) at0 dat
  have same1 := Heap.SameBut.update s.heap a (Obj.putSet ys u)
  split
  · have pe := relayAll_perm u ys (SetTable.grown ys.size)
    have f3 := relayAll_fits u ys (SetTable.grown ys.size)
    have r3 := relayAll_ris u ys (SetTable.grown ys.size)
    have l3 := relayAll_led u ys (SetTable.grown ys.size)
    generalize relayAll u ys (SetTable.grown ys.size) = Z at pe f3 r3 l3 ⊢
    obtain ⟨zs, v, gave⟩ := Z
    dsimp only at pe f3 r3 l3 ⊢
    have same : zs.size = ys.size := by rw [← Array.length_toList, pe.length_eq, Array.length_toList]
    have few2 : zs.size < scanBound := same ▸ few
    refine wpAny_bind (hg _ _ _ ?_)
    refine wpAny_bind (wpAny_storeSet_of at1 rfl ?_ (fits_of_scanBound few2))
    have at2 := store_at (es' := zs) (t' := v) at1 rfl
    refine wpAny_pure (end_ _ (same1.trans (Heap.SameBut.update _ a _)) ?_)
    exact ⟨_, zs, _, v, at2, ⟨ex0, rfl⟩, ⟨r3, le.imp id fun q => by rw [l3]; exact q⟩, fun x hx => el x (pe.mem_iff.mp hx), (pe.map keyT).nodup_iff.mpr nd, fun k => (mm k).trans (pe.map keyT).mem_iff.symm, few2, f3, same⟩
  · exact wpAny_pure (end_ _ same1 ⟨_, ys, _, u, at1, ⟨ex0, rfl⟩, ⟨ri, le⟩, el, nd, mm, few, ft, rfl⟩)
theorem txR_add {k : Str} {tk : Tok} {Q : Bool → Shared → Prop} (R : TxR P w s.heap a S n) (room : n + 1 < scanBound)
    (fin : ∀ h', Heap.SameBut a s.heap h' → TxR P w h' a (fun j => S j || decide (j = k)) (if S k then n else n + 1) → Q (!S k) { s with heap := h' }) :
    wpAny (model P w) A (setAddHashed a (.str k tk) ((strKind P w).hash k)) Q E s := by
  obtain ⟨o, es, ep, t, at0, ⟨ex0, dat⟩, ⟨ri, le⟩, el, nd, mm, few, ft, sz⟩ := R
  have isk : (strKind P w).is k (.str k tk) = true := strKind_is P w k tk
  have scn : (Value.str k tk).scannable = true := rfl
  have els : ElemsOf (strKind P w) es.toList := elT_els el
  unfold setAddHashed setAddHashedIn
  refine wpAny_holding (wpAny_bind (wpAny_setState_of at0 dat ft ?_))
  dsimp only
  rw [byScan_of scn few els]
  simp only [↓reduceIte]
  unfold setAddByScan
  refine wpAny_bind (wpAny_bind (wpAny_rule (wpAny_bind (wpAny_setScan_of isk at0 dat ft els ?_))))
  cases found : List.findIdx? (fun x => (strKind P w).is k x.2) es.toList with
  | some j =>
    dsimp only
    obtain ⟨lj, pj, _⟩ := List.findIdx?_eq_some_iff_getElem.mp found
    have yes : S k = true := (mm k).mpr ((elT_mem el k).mpr ⟨es.toList[j], List.getElem_mem lj, pj⟩)
    refine wpAny_pure (wpAny_pure ?_)
    have q := fin s.heap (Heap.SameBut.refl a s.heap) ⟨o, es, ep, t, at0, ⟨ex0, dat⟩, ⟨ri, le⟩, el, nd, fun i => by
      rw [Bool.or_eq_true, decide_eq_true_eq, ← mm i]
      exact ⟨fun z => z.elim id (fun e => e ▸ yes), .inl⟩, few, ft, by rw [if_pos yes]; exact sz⟩
    rw [yes] at q
    exact q
  | none =>
    dsimp only
    have out : k ∉ es.toList.map keyT := fun z => by
      obtain ⟨x, hx, q⟩ := (elT_mem el k).mp z
      have c := List.findIdx?_eq_none_iff.mp found x hx
      rw [q] at c
      cases c
    have no : S k = false := by
      cases q : S k with
      | false => rfl
      | true => exact absurd ((mm k).mp q) out
    have gw : ∀ (b : Bool) {r : Shared} {Q' : Unit → Shared → Prop}, Q' () r → wpAny (model P w) A (match b with | true => rule "set.scan.the-table-gave-way" | false => pure ()) Q' E r :=
      fun b r Q' q => by cases b <;> first | exact wpAny_pure q | exact wpAny_rule q
    have pe := layNew_perm t es ((strKind P w).hash k) (.str k tk)
    have f1 := layNew_fits t es ((strKind P w).hash k) (.str k tk)
    have r1 := layNew_ris t es ((strKind P w).hash k) (.str k tk) ri
    have l1 := layNew_led t es ((strKind P w).hash k) (.str k tk)
    generalize layNew t es ((strKind P w).hash k) (.str k tk) = Z at pe f1 r1 l1 ⊢
    obtain ⟨ys, u, dum, gave⟩ := Z
    dsimp only at pe f1 r1 l1 ⊢
    rw [Array.toList_push] at pe
    have pc : ys.toList.Perm (((strKind P w).hash k, Value.str k tk) :: es.toList) := pe.trans (List.perm_append_singleton _ _)
    have pk : (ys.toList.map keyT).Perm (k :: es.toList.map keyT) := pc.map keyT
    have el1 : ∀ x ∈ ys.toList, ElT P w x := fun x hx => by
      rcases List.mem_cons.mp (pc.mem_iff.mp hx) with z | z
      · exact z ▸ ⟨k, tk, rfl, rfl⟩
      · exact el x z
    have ndk : (ys.toList.map keyT).Nodup := pk.nodup_iff.mpr (List.nodup_cons.mpr ⟨out, nd⟩)
    have mm1 : ∀ i, (S i || decide (i = k)) = true ↔ i ∈ ys.toList.map keyT := fun i =>
      ((Bool.or_eq_true ..).to_iff.trans (or_congr (mm i) decide_eq_true_iff)).trans (Or.comm.trans ((pk.mem_iff.trans List.mem_cons).symm))
    have sz1 : ys.size = n + 1 := by rw [← Array.length_toList, pc.length_eq, List.length_cons, Array.length_toList, sz]
    have few1 : ys.size < scanBound := sz1 ▸ room
    have le1 : w.params.followText "set-order" = true ∨ u.led = true := le.imp id fun z => by rw [l1]; exact z
    have last : ∀ h', Heap.SameBut a s.heap h' → TxR P w h' a (fun j => S j || decide (j = k)) ys.size → Q true { s with heap := h' } := fun h' sb r => by
      have q := fin h' sb
      rw [no] at q
      exact q (sz1 ▸ r)
    refine wpAny_bind (gw _ ?_)
    split
    · refine wpAny_bind ?_
      rw [hashByValue_scannable 8 scn]
      refine wpAny_pure (txR_tail ?_ at0 ex0 dat el1 ndk mm1 few1 ?_ ?_ ?_ ?_)
      · intro b r Q' q
        cases b <;> first | exact wpAny_pure q | exact wpAny_rule q
      · first | (split <;> first | exact f1 | exact SetTable.fits_plain_off f1) | exact f1
      · first | (split <;> exact r1) | exact r1
      · first | (split <;> exact le1) | exact le1
      · intro h' sb r
        dsimp only
        exact wpAny_pure (last h' sb r)
    · refine txR_tail ?_ at0 ex0 dat el1 ndk mm1 few1 ?_ ?_ ?_ ?_
      · intro b r Q' q
        cases b <;> first | exact wpAny_pure q | exact wpAny_rule q
      · first | (split <;> first | exact f1 | exact SetTable.fits_plain_off f1) | exact f1
      · first | (split <;> exact r1) | exact r1
      · first | (split <;> exact le1) | exact le1
      · intro h' sb r
        dsimp only
        exact wpAny_pure (last h' sb r)
theorem upd_txts {I : Addr} {fp wr : List Addr} {G : Array GenState → Array GenState → Prop} {n : Nat} {Pv : Nat → Value → Prop} {St : Nat → Shared → Prop} {R : Result → Shared → Prop}
    (W : WalksS P w A.in1 I fp wr G n Pv St) (b0 : Addr) (off : b0 ∉ fp) (zs : List Str) (ln : n = zs.length) (few : zs.length + 1 < scanBound) (val : ∀ i v, Pv i v → ∃ z t, zs[i]? = some z ∧ v = .str z t) :
    ∀ (k i : Nat) (s : Shared), n - i = k → i ≤ n → St i s → TxR P w s.heap b0 (fun j => decide (j ∈ zs.take i)) (uniqN (zs.take i)).length →
      (∀ s', Moved (b0 :: wr) G s s' → TxR P w s'.heap b0 (fun j => decide (j ∈ zs)) (uniqN zs).length → R (.ok (.ret .none)) s') →
      codeAny (model P w) A (.builtin "set.update.loop" ⟨[.ref b0, .ref I], []⟩) R s := by
  have offW : b0 ∉ wr := fun q => off (W.sub _ q)
  have inW : ∀ b ∈ wr, b ∈ b0 :: wr := fun b q => List.mem_cons_of_mem _ q
  intro k
  induction k with
  | zero =>
    intro i s kn le st have_ last
    obtain rfl : i = n := by omega
    refine codeAny_builtin (F.entry_set_update_loop) ?_
    rw [Around.under_plainId (F.plain_set_update_loop) _]
    show wpAny (model P w) A.in1 (pyNext (.ref I) >>= _) _ _ s
    refine wpAny_bind (W.done s _ _ st fun s1 mv => ?_)
    show wpAny (model P w) A.in1 (ret Value.none) _ _ s1
    rw [List.take_of_length_le (by omega)] at have_
    exact wpAny_pure (last s1 (mv.mono inW) (have_.keep fun o q => mv.heap b0 o offW q))
  | succ k ih =>
    intro i s kn le st have_ last
    have lt : i < n := by omega
    refine codeAny_builtin (F.entry_set_update_loop) ?_
    rw [Around.under_plainId (F.plain_set_update_loop) _]
    show wpAny (model P w) A.in1 (pyNext (.ref I) >>= _) _ _ s
    refine wpAny_bind (W.item i s _ _ lt st fun v s1 pv st1 mv => ?_)
    obtain ⟨z, t, zi, rfl⟩ := val i v pv
    have now := have_.keep fun o q => mv.heap b0 o offW q
    show wpAny (model P w) A.in1 (holding [Value.str z t] (setAdd b0 (.str z t)) >>= _) _ _ s1
    refine wpAny_bind (wpAny_holding ?_)
    unfold setAdd
    refine wpAny_holding ?_
    have room : (uniqN (zs.take i)).length ≤ zs.length := Nat.le_trans (uniqN_le _) (by rw [List.length_take]; omega)
    refine wpAny_bind ((strKind P w).pyHash (k := z) (strKind_is _ _ _ _) ?_)
    refine txR_add (s := { s1 with toks := s1.toks + 1 }) (tk := t) now (by omega) fun h1 sb now1 => ?_
    have tk1 : zs.take (i + 1) = zs.take i ++ [z] := by rw [List.take_add_one, zi] <;> rfl
    have now2 := now1.as (S' := fun j => decide (j ∈ zs.take (i + 1))) (n' := (uniqN (zs.take (i + 1))).length) (fun j => by rw [tk1]; simp [List.mem_append]) (by
      rw [tk1, uniqN_snoc]
      by_cases q : z ∈ zs.take i
      · simp [q]
      · simp [q])
    refine wpAny_pure ⟨plainId_quiet (F.plain_set_update_loop) _, ih (i + 1) _ (by omega) lt (W.frame _ s1 _ _ st1 (Nat.le_succ _) fun b hb o q => ?_) now2 fun s2 mv2 end_ => ?_⟩
    · rw [sb.2 b (fun e : b = b0 => off (e ▸ hb))]
      exact q
    · refine last s2 (Moved.trans W.gtrans ((mv.mono inW).then_heap (Nat.le_succ _) fun b o hb q => ?_) mv2) end_
      rw [sb.2 b (fun e : b = b0 => hb (e ▸ List.mem_cons_self))]
      exact q
theorem set_of_txts {l : Addr} {items : Array Value} (zs : List Str) {Q : Value → Shared → Prop} (calm : A.handled = none) (isl : s.heap.IsList l items) (isi : ∀ (i : Nat) (v : Value), items[i]? = some v → ∃ z t, zs[i]? = some z ∧ v = .str z t) (size : items.size = zs.length) (few : zs.length + 1 < scanBound)
    (k : ∀ (g : Heap) (tk : Nat), TxR P w g s.heap.objs.size (fun j => decide (j ∈ zs)) (uniqN zs).length → (∀ b o, s.heap.get? b = some o → g.get? b = some o) → Q (.ref s.heap.objs.size) { s with heap := g, toks := tk }) :
    wpAny (model P w) A (call (.type "set") [.ref l]) Q E s := by
  obtain ⟨c0, tl0, mro0⟩ := F.called_set.mro
  have m1 := F.called_set.made
  have m2 := F.called_set.sub
  refine wpAny_call (codeAny_of_tree ?_)
  show wpAny _ _ (callAny (.type "set") _) _ _ _
  refine wpAny_pure ⟨Code.quiet_builtin _ (by decide +kernel), codeAny_builtin F.entry_type_call ?_⟩
  rw [Around.under_plain (weight_type_call_type "set" [.ref l] []) rfl]
  have m3 := F.called_set.notType
  have m4 := F.called_set.canCreate
  have m5 := F.typeCall_set_1 (.ref l)
  repeat any_goals first | wp_step | assumption
  refine codeAny_mono (code_set_led1 (.ref l) (E := E) (Q₁ := fun ob t => ob = .ref s.heap.objs.size ∧ t = { s with heap := s.heap.push (newSet3 w) }) ⟨rfl, rfl⟩) fun r t hr => ?_
  cases r with
  | error e => exact hr
  | ok fl =>
    cases fl with
    | next => exact hr.elim
    | brk => exact hr.elim
    | cont => exact hr.elim
    | ret ob =>
      obtain ⟨rfl, rfl⟩ := hr
      have atS : (s.heap.push (newSet3 w)).get? s.heap.objs.size = some (newSet3 w) := Heap.get?_push_size _ rfl
      have tyS : Shared.TypeIs { s with heap := s.heap.push (newSet3 w) } (.ref s.heap.objs.size) "set" := ⟨_, atS, rfl⟩
      have i1 := F.called_set.init.lookup
      have i2 := F.called_set.init.bind (.ref s.heap.objs.size)
      repeat any_goals first | wp_step | assumption
      refine codeAny_mono (codeAny_call_builtin (R := wants (fun v t => v = .none ∧ ∃ g tk, t = { s with heap := g, toks := tk } ∧ TxR P w g s.heap.objs.size (fun j => decide (j ∈ zs)) (uniqN zs).length ∧ (∀ b o, s.heap.get? b = some o → g.get? b = some o)) E)
        F.called_set.init.plain F.entry_set_init (check_set_init_1 tyS ?_)) fun r2 t2 hr2 => ?_
      · obtain ⟨⟨oc, od, oda, osl⟩, holo, hcl, nl, hdl⟩ := isl
        simp only at hcl hdl
        subst hcl hdl
        have atL : (s.heap.push (newSet3 w)).get? l = some { cls := .type "list", dict := od, data := .seq items nl, slots := osl } := Heap.get?_push_of_some _ holo
        have lst : (s.heap.push (newSet3 w)).IsList l items := ⟨_, atL, rfl, nl, rfl⟩
        have n1 := F.sub_list_set
        have n2 := F.sub_list_frozenset
        have n3 : (Value.type "list" == Value.type "dict") = false := by decide
        unfold Builtin.«set.__init__» noKeywords Builtin.Frozenset.updateFrom
        generalize hit : pyIter = IT
        wp_walk
        subst hit
        refine wpAny_pyIter_list lst (wpAny_bind (wpAny_runValue ?_))
        have big : l < s.heap.objs.size := Heap.lt_size holo
        have calm3 : A.in1.in1.in1.handled = none := by simp [calm]
        have offI : l ≠ (s.heap.push (newSet3 w)).objs.size := by
          rw [Heap.size_push]
          exact Nat.ne_of_lt (Nat.lt_succ_of_lt big)
        have offS : s.heap.objs.size ∉ [(s.heap.push (newSet3 w)).objs.size, l] := by
          rw [Heap.size_push]
          simp only [List.mem_cons, List.not_mem_nil, or_false, not_or]
          exact ⟨Nat.ne_of_lt (Nat.lt_succ_self _), (Nat.ne_of_lt big).symm⟩
        refine upd_txts ((Walks.list calm3 _ l offI items).toS) s.heap.objs.size offS zs size few isi (items.size - 0) 0 _ (by omega) (Nat.zero_le _) ⟨⟨_, Heap.get?_push_size _ rfl, rfl, rfl⟩, lst.push _⟩ ?_ ?_
        · exact txR_new (Heap.get?_push_of_some _ atS)
        · intro t3 mv R3
          obtain ⟨g3, gn, dr, tk, os⟩ := t3
          have e1 : gn = s.gens := mv.gens
          have e2 : dr = s.drawn := mv.drawn
          have e3 : os = s.os := mv.os
          subst e1 e2 e3
          show wpAny _ _ _ _ _ _
          refine wpAny_pure ?_
          show wpAny _ _ (ret Value.none) _ _ _
          refine wpAny_pure ⟨rfl, g3, tk, rfl, R3, fun b o e => ?_⟩
          have lt : b < s.heap.objs.size := Heap.lt_size e
          refine mv.heap b o ?_ (Heap.get?_push_of_some _ (Heap.get?_push_of_some _ e))
          simp only [List.mem_cons, List.not_mem_nil, or_false, not_or, Heap.size_push]
          exact ⟨Nat.ne_of_lt lt, Nat.ne_of_lt (Nat.lt_succ_of_lt lt)⟩
      · cases r2 with
        | error e => exact hr2
        | ok fl2 =>
          cases fl2 with
          | next => exact hr2.elim
          | brk => exact hr2.elim
          | cont => exact hr2.elim
          | ret v =>
            obtain ⟨rfl, g, tk, rfl, R, kp⟩ := hr2
            repeat any_goals first | wp_step | assumption
            exact k _ _ R kp
end
end Dl
set_option Elab.async false
set_option linter.all false
set_option maxRecDepth 100000
set_option maxHeartbeats 4000000
set_option autoImplicit false
namespace Dl
open PySem PySem.Spec PyProof.Rows L2
def SetTO (P : Program) (w : World) (a : Addr) (S : Str → Bool) (n : Nat) : HO := .ext fun h => TxR P w h a S n
theorem slt_tot {a b : Str} (h : ltCps b.cps.toList a.cps.toList = false) (ne : a ≠ b) : sltB a b = true := by
  rcases Cq.slt_ord.tot a b with q | q | q
  · exact q
  · exact absurd q ne
  · rw [ltCps_eq] at h
    exact absurd (h.symm.trans q) (by decide)
theorem slt_tr {a b c : Str} (h1 : sltB a b = true) (h2 : sltB b c = true) : sltB a c = true := by
  unfold sltB at *
  exact decide_eq_true (List.lt_trans (of_decide_eq_true h1) (of_decide_eq_true h2))
theorem rising_asc : ∀ (ys : List Str) (p : Str), risingS p ys = true → (p :: ys).Nodup → (p :: ys).Pairwise fun a b => sltB a b = true
  | [], _, _, _ => by simp
  | x :: r, p, h, nd => by
    have h' : (!ltCps x.cps.toList p.cps.toList && risingS x r) = true := h
    rw [Bool.and_eq_true] at h'
    obtain ⟨n1, n2⟩ := List.nodup_cons.mp nd
    have ih := rising_asc r x h'.2 n2
    have px : sltB p x = true := slt_tot (by simpa using h'.1) fun e => n1 (by simp [e])
    refine List.pairwise_cons.mpr ⟨fun y hy => ?_, ih⟩
    rcases List.mem_cons.mp hy with rfl | hy
    · exact px
    · exact slt_tr px ((List.pairwise_cons.mp ih).1 y hy)
theorem sorted_asc {ys : List Str} (h : sortedS ys = true) (nd : ys.Nodup) : ys.Pairwise fun a b => sltB a b = true := by
  cases ys with
  | nil => simp
  | cons x r => exact rising_asc r x h nd
theorem reps_strsD {K : PySem.W.Frag} {F : Hp} : ∀ zs : List Str, Reps K F (zs.map V.str) (zs.map D.str)
  | [] => .nil
  | z :: zs => .cons (.str z) (reps_strsD zs)
def txV : Value → Str
  | .str z _ => z
  | _ => Str.empty
theorem strs_map : ∀ l : List Value, (∀ v ∈ l, ∃ z t, v = Value.str z t) → StrsAre l (l.map txV)
  | [], _ => .nil
  | v :: l, h => by
    obtain ⟨z, t, rfl⟩ := h v (by simp)
    exact .cons z t (strs_map l fun u hu => h u (by simp [hu]))
section
variable {P : Program} {w : World} {A : Around} {E : Value → Shared → Prop} {s : Shared} {a : Addr}
theorem sorted_txts {S : Str → Bool} {n : Nat} {Q : Value → Shared → Prop} (R : TxR P w s.heap a S n) (calm : A.handled = none) (few : n < 64)
    (fin : ∀ s' p (out : Array Value) (c : Nat) (zs : List Str), (∀ b o, s.heap.get? b = some o → s'.heap.get? b = some o) → (s'.gens = s.gens ∧ s'.os = s.os) → s.heap.objs.size ≤ p →
      s'.heap.get? p = some (seqObj "list" out c) → StrsAre out.toList zs → (zs.Pairwise fun a b => sltB a b = true) → (∀ k, k ∈ zs ↔ S k = true) → zs.length = n → Q (.ref p) s') :
    wpAny (model P w) A (call (.builtin "sorted") [.ref a]) Q E s := by
  obtain ⟨o, es, ep, t, at0, ⟨ex0, dat⟩, ⟨ri, le⟩, el, nd, mm, few0, ft, sz⟩ := R
  refine Calls.call_function_entry kind_sorted plain_sorted entry_sorted (args_sorted1 _) ?_
  unfold Builtin.«sorted»
  refine wpAny_bind (m := checkCount "sorted" 1 1 _) (wpAny_pure (wpAny_bind (collect_set (A := A.in1) calm ⟨o, at0, ex0.1, dat⟩ ft few0 ri le fun s1 vs k1 hz g1 o1 pm => ?_)))
  have lv : vs.length = n := by rw [pm.length_eq, List.length_map, Array.length_toList]; exact sz
  have are := strs_map vs fun v hv => by
    obtain ⟨x, hx, q⟩ := List.mem_map.mp (pm.mem_iff.mp hv)
    obtain ⟨k, tk, q1, _⟩ := el x hx
    exact ⟨k, tk, by rw [← q]; exact q1⟩
  have pk : (vs.map txV).Perm (es.toList.map keyT) := by
    have q := pm.map txV
    rw [List.map_map] at q
    exact q
  refine wpAny_bind (wpAny_newList ?_ (by rw [lv, sizeLine_eq]; omega))
  have new1 : (s1.heap.push (seqObj "list" vs.toArray 0)).get? s1.heap.objs.size = some (seqObj "list" vs.toArray 0) := Heap.get?_push_size _ rfl
  refine wpAny_bind (wpAny_holding (wpAny_call_entry slot_list_sort ⟨_, new1, rfl⟩ entry_list_sort (list_sort_treeK strKind_oneLt new1 are.keysOf (fun v₁ v₂ rest e => keyKind_strs (by rw [← e]; exact are)) (by rw [lv]; exact few) fun st hp hs => ⟨_, rfl, ?_⟩) (args_list_sort _)))
  obtain ⟨zs, a1, a2, a3⟩ := sorted_out_str are hp hs
  obtain ⟨c, hc⟩ := sortedHeap_at (vs := vs) (out := (arrOf st).map (·.2)) new1
  have pn : zs.Perm (es.toList.map keyT) := a2.trans pk
  refine wpAny_pure ⟨_, rfl, fin _ s1.heap.objs.size _ c zs (fun b u e => ?_) ⟨g1, o1⟩ hz hc a1 (sorted_asc a3 (pn.nodup_iff.mpr nd)) (fun k => by rw [pn.mem_iff, ← mm k]) ?_⟩
  · have q := k1 b u e
    have lt1 := Heap.lt_size q
    show (sortedHeap (s1.heap.push (seqObj "list" vs.toArray 0)) s1.heap.objs.size vs _).get? b = some u
    rw [sortedHeap_old (Nat.ne_of_lt lt1) (by rw [size_push']; exact Nat.lt_succ_of_lt lt1)]
    exact Heap.get?_push_of_some _ q
  · rw [pn.length_eq, List.length_map, Array.length_toList]; exact sz
end
section
variable {X : Cx} {N : En} {W : WX} {n : Nat} {δ : List (Option S)} {μ μ1 : List M} {e : Expr} {p1 p2 pos pos2 : Pos}
theorem cr_setT (hc : X.calm = true) : CallR X (.type "set") (fun xs H Q => ∃ (p : Addr) (zs : List Str), xs = [.ref p] ∧ SqL X.K H p (zs.map V.str) ∧ zs.length ≤ 1000 ∧ ∀ (a : Addr), H a = none → Q (.ref a) (upd H a (SetTO X.prog X.w a (fun j => decide (j ∈ zs)) (uniqN zs).length))) := by
  intro pins s σ H xs us Q I r ⟨p, zs, ex, hs, few, k⟩
  subst ex
  rw [Vals.ref1 r]
  obtain ⟨its, rv, ⟨⟨ocls, odd, oda, osl⟩, m, ho, hcl, hdn, hda⟩, hlen⟩ := I.list hs
  simp only at hcl hda
  have isl : s.heap.IsList p its.toArray := ⟨_, ho, hcl, m, hda⟩
  have sz : its.toArray.size = zs.length := by
    have := rv.length
    rw [List.length_map] at this
    rw [List.size_toArray, this]
  refine set_of_txts zs (I.ok.hd hc) isl (fun i v h => strs_val rv i v (by simpa using h)) sz (by unfold scanBound; omega) fun g tk R kp => ?_
  have nn : H s.heap.objs.size = none := I.hok.fresh (Nat.le_refl _)
  exact ⟨.ref s.heap.objs.size, _, I.laid kp (Nat.le_refl _) (show ObjOk X.prog X.w _ _ _ (SetTO X.prog X.w _ _ _) from ⟨R, R.elim fun o q => q.elim fun _ q => q.elim fun _ q => q.elim fun _ q => ⟨o, q.1⟩, fun h1 h2 p k => TxR.keep p k⟩), rfl, k _ nn⟩
theorem cr_sortT1 (hc : X.calm = true) : CallR X (.builtin "sorted") (fun xs H Q => ∃ (a : Addr) (S : Str → Bool) (m : Nat), xs = [.ref a] ∧ H a = some (SetTO X.prog X.w a S m) ∧ m < 64 ∧
    ∀ (zs : List Str) (p : Addr), (zs.Pairwise fun a b => sltB a b = true) → (∀ k, k ∈ zs ↔ S k = true) → zs.length = m → H p = none → Q (.ref p) (upd H p (.lst (zs.map V.str)))) := by
  intro pins s σ H xs us Q I r ⟨a, S, m, ex, ha, few, k⟩
  subst ex
  rw [Vals.ref1 r]
  have R : TxR X.prog X.w s.heap a S m := (I.hok a _ ha).1
  refine sorted_txts R (I.ok.hd hc) few fun s' p out c zs kp go hp hg hi hs hm hl => ?_
  have len1 : (zs.map V.str).length ≤ sizeLine := by rw [List.length_map, hl, sizeLine_eq]; omega
  have nn : H p = none := I.hok.fresh hp
  have J : Inv X pins σ (upd H p (.lst (zs.map V.str))) { s with heap := s'.heap, gens := s'.gens, drawn := s'.drawn, toks := s'.toks } :=
    I.call (ch := []) (Un.laid kp hp nn) (I.hok.laid kp hp ⟨len1, out.toList, c, vals_of_strs hi, hg⟩) (by rw [go.1]; exact I.bare) (fun _ z => nomatch z)
  have eq : s' = { s with heap := s'.heap, gens := s'.gens, drawn := s'.drawn, toks := s'.toks } := by
    obtain ⟨_, o⟩ := go
    cases s'
    cases s
    cases o
    rfl
  rw [eq]
  exact ⟨.ref p, _, J, rfl, k zs p hs hm hl nn⟩
/-- sorted(set(e)), e a list of texts -/
theorem de_sortedSetT {zs hs : List Str} (g : Go X N W n) (h : DE X N W δ μ e (.v (.p (.lst (zs.map D.str)))) μ1) (few : zs.length < 64) (asc : hs.Pairwise fun a b => sltB a b = true) (mem : ∀ k, k ∈ hs ↔ k ∈ zs) (hm : X.mg "sorted" = none) (hm2 : X.mg "set" = none) (hg : Gl X "sorted" := by rfl) (hg2 : Gl X "set" := by rfl)
    (h1 : starEach [e] X.env = (false, eval e X.env) :: starEach [] X.env := by rfl) (h2 : starEach [.Call (.Name "set" p2) [e] [] pos2] X.env = (false, eval (.Call (.Name "set" p2) [e] [] pos2) X.env) :: starEach [] X.env := by rfl) :
    DE X N W δ μ (.Call (.Name "sorted" p1) [.Call (.Name "set" p2) [e] [] pos2] [] pos) (.v (.p (.lst (hs.map D.str)))) μ1 :=
  PE.imp (pe_callB (cr_sortT1 g.calm) hg hm (by decide +kernel) (pa_cons (pe_callTy (cr_setT g.calm) hg2 hm2 (by decide +kernel) (pa_cons h pa_nil h1) (by decide) (by decide) h1 (by rfl)) pa_nil h2) (by decide) (by decide) h2 (by rfl)) fun σ H Q ⟨F, A, R0, k⟩ => ⟨F, A, R0, fun v F1 A1 H1 e1 p1 R1 rv => by
    obtain ⟨a, ws, rfl, q1, q2⟩ := rep_lst (show Rep N.K F1 v (.lst (zs.map D.str)) from rv)
    have q3 := strs_vals q2
    subst q3
    refine ⟨a, zs, rfl, SqL.of (R1.rc.sub _ _ q1), by omega, fun b nb => ?_⟩
    refine ⟨b, _, _, rfl, upd_same, Nat.lt_of_le_of_lt (uniqN_le zs) few, fun ys pl q hm' _ nq => ?_⟩
    have e2 : ys = hs := Cq.asc_uniq Cq.slt_ord q asc fun k => ((hm' k).trans (by simp)).trans (mem k).symm
    subst e2
    have r2 := R1.rc.junk nb (SetTO X.prog X.w b (fun j => decide (j ∈ zs)) (uniqN zs).length)
    have sm := same_updN (o := .lst (ys.map V.str)) (r2.fresh nq).2.1
    exact k (.ref pl) _ A1 _ (e1.trans sm) p1 (R1.to sm (List.prefix_refl _) (r2.frozen nq _)) (.lst upd_same (reps_strsD ys))⟩
end
end Dl
set_option Elab.async false
set_option linter.all false
set_option maxRecDepth 100000
set_option maxHeartbeats 4000000
set_option autoImplicit false
namespace K58
open PySem PySem.Spec PyProof.Rows L2 Dl Cq
/-! ### what is due, for each two of the knobs -/
def lsM (k m : List Nat) : List Ln := [.tn 1 [90, 90] [(k, 1)], .h 0, .tn 1 [90, 73] [(m, 1)], .tn 1 [73, 88] [(m, 2), (k, -1)]]
def begM (k m : List Nat) : List Br := [([90, 90], 1, [(st k, 1)]), ([88, 73], 1, [(st m, 1)]), ([73, 88], 1, [(st k, -1), (st m, 2)])]
def toldM (k m : List Nat) : D := .lst ((begM k m).map fun x => .tup [.str (sgn x.1 x.2.1), fmD x.2.2])
def rowOk (r : RowL) : Bool := okCB 2 r.1 && ((match ptF 10 (plF r.1) with | some mid => decide (fsF 10 mid = some r.2) | none => false) && goD (.tup (r.2.map prD)))
def pairOk (k m : List Nat) : Bool := (rowsK k m).all rowOk && (okCB 2 (lsM k m) && (decide (begF (lsM k m) = begM k m) && goD (toldM k m)))
theorem pairs_ok : ∀ k ∈ poolL, ∀ m ∈ poolL, sltB (st k) (st m) = true → pairOk k m = true := by decide +kernel
structure RowOk (r : RowL) : Prop where
  ok : okC 2 r.1
  run : ∃ mid, ptF 10 (plF r.1) = some mid ∧ fsF 10 mid = some r.2
  go : goD (.tup (r.2.map prD)) = true
theorem rowOk_of {r : RowL} (h : rowOk r = true) : RowOk r := by
  unfold rowOk at h
  simp only [Bool.and_eq_true] at h
  obtain ⟨a, b, c⟩ := h
  refine ⟨okC_ofB a, ?_, c⟩
  cases e : ptF 10 (plF r.1) with
  | none => rw [e] at b; cases b
  | some mid => rw [e] at b; exact ⟨mid, rfl, of_decide_eq_true b⟩
structure PairOk (k m : List Nat) : Prop where
  rows : ∀ r ∈ rowsK k m, RowOk r
  ok : okC 2 (lsM k m)
  beg : begF (lsM k m) = begM k m
  go : goD (toldM k m) = true
theorem pairOk_of {k m : List Nat} (h : pairOk k m = true) : PairOk k m := by
  unfold pairOk at h
  simp only [Bool.and_eq_true, List.all_eq_true, decide_eq_true_eq] at h
  exact ⟨fun r hr => rowOk_of (h.1 r hr), okC_ofB h.2.1, h.2.2.1, h.2.2.2⟩
theorem ws_M {k m : List Nat} (h : PairOk k m) : ahF (wsF (lsM k m)) = [[], [0], [0]] := by
  unfold wsF
  rw [h.beg]
  show ahF [[90, 90], [88, 73], [73, 88]] = _
  decide +kernel
theorem slt_tot : ∀ k ∈ poolL, ∀ m ∈ poolL, k ≠ m → sltB (st k) (st m) = false → sltB (st m) (st k) = true := by decide +kernel
theorem pool_8 : ∀ k ∈ poolL, k.length ≤ 8 := by decide +kernel
structure Two (ks : List (List Nat)) (k m : List Nat) : Prop where
  inK : k ∈ poolL
  inM : m ∈ poolL
  lt : sltB (st k) (st m) = true
  mem : ∀ z, z ∈ [st k, st m] ↔ z ∈ ks.map st
theorem two_of (p : Pot) : ∃ k m, Two (knobsD 2 p).1 k m := by
  obtain ⟨l1, l2, l3⟩ := someF_is (d := ([] : List Nat)) (n := 2) (p := p) (l := poolL) (by decide) pool_nd
  have l1 : (knobsD 2 p).1.length = 2 := l1
  have l2 : (knobsD 2 p).1.Nodup := l2
  have l3 : ∀ x ∈ (knobsD 2 p).1, x ∈ poolL := l3
  generalize (knobsD 2 p).1 = ks at *
  match ks, l1 with
  | [a, b], _ =>
    have ha := l3 a (by simp)
    have hb := l3 b (by simp)
    have hab : a ≠ b := by simpa using l2
    cases h : sltB (st a) (st b) with
    | true => exact ⟨a, b, ha, hb, h, fun z => by simp⟩
    | false => exact ⟨b, a, hb, ha, slt_tot a ha b hb hab h, fun z => by simp [or_comm]⟩
/-! ### the law -/
theorem scRight : FnScope ["pot", "k", "m", "text", "due", "lines", "made", "told", "word", "form"] ["pot"] (defScope sRight) := ⟨rfl, rfl, rfl, by decide +kernel, rfl, by decide +kernel, by decide +kernel⟩
theorem scLaw : FnScope ["script", "place"] ["script"] (defScope sLaw) := ⟨rfl, rfl, rfl, by decide +kernel, rfl, by decide +kernel, by decide +kernel⟩
def rtP (p : Pot) : Pot := (knobsD 2 p).2
def rRight : Rel := fun ss μ r μ' => ∃ (j : Nat) (p : Pot), p.ok 8000 ∧ ss = [.l j] ∧ μ[j]? = some p.m ∧ r = .v (.p (.bl true)) ∧ μ' = μ.set j (rtP p).m
theorem im_H : imF 2 [.h 0, .pr 1 0 1] = [(1, [90, 88]), (1, [88, 73]), (1, [73, 88]), (1, [88, 90])] := by decide +kernel
theorem ok_H : okC 2 [.h 0, .pr 1 0 1] := okC_ofB (by decide +kernel)
theorem ok_h : okC 2 [.h 0] := okC_ofB (by decide +kernel)
theorem ok_0 : okC 2 [] := okC_ofB (by decide +kernel)
section
variable {P : Program} {w : World} {K : PySem.W.Frag} {mg : Str → Option Value} {base : Heap} {f C CC : Addr} {fd : FuncData}
theorem join_tx (ls : List Ln) : Txt.join (Str.ofString "/") ((ls.map lt).map st) = st (tx47 ls) := SX.join_S [47] _
theorem ok_right (F : Fun K "_law_right" "_law_right" sRight f fd) (T : TM mg) (hsorted : mg "sorted" = none) (ck : Cf P w K mg base 3 "_law_knobs" [] rKnobs) (cr : Cf P w K mg base 1 "_law_rows" [] rLRows) (cm : Cf P w K mg base 9 "_law_made" [] (rLMade CC)) (cp : Cf P w K mg base 8 "plain" [] (rPlain C CC)) (ct : Cf P w K mg base 8 "turned" [] (rTurned C CC)) (cl : Cf P w K mg base 9 "layers" [] (rLayers CC)) (cpk : Cf P w K mg base 9 "packed" [] (rPacked CC)) (ctx : Cp P w K mg base 2 C "text" (rTextP C)) : FnOk P w K mg base (L2.CX P w) 10 f fd ["pot"] (spD K rRight) := by
  refine fn_D (k := 9) F scRight (fun ss μ r μ' h => by obtain ⟨_, _, _, rfl, _⟩ := h; rfl) ?_
  intro cdv A0 outer s0 H E N W ss μ r μ' g hA hR
  obtain ⟨j, p, hp, rfl, hj, rfl, rfl⟩ := hR
  obtain ⟨k, m, hT⟩ := two_of p
  have hk8 := pool_8 k hT.inK
  have hm8 := pool_8 m hT.inM
  have hP := pairOk_of (pairs_ok k hT.inK m hT.inM hT.lt)
  have ks14 : (knobsD 2 p).1.length ≤ 14 := (knobsD_is (m := 2) (p := p) (by decide) (by decide)).len
  have eah := ws_M hP
  obtain ⟨ν, hν⟩ : ∃ ν, μ.set j (rtP p).m = ν := ⟨_, rfl⟩
  have d0 : DS (cxOf (L2.CX P w) P w K mg base ["pot", "k", "m", "text", "due", "lines", "made", "told", "word", "form"] "_law_right" (defScope sRight) f cdv A0 outer s0 H E) N W (starts ["pot", "k", "m", "text", "due", "lines", "made", "told", "word", "form"] [.l j]) μ ((defBody sRight).getD 0 (.Pass ⟨0, 0, 0, 0⟩)) (.nx [some (.l j), some (.p (.str (st k))), some (.p (.str (st m))), none, none, none, none, none, none, none] (μ.set j (rtP p).m)) :=
    ds_asg (d := .lst ([st k, st m].map D.str)) (de_sortedSetT g (zs := (knobsD 2 p).1.map st) (de_of (de_call g ck (da_cons (de_var 0) (da_cons de_int da_nil)) ⟨j, p, 2, hp.mono (by omega), by decide, rfl, hj, rfl, rfl⟩) (congrArg D.lst (by rw [List.map_map]; rfl))) (by rw [List.length_map]; omega) (by simpa using hT.lt) hT.mem hsorted T.set) (dg_lst (dgs_cons (dg_name 1 g.nd) (dgs_cons (dg_name 2 g.nd) dgs_nil)) g.hK g.calm) rfl
  rw [hν] at d0 ⊢
  obtain ⟨δ', hlo, ⟨x3, x4, rfl⟩, _⟩ := loop_fo (X := cxOf (L2.CX P w) P w K mg base ["pot", "k", "m", "text", "due", "lines", "made", "told", "word", "form"] "_law_right" (defScope sRight) f cdv A0 outer s0 H E) (N := N) (W := W) (f := asTup [asName 3, asName 4]) (body := bodyOf sRight 1) (T := Unit) (mu := fun _ => ν) (nx := fun _ t => t) (gd := rwD)
    (fun _ _ => True) (fun _ δ => ∃ x3 x4, δ = [some (.l j), some (.p (.str (st k))), some (.p (.str (st m))), x3, x4, none, none, none, none, none]) (rowsK k m) [some (.l j), some (.p (.str (st k))), some (.p (.str (st m))), none, none, none, none, none, none, none] ()
    (fun r hr _ _ δ hδ _ => by
      obtain ⟨x3, x4, rfl⟩ := hδ
      obtain ⟨hok, ⟨mid, h1, h2⟩, hgo⟩ := hP.rows r hr
      exact ⟨trivial, _, _, rfl, dss_skip (dt_cmp (de_of (d' := .tup (r.2.map prD)) (de_ix (de_call g cp (da_cons (de_call g cm (da_cons (de_var 3) da_nil) ⟨r.1, hok, rfl, rfl, rfl⟩) da_nil) ⟨2, 10, 10, r.1, mid, r.2, hok, by decide, h1, h2, rfl, rfl, rfl⟩) de_int (i_tup (i := 0) g rfl)) rfl) (de_var 4) (o_neSelf g hgo)) dss_nil, _, _, rfl⟩) ⟨_, _, rfl⟩ trivial
  have e4 : ((imF 2 [.h 0, .pr 1 0 1]).map fun x => D.str (sgn x.2 x.1)) = [.str (st [90, 88]), .str (st [88, 73]), .str (st [73, 88]), .str (st [88, 90])] := by rw [im_H]; rfl
  have wok : ∀ x ∈ imF 2 [.h 0, .pr 1 0 1], okL x.2 := fun x hx => by
    rw [im_H] at hx
    have h : ∀ x ∈ [((1 : Int), [90, 88]), (1, [88, 73]), (1, [73, 88]), (1, [88, 90])], 1 ≤ x.2.length ∧ x.2.length ≤ 4 ∧ ∀ c ∈ x.2, c ∈ IXYZ := by decide
    exact ⟨(h x hx).1, (h x hx).2.1, (h x hx).2.2⟩
  have bok : ∀ x ∈ begF (lsM k m), okL x.1 := fun x hx => (beg_ok hP.ok).1 x hx |>.ok
  have hjl : (((lsM k m).map lt).map st |>.map (·.length)).sum + (((lsM k m).map lt).map st).length * (Str.ofString "/").length ≤ 16777216 := by
    have h1 := sum_len ((lsM k m).map lt) 81 (fun v hv => by
      obtain ⟨l, hl, rfl⟩ := List.mem_map.mp hv
      exact lt_len (hP.ok.ok l hl))
    rw [List.length_map, show (Str.ofString "/").length = 1 from rfl]
    have : ((lsM k m).map lt).length = 4 := rfl
    rw [this] at h1 ⊢
    omega
  have el : D.lst [.str (st ([116, 117, 114, 110, 32, 90, 90, 32, 98, 121, 32, 49, 32] ++ k)), .str (st [104, 32, 48]), .str (st ([116, 117, 114, 110, 32, 90, 73, 32, 98, 121, 32, 49, 32] ++ m)), .str (st ((([116, 117, 114, 110, 32, 73, 88, 32, 98, 121, 32, 50, 32] ++ m) ++ [32, 45, 49, 32]) ++ k))] = .lst ((((lsM k m).map lt).map st).map D.str) := by
    simp [lsM, TL.joinL, lt, lw, sgL, Cq.mt, wTurn, wBy]
  have ela : (([[], [0], [0]] : List (List Nat)).length) = 3 := rfl
  refine ⟨_, dss_cons d0 (cn (dss_cons (ds_for g (di_lst g (de_call g cr (da_cons (de_var 1) (da_cons (de_var 2) da_nil)) ⟨k, m, hk8, hm8, rfl, rfl, rfl⟩)) (dg_tup (dgs_cons (dg_name 3 g.nd) (dgs_cons (dg_name 4 g.nd) dgs_nil)) g.hK g.calm) hlo) (cn
    (dss_skip (dt_cmp (de_of (d' := .lst [.str (st [90, 88]), .str (st [88, 73]), .str (st [73, 88]), .str (st [88, 90])]) (de_lc g [("word", 8)] (di_tup g (de_ix (de_call g cp (da_cons (de_call g cm (da_cons (de_strL (tx47 [.h 0, .pr 1 0 1])) da_nil) ⟨_, ok_H, rfl, rfl, rfl⟩) da_nil) ⟨2, 0, 0, [.h 0, .pr 1 0 1], [], [], ok_H, by decide, by decide +kernel, by decide +kernel, rfl, rfl, rfl⟩) de_int (i_tup (i := 1) g rfl))) (fun s H C cl fp => dg_name 8 g.nd) (of_maps (gd := wdV C) (fy := fun x => .str (sgn x.2 x.1)) fun x hx => ⟨_, rfl, fun s H C' cl fp N' hK g' => de_prop g' ctx (de_var 8) ⟨x.2, x.1, wok x hx, rfl, rfl, rfl⟩⟩) (ok := blkOk_by (by rfl)) (hds := by rw [List.length_map, im_H]; exact sz' (by decide))) (congrArg D.lst e4)) (de_lst (dp_cons (de_strL [90, 88]) (dp_cons (de_strL [88, 73]) (dp_cons (de_strL [73, 88]) (dp_cons (de_strL [88, 90]) dp_nil))))) (o_neSelf g (by decide +kernel)))
    (dss_cons (ds_set 5 (de_of (d' := .lst ((((lsM k m).map lt).map st).map D.str)) (de_lst (dp_cons (de_catS (A := [116, 117, 114, 110, 32, 90, 90, 32, 98, 121, 32, 49, 32]) (B := k) (de_strL _) (de_var 1) ?z1) (dp_cons (de_strL [104, 32, 48]) (dp_cons (de_catS (A := [116, 117, 114, 110, 32, 90, 73, 32, 98, 121, 32, 49, 32]) (B := m) (de_strL _) (de_var 2) ?z2) (dp_cons (de_catS (A := ([116, 117, 114, 110, 32, 73, 88, 32, 98, 121, 32, 50, 32] ++ m) ++ [32, 45, 49, 32]) (B := k) (de_catS (A := [116, 117, 114, 110, 32, 73, 88, 32, 98, 121, 32, 50, 32] ++ m) (B := [32, 45, 49, 32]) (de_catS (A := [116, 117, 114, 110, 32, 73, 88, 32, 98, 121, 32, 50, 32]) (B := m) (de_strL _) (de_var 2) ?z3) (de_strL _) ?z4) (de_var 1) ?z5) dp_nil))))) el) g.nd) (cn
    (dss_cons (ds_set 6 (de_call g cm (da_cons (s := .p (.str (st (tx47 (lsM k m))))) (de_of (de_bm PySem.F.plainAttrs_str PySem.F.slot_str_join PySem.F.type_str_join de_str (da_cons (de_var 5) da_nil) (m_join hjl)) (congrArg D.str (join_tx _))) da_nil) ⟨lsM k m, hP.ok, rfl, rfl, rfl⟩) g.nd) (cn
    (dss_cons (ds_setLc 7 g [("word", 8), ("form", 9)] (di_tup g (de_call g ct (da_cons (de_var 6) da_nil) ⟨2, lsM k m, hP.ok, rfl, rfl, rfl⟩)) (fun s H C cl fp => dg_tup (dgs_cons (dg_name 8 g.nd) (dgs_cons (dg_name 9 g.nd) dgs_nil)) g.hK g.calm) (of_maps (gd := fun x : Br => .tup [wdV C (x.2.1, x.1), fmD x.2.2]) (fy := fun x => .tup [.str (sgn x.1 x.2.1), fmD x.2.2]) fun x hx => ⟨_, rfl, fun s H C' cl fp N' hK g' => de_tup (dp_cons (de_prop g' ctx (de_var 8) ⟨x.1, x.2.1, bok x hx, rfl, rfl, rfl⟩) (dp_cons (de_var 9) dp_nil))⟩) (ok := blkOk_by (by rfl)) (hds := by rw [List.length_map, hP.beg]; exact sz' (by show 3 ≤ 100000; decide))) (cn
    (dss_skip (dt_cmp (de_of (d' := toldM k m) (de_var 7) (by rw [hP.beg]; rfl)) (de_of (d' := toldM k m) (de_lst (dp_cons (de_tup (dp_cons (de_strL [90, 90]) (dp_cons (de_tup (dp_cons (de_tup (dp_cons (de_var 1) (dp_cons de_int dp_nil))) dp_nil)) dp_nil))) (dp_cons (de_tup (dp_cons (de_strL [88, 73]) (dp_cons (de_tup (dp_cons (de_tup (dp_cons (de_var 2) (dp_cons de_int dp_nil))) dp_nil)) dp_nil))) (dp_cons (de_tup (dp_cons (de_strL [73, 88]) (dp_cons (de_tup (dp_cons (de_tup (dp_cons (de_var 1) (dp_cons (de_un de_int u_neg) dp_nil))) (dp_cons (de_tup (dp_cons (de_var 2) (dp_cons de_int dp_nil))) dp_nil))) dp_nil))) dp_nil)))) rfl) (o_neSelf g hP.go))
    (dss_skip (dt_w (dw_or (k := false) (k' := false) (dt_cmp (de_of (d' := .tup ([[0], [1, 2]].map nsT)) (de_ix (de_call g cl (da_cons (de_var 6) da_nil) ⟨2, lsM k m, [0, 1], hP.ok, by rw [eah]; decide +kernel, rfl, rfl, rfl⟩) de_int (i_tup (i := 0) g rfl)) (by rw [eah]; exact congrArg D.tup (congrArg (List.map nsT) (by decide +kernel)))) (de_tup (dp_cons (de_tup (dp_cons de_int dp_nil)) (dp_cons (de_tup (dp_cons de_int (dp_cons de_int dp_nil))) dp_nil))) (o_neSelf g (by decide +kernel))) (fun _ => dw_or (k := false) (k' := false) (dt_cmp (de_of (d' := nsT [0, 1]) (de_ix (de_call g cl (da_cons (de_var 6) da_nil) ⟨2, lsM k m, [0, 1], hP.ok, by rw [eah]; decide +kernel, rfl, rfl, rfl⟩) de_int (i_tup (i := 1) g rfl)) rfl) (de_of (d' := .tup [nsT [0, 1], nsT [0, 2]]) (de_tup (dp_cons (de_tup (dp_cons de_int (dp_cons de_int dp_nil))) (dp_cons (de_tup (dp_cons de_int (dp_cons de_int dp_nil))) dp_nil))) rfl) (o_notInDT (q := true) g (by decide +kernel) (by decide +kernel) (by decide +kernel))) (fun _ => dw_or1 (dt_of (dt_cmp (de_of (d' := .int 3) (de_ix (de_call g cpk (da_cons (de_var 6) (da_cons de_int da_nil)) ⟨2, 1, 5, lsM k m, [[0], [1], [2]], hP.ok, by decide, by decide, by rw [eah]; decide +kernel, rfl, rfl, rfl⟩) de_int (i_tup (i := 0) g rfl)) rfl) de_int o_neI) rfl)))))
    (dss_ret (de_and (k := true) (k' := true) (de_cmp (de_of (d' := .tup [.tup [], .tup []]) (de_call g cl (da_cons (de_call g cm (da_cons (de_strL (tx47 [.h 0])) da_nil) ⟨_, ok_h, rfl, rfl, rfl⟩) da_nil) ⟨2, [.h 0], [], ok_h, by decide +kernel, rfl, rfl, rfl⟩) (by rfl)) (de_tup (dp_cons (de_tup dp_nil) (dp_cons (de_tup dp_nil) dp_nil))) (o_eqSelf g (by decide +kernel))) (fun _ => de_one (de_cmp (de_of (d' := .tup [.int 0, .tup []]) (de_call g cpk (da_cons (de_call g cm (da_cons (de_strL (tx47 [])) da_nil) ⟨_, ok_0, rfl, rfl, rfl⟩) (da_cons de_int da_nil)) ⟨2, 3, 0, [], [], ok_0, by decide, by decide, by decide +kernel, rfl, rfl, rfl⟩) (by rfl)) (de_tup (dp_cons de_int (dp_cons (de_tup dp_nil) dp_nil))) (o_eqSelf g (by decide +kernel)))))))))))))))))), .rt⟩
  all_goals (simp only [List.length_append, List.length_cons, List.length_nil]; omega)
end
end K58
set_option Elab.async false
set_option linter.all false
set_option maxRecDepth 100000
set_option maxHeartbeats 4000000
set_option autoImplicit false
namespace K58
open PySem PySem.Spec PyProof.Rows L2 Dl Cq
section
variable {X : Cx} {N : En} {W : WX} {δ : List (Option S)} {elt : Expr} {scope : Scope} {f : As} {nn : Nat} {K : PySem.W.Frag}
theorem of_grow {α : Type} {gd : α → D} {y : α → D} {nx : α → List M → List M} : ∀ (l : List α) (μ : List M), (∀ a ∈ l, ∀ μ, ∃ δt, f (gd a) δ = some δt ∧ DEB X K nn scope elt δt μ (y a) (nx a μ)) → CmpL (El0 X K nn scope elt) f δ (l.map gd) μ (l.map y) (l.foldl (fun μ a => nx a μ) μ)
  | [], _, _ => .nil
  | a :: l, μ, h => by
    obtain ⟨δt, h2, h3⟩ := h a List.mem_cons_self μ
    exact .keep h2 ⟨_, rfl, h3⟩ (of_grow l _ fun b hb => h b (List.mem_cons_of_mem _ hb))
end
def growF (ns : List Int) (i : Nat) (μ : List M) : List M := (μ ++ [(potF ns i).m]).set μ.length (rtP (potF ns i)).m
def rLaw : Rel := fun ss μ r μ' => ∃ (ns : List Int), ss = [.p (.sc ns)] ∧ r = .v (.p (.bl true)) ∧ μ' = μ
theorem grow_take (ns : List Int) : ∀ (l : List Nat) (μ : List M) (n : Nat), n ≤ μ.length → (l.foldl (fun μ a => growF ns a μ) μ).take n = μ.take n
  | [], _, _, _ => rfl
  | a :: l, μ, n, h => by
    have e : growF ns a μ = μ ++ [(rtP (potF ns a)).m] := by
      unfold growF
      rw [List.set_append_right _ _ (Nat.le_refl _)]
      simp
    rw [List.foldl_cons, grow_take ns l _ n (by rw [e]; simp; omega), e, List.take_append_of_le_length h]
theorem cells_le (ns : List Int) : cellsN ns ≤ 6 := by unfold cellsN; omega
section
variable {P : Program} {w : World} {K : PySem.W.Frag} {mg : Str → Option Value} {base : Heap} {f C : Addr} {fd : FuncData}
theorem ok_law (F : Fun K "law" "law" sLaw f fd) (T : TM mg) (cc : Cf P w K mg base 1 "_law_cells" [] rCells) (cp : Cf P w K mg base 1 "_law_pot" [] rPot) (cr : Cf P w K mg base 10 "_law_right" [] rRight) : FnOk P w K mg base (L2.CX P w) 11 f fd ["script"] (spD K rLaw) := by
  refine fn_D (k := 10) F scLaw (fun ss μ r μ' h => by obtain ⟨ns, rfl, _⟩ := h; rfl) ?_
  intro cdv A0 outer s0 H E N W ss μ r μ' g hA hR
  obtain ⟨ns, rfl, rfl, rfl⟩ := hR
  have hc := cells_le ns
  have at1 : ∀ (μ : List M) (m : M), (μ ++ [m])[μ.length]? = some m := fun μ m => by rw [List.getElem?_append_right (Nat.le_refl _), Nat.sub_self]; rfl
  refine ⟨_, dss_ret (de_of (d' := .bl true) (de_callB (id := "all") (da_cons (de_lc g [("place", 1)] (di_of (di_lst g (de_call g cc (da_cons (de_var 0) (da_cons de_int da_nil)) ⟨ns, rfl, rfl, rfl⟩)) (rng_in _)) (fun s H C cl fp => dg_name 1 g.nd)
    (of_grow (gd := inD) (y := fun _ => .bl true) (nx := growF ns) (List.range (cellsN ns)) μ' fun i hi μ => ⟨_, rfl, fun s H C' cl fp N' hK g' => de_call g' cr (da_cons (de_call g' cp (da_cons (de_var 0) (da_cons (de_var 1) da_nil)) ⟨ns, i, by have := List.mem_range.mp hi; omega, rfl, rfl, rfl⟩) da_nil) ⟨μ.length, potF ns i, (potF_ok ns i).mono (Nat.zero_le _), rfl, at1 μ _, rfl, rfl⟩⟩)
    (ok := blkOk_by (by rfl)) (hds := ?_)) da_nil) (c_allm (q := fun _ => true) g) T.all (by decide +kernel)) (congrArg D.bl ?_)), ?_⟩
  · show (List.map _ (List.range (cellsN ns))).length < _
    rw [List.length_map, List.length_range]
    exact sz' (by omega)
  · simp
  · have e := grow_take ns (List.range (cellsN ns)) μ' μ'.length (Nat.le_refl _)
    rw [List.take_length] at e
    conv => rhs; rw [← e]
    exact .rtT (Nat.le_refl _)
end
end K58
set_option Elab.async false
set_option linter.all false
set_option maxRecDepth 100000
set_option maxHeartbeats 8000000
set_option autoImplicit false
namespace K58
open PySem PySem.Spec PyProof.Rows L2 Dl Cq
/-- the law's own promise, without tables -/
theorem spD_lawN {K : PySem.W.Frag} {R : Rel} {H : Hp} {a : Addr} {ns : List Int} (hS : SqL K H a (ns.map V.int)) (hR : R [.p (.sc ns)] [] (.v (.p (.bl true))) []) : spD K R [.ref a] H (fun v _ => v = .bl true) (fun _ _ _ => False) := by
  have hne : SqL K (fun b => if b = a then H b else none) a (ns.map V.int) := by
    rcases hS with (h | ⟨o, h⟩) | h
    · exact .inl (.inl ((if_pos rfl).trans h))
    · exact .inl (.inr ⟨o, (if_pos rfl).trans h⟩)
    · exact .inr h
  refine ⟨fun b => if b = a then H b else none, [], [.p (.sc ns)], [], .v (.p (.bl true)), [], hR,
    { sub := fun b o e => ?_, base := Same.refl _, new := fun b o e => .inl ⟨o, e⟩, keep := fun _ _ e _ => e, pre := ⟨[], rfl, fun _ h => by cases h⟩, nd := List.nodup_nil, len := rfl, mus := fun j b m h1 => by simp at h1, fr := fun j b m h1 => by simp at h1 },
    .cons (.sc hne) .nil, fun v F' A' H' _ rv => ?_⟩
  · by_cases hb : b = a
    · exact (if_pos hb).symm.trans e
    · cases (if_neg hb).symm.trans e
  · have rv' : Rep K F' v (.bl true) := rv
    cases rv'
    rfl
theorem all_mk {l : PySem.W.OpenLaw} {w : World} {K : PySem.W.Frag} {h : Heap} {mg : Str → Option Value} {fa C CC   fd0 fd1 fd2 fd3 fd4 fd5 fd6 fd7 fd8 fd9 fd10 fd11 fd12 fd13 fd14 fd15 fd16 fd17 fd18 fd19 fd20 fd21 fd22 fd23 fd24 fd25 fd26 fd27 fd28 fd29 fd30 fd31 fd32 fd33 fd34 fd35 fd36 fd37 fd38 fd39 fd40 fd41 fd42 fd43 fd44 fd45 fd46 fd47 fd48 fd49 fd50 fd51 fm0 fm1 fp0 pap0 aS aT qa ta ha za xa aW aA aP : Addr} (X : K.In h) (G : h.Ns mainGlobals mg) (hfa : mg "law" = some (.ref fa))
    {odd0 and0 odd1 and1 odd2 and2 odd3 and3 odd4 and4 odd5 and5 odd6 and6 odd7 and7 odd8 and8 odd9 and9 odd10 and10 odd11 and11 odd12 and12 odd13 and13 odd14 and14 odd15 and15 odd16 and16 odd17 and17 odd18 and18 odd19 and19 odd20 and20 odd21 and21 odd22 and22 odd23 and23 odd24 and24 odd25 and25 odd26 and26 odd27 and27 odd28 and28 odd29 and29 odd30 and30 odd31 and31 odd32 and32 odd33 and33 odd34 and34 odd35 and35 odd36 and36 odd37 and37 odd38 and38 odd39 and39 odd40 and40 odd41 and41 odd42 and42 odd43 and43 odd44 and44 odd45 and45 odd46 and46 odd47 and47 odd48 and48 odd49 and49 odd50 and50 odd51 and51 odm0 anm0 odm1 anm1 odp0 anp0 odaW odaA odaP : Option Addr} {sld0 sld1 sld2 sld3 sld4 sld5 sld6 sld7 sld8 sld9 sld10 sld11 sld12 sld13 sld14 sld15 sld16 sld17 sld18 sld19 sld20 sld21 sld22 sld23 sld24 sld25 sld26 sld27 sld28 sld29 sld30 sld31 sld32 sld33 sld34 sld35 sld36 sld37 sld38 sld39 sld40 sld41 sld42 sld43 sld44 sld45 sld46 sld47 sld48 sld49 sld50 sld51 slm0 slm1 slp0 slaW slaA slaP : Array (Option Value)} {ocd0 kVd0 dcd0 pmd0 cdd0 ctd0 ocd1 kVd1 dcd1 pmd1 cdd1 ctd1 ocd2 kVd2 dcd2 pmd2 cdd2 ctd2 ocd3 kVd3 dcd3 pmd3 cdd3 ctd3 ocd4 kVd4 dcd4 pmd4 cdd4 ctd4 ocd5 kVd5 dcd5 pmd5 cdd5 ctd5 ocd6 kVd6 dcd6 pmd6 cdd6 ctd6 ocd7 kVd7 dcd7 pmd7 cdd7 ctd7 ocd8 kVd8 dcd8 pmd8 cdd8 ctd8 ocd9 kVd9 dcd9 pmd9 cdd9 ctd9 ocd10 kVd10 dcd10 pmd10 cdd10 ctd10 ocd11 kVd11 dcd11 pmd11 cdd11 ctd11 ocd12 kVd12 dcd12 pmd12 cdd12 ctd12 ocd13 kVd13 dcd13 pmd13 cdd13 ctd13 ocd14 kVd14 dcd14 pmd14 cdd14 ctd14 ocd15 kVd15 dcd15 pmd15 cdd15 ctd15 ocd16 kVd16 dcd16 pmd16 cdd16 ctd16 ocd17 kVd17 dcd17 pmd17 cdd17 ctd17 ocd18 kVd18 dcd18 pmd18 cdd18 ctd18 ocd19 kVd19 dcd19 pmd19 cdd19 ctd19 ocd20 kVd20 dcd20 pmd20 cdd20 ctd20 ocd21 kVd21 dcd21 pmd21 cdd21 ctd21 ocd22 kVd22 dcd22 pmd22 cdd22 ctd22 ocd23 kVd23 dcd23 pmd23 cdd23 ctd23 ocd24 kVd24 dcd24 pmd24 cdd24 ctd24 ocd25 kVd25 dcd25 pmd25 cdd25 ctd25 ocd26 kVd26 dcd26 pmd26 cdd26 ctd26 ocd27 kVd27 dcd27 pmd27 cdd27 ctd27 ocd28 kVd28 dcd28 pmd28 cdd28 ctd28 ocd29 kVd29 dcd29 pmd29 cdd29 ctd29 ocd30 kVd30 dcd30 pmd30 cdd30 ctd30 ocd31 kVd31 dcd31 pmd31 cdd31 ctd31 ocd32 kVd32 dcd32 pmd32 cdd32 ctd32 ocd33 kVd33 dcd33 pmd33 cdd33 ctd33 ocd34 kVd34 dcd34 pmd34 cdd34 ctd34 ocd35 kVd35 dcd35 pmd35 cdd35 ctd35 ocd36 kVd36 dcd36 pmd36 cdd36 ctd36 ocd37 kVd37 dcd37 pmd37 cdd37 ctd37 ocd38 kVd38 dcd38 pmd38 cdd38 ctd38 ocd39 kVd39 dcd39 pmd39 cdd39 ctd39 ocd40 kVd40 dcd40 pmd40 cdd40 ctd40 ocd41 kVd41 dcd41 pmd41 cdd41 ctd41 ocd42 kVd42 dcd42 pmd42 cdd42 ctd42 ocd43 kVd43 dcd43 pmd43 cdd43 ctd43 ocd44 kVd44 dcd44 pmd44 cdd44 ctd44 ocd45 kVd45 dcd45 pmd45 cdd45 ctd45 ocd46 kVd46 dcd46 pmd46 cdd46 ctd46 ocd47 kVd47 dcd47 pmd47 cdd47 ctd47 ocd48 kVd48 dcd48 pmd48 cdd48 ctd48 ocd49 kVd49 dcd49 pmd49 cdd49 ctd49 ocd50 kVd50 dcd50 pmd50 cdd50 ctd50 ocd51 kVd51 dcd51 pmd51 cdd51 ctd51 ocm0 kVm0 dcm0 pmm0 cdm0 ctm0 ocm1 kVm1 dcm1 pmm1 cdm1 ctm1 ocp0 kVp0 dcp0 pmp0 cdp0 ctp0 : Value} {ulets umost unml ulnm umln umtn umkn umil uS1 uS2 uS3 uS4 uT1 uT2 uT3 uT4 uTm1 uTm2 uTm3 uTm4 xaW0 xaW1 xaW2 xaW3 xaA0 xaA1 xaP0 xaP1 xaP2 uqXY vtXY uqXZ vtXZ uqYX vtYX uqYZ vtYZ uqZX vtZX uqZY vtZY ohI ohX ohY ohZ oczII oczIX oczIY oczIZ oczXI oczXX oczXY oczXZ oczYI oczYX oczYY oczYZ oczZI oczZX oczZY oczZZ ocxII ocxIX ocxIY ocxIZ ocxXI ocxXX ocxXY ocxXZ ocxYI ocxYX ocxYY ocxYZ ocxZI ocxZX ocxZY ocxZZ : Tok} {rsp0 : List Value} {esaS esaT esqa esta esha esza esxa : Array DictEntry} {naS naT nqa nta nha nza nxa naW naA naP : Nat}  
    (ad0 : PySem.W.nsIn K mainGlobals "are_letters" = some (some (.ref fd0)))
    (ld0 : K.lookup fd0 = some ⟨ocd0, odd0, .func (PySem.W.fnOf "are_letters" "are_letters" (defArgs sAre) (defBody sAre) (defScope sAre) .none kVd0 dcd0 pmd0 and0 cdd0 ctd0), sld0⟩)
    (cd0 : PySem.W.codeIn K cdd0 "are_letters" = true)
    (kd0 : PySem.W.keepIn K (.ref fd0) = true)
    (ad1 : PySem.W.nsIn K mainGlobals "signed_text" = some (some (.ref fd1)))
    (ld1 : K.lookup fd1 = some ⟨ocd1, odd1, .func (PySem.W.fnOf "signed_text" "signed_text" (defArgs sSigned) (defBody sSigned) (defScope sSigned) .none kVd1 dcd1 pmd1 and1 cdd1 ctd1), sld1⟩)
    (cd1 : PySem.W.codeIn K cdd1 "signed_text" = true)
    (kd1 : PySem.W.keepIn K (.ref fd1) = true)
    (ad2 : PySem.W.nsIn K mainGlobals "quarters" = some (some (.ref fd2)))
    (ld2 : K.lookup fd2 = some ⟨ocd2, odd2, .func (PySem.W.fnOf "quarters" "quarters" (defArgs sQuarters) (defBody sQuarters) (defScope sQuarters) .none kVd2 dcd2 pmd2 and2 cdd2 ctd2), sld2⟩)
    (cd2 : PySem.W.codeIn K cdd2 "quarters" = true)
    (kd2 : PySem.W.keepIn K (.ref fd2) = true)
    (ad3 : PySem.W.nsIn K mainGlobals "_made_letter" = some (some (.ref fd3)))
    (ld3 : K.lookup fd3 = some ⟨ocd3, odd3, .func (PySem.W.fnOf "_made_letter" "_made_letter" (defArgs sLetter) (defBody sLetter) (defScope sLetter) .none kVd3 dcd3 pmd3 and3 cdd3 ctd3), sld3⟩)
    (cd3 : PySem.W.codeIn K cdd3 "_made_letter" = true)
    (kd3 : PySem.W.keepIn K (.ref fd3) = true)
    (ad4 : PySem.W.nsIn K mainGlobals "made_letters" = some (some (.ref fd4)))
    (ld4 : K.lookup fd4 = some ⟨ocd4, odd4, .func (PySem.W.fnOf "made_letters" "made_letters" (defArgs sMade) (defBody sMade) (defScope sMade) .none kVd4 dcd4 pmd4 and4 cdd4 ctd4), sld4⟩)
    (cd4 : PySem.W.codeIn K cdd4 "made_letters" = true)
    (kd4 : PySem.W.keepIn K (.ref fd4) = true)
    (ad5 : PySem.W.nsIn K mainGlobals "is_whole" = some (some (.ref fd5)))
    (ld5 : K.lookup fd5 = some ⟨ocd5, odd5, .func (PySem.W.fnOf "is_whole" "is_whole" (defArgs K58F.sIsWhole) (defBody K58F.sIsWhole) (defScope K58F.sIsWhole) .none kVd5 dcd5 pmd5 and5 cdd5 ctd5), sld5⟩)
    (cd5 : PySem.W.codeIn K cdd5 "is_whole" = true)
    (kd5 : PySem.W.keepIn K (.ref fd5) = true)
    (ad6 : PySem.W.nsIn K mainGlobals "is_name" = some (some (.ref fd6)))
    (ld6 : K.lookup fd6 = some ⟨ocd6, odd6, .func (PySem.W.fnOf "is_name" "is_name" (defArgs K58F.sName) (defBody K58F.sName) (defScope K58F.sName) .none kVd6 dcd6 pmd6 and6 cdd6 ctd6), sld6⟩)
    (cd6 : PySem.W.codeIn K cdd6 "is_name" = true)
    (kd6 : PySem.W.keepIn K (.ref fd6) = true)
    (ad7 : PySem.W.nsIn K mainGlobals "_merged" = some (some (.ref fd7)))
    (ld7 : K.lookup fd7 = some ⟨ocd7, odd7, .func (PySem.W.fnOf "_merged" "_merged" (defArgs K58F.sMerged) (defBody K58F.sMerged) (defScope K58F.sMerged) .none kVd7 dcd7 pmd7 and7 cdd7 ctd7), sld7⟩)
    (cd7 : PySem.W.codeIn K cdd7 "_merged" = true)
    (kd7 : PySem.W.keepIn K (.ref fd7) = true)
    (ad8 : PySem.W.nsIn K mainGlobals "ascending" = some (some (.ref fd8)))
    (ld8 : K.lookup fd8 = some ⟨ocd8, odd8, .func (PySem.W.fnOf "ascending" "ascending" (defArgs K58F.sAsc) (defBody K58F.sAsc) (defScope K58F.sAsc) .none kVd8 dcd8 pmd8 and8 cdd8 ctd8), sld8⟩)
    (cd8 : PySem.W.codeIn K cdd8 "ascending" = true)
    (kd8 : PySem.W.keepIn K (.ref fd8) = true)
    (ad9 : PySem.W.nsIn K mainGlobals "_is_about" = some (some (.ref fd9)))
    (ld9 : K.lookup fd9 = some ⟨ocd9, odd9, .func (PySem.W.fnOf "_is_about" "_is_about" (defArgs K58F.sIsAbout) (defBody K58F.sIsAbout) (defScope K58F.sIsAbout) .none kVd9 dcd9 pmd9 and9 cdd9 ctd9), sld9⟩)
    (cd9 : PySem.W.codeIn K cdd9 "_is_about" = true)
    (kd9 : PySem.W.keepIn K (.ref fd9) = true)
    (ad10 : PySem.W.nsIn K mainGlobals "_are_wires" = some (some (.ref fd10)))
    (ld10 : K.lookup fd10 = some ⟨ocd10, odd10, .func (PySem.W.fnOf "_are_wires" "_are_wires" (defArgs K58F.sWires) (defBody K58F.sWires) (defScope K58F.sWires) .none kVd10 dcd10 pmd10 and10 cdd10 ctd10), sld10⟩)
    (cd10 : PySem.W.codeIn K cdd10 "_are_wires" = true)
    (kd10 : PySem.W.keepIn K (.ref fd10) = true)
    (ad11 : PySem.W.nsIn K mainGlobals "is_turn" = some (some (.ref fd11)))
    (ld11 : K.lookup fd11 = some ⟨ocd11, odd11, .func (PySem.W.fnOf "is_turn" "is_turn" (defArgs K58F.sIsTurn) (defBody K58F.sIsTurn) (defScope K58F.sIsTurn) .none kVd11 dcd11 pmd11 and11 cdd11 ctd11), sld11⟩)
    (cd11 : PySem.W.codeIn K cdd11 "is_turn" = true)
    (kd11 : PySem.W.keepIn K (.ref fd11) = true)
    (ad12 : PySem.W.nsIn K mainGlobals "_read_about" = some (some (.ref fd12)))
    (ld12 : K.lookup fd12 = some ⟨ocd12, odd12, .func (PySem.W.fnOf "_read_about" "_read_about" (defArgs K58F.sAbout) (defBody K58F.sAbout) (defScope K58F.sAbout) .none kVd12 dcd12 pmd12 and12 cdd12 ctd12), sld12⟩)
    (cd12 : PySem.W.codeIn K cdd12 "_read_about" = true)
    (kd12 : PySem.W.keepIn K (.ref fd12) = true)
    (ad13 : PySem.W.nsIn K mainGlobals "_read_turn" = some (some (.ref fd13)))
    (ld13 : K.lookup fd13 = some ⟨ocd13, odd13, .func (PySem.W.fnOf "_read_turn" "_read_turn" (defArgs K58F.sTurn) (defBody K58F.sTurn) (defScope K58F.sTurn) .none kVd13 dcd13 pmd13 and13 cdd13 ctd13), sld13⟩)
    (cd13 : PySem.W.codeIn K cdd13 "_read_turn" = true)
    (kd13 : PySem.W.keepIn K (.ref fd13) = true)
    (ad14 : PySem.W.nsIn K mainGlobals "read_line" = some (some (.ref fd14)))
    (ld14 : K.lookup fd14 = some ⟨ocd14, odd14, .func (PySem.W.fnOf "read_line" "read_line" (defArgs K58F.sReadL) (defBody K58F.sReadL) (defScope K58F.sReadL) .none kVd14 dcd14 pmd14 and14 cdd14 ctd14), sld14⟩)
    (cd14 : PySem.W.codeIn K cdd14 "read_line" = true)
    (kd14 : PySem.W.keepIn K (.ref fd14) = true)
    (ad15 : PySem.W.nsIn K mainGlobals "read_circuit" = some (some (.ref fd15)))
    (ld15 : K.lookup fd15 = some ⟨ocd15, odd15, .func (PySem.W.fnOf "read_circuit" "read_circuit" (defArgs K58F.sReadC) (defBody K58F.sReadC) (defScope K58F.sReadC) .none kVd15 dcd15 pmd15 and15 cdd15 ctd15), sld15⟩)
    (cd15 : PySem.W.codeIn K cdd15 "read_circuit" = true)
    (kd15 : PySem.W.keepIn K (.ref fd15) = true)
    (ad16 : PySem.W.nsIn K mainGlobals "pass_by" = some (some (.ref fd16)))
    (ld16 : K.lookup fd16 = some ⟨ocd16, odd16, .func (PySem.W.fnOf "pass_by" "pass_by" (defArgs sPassBy) (defBody sPassBy) (defScope sPassBy) .none kVd16 dcd16 pmd16 and16 cdd16 ctd16), sld16⟩)
    (cd16 : PySem.W.codeIn K cdd16 "pass_by" = true)
    (kd16 : PySem.W.keepIn K (.ref fd16) = true)
    (ad17 : PySem.W.nsIn K mainGlobals "bent" = some (some (.ref fd17)))
    (ld17 : K.lookup fd17 = some ⟨ocd17, odd17, .func (PySem.W.fnOf "bent" "bent" (defArgs sBentF) (defBody sBentF) (defScope sBentF) .none kVd17 dcd17 pmd17 and17 cdd17 ctd17), sld17⟩)
    (cd17 : PySem.W.codeIn K cdd17 "bent" = true)
    (kd17 : PySem.W.keepIn K (.ref fd17) = true)
    (ad18 : PySem.W.nsIn K mainGlobals "_exchanged" = some (some (.ref fd18)))
    (ld18 : K.lookup fd18 = some ⟨ocd18, odd18, .func (PySem.W.fnOf "_exchanged" "_exchanged" (defArgs sExch) (defBody sExch) (defScope sExch) .none kVd18 dcd18 pmd18 and18 cdd18 ctd18), sld18⟩)
    (cd18 : PySem.W.codeIn K cdd18 "_exchanged" = true)
    (kd18 : PySem.W.keepIn K (.ref fd18) = true)
    (ad19 : PySem.W.nsIn K mainGlobals "_through_about" = some (some (.ref fd19)))
    (ld19 : K.lookup fd19 = some ⟨ocd19, odd19, .func (PySem.W.fnOf "_through_about" "_through_about" (defArgs sThrAbout) (defBody sThrAbout) (defScope sThrAbout) .none kVd19 dcd19 pmd19 and19 cdd19 ctd19), sld19⟩)
    (cd19 : PySem.W.codeIn K cdd19 "_through_about" = true)
    (kd19 : PySem.W.keepIn K (.ref fd19) = true)
    (ad20 : PySem.W.nsIn K mainGlobals "_through_one" = some (some (.ref fd20)))
    (ld20 : K.lookup fd20 = some ⟨ocd20, odd20, .func (PySem.W.fnOf "_through_one" "_through_one" (defArgs sThrOne) (defBody sThrOne) (defScope sThrOne) .none kVd20 dcd20 pmd20 and20 cdd20 ctd20), sld20⟩)
    (cd20 : PySem.W.codeIn K cdd20 "_through_one" = true)
    (kd20 : PySem.W.keepIn K (.ref fd20) = true)
    (ad21 : PySem.W.nsIn K mainGlobals "led_through" = some (some (.ref fd21)))
    (ld21 : K.lookup fd21 = some ⟨ocd21, odd21, .func (PySem.W.fnOf "led_through" "led_through" (defArgs sLedThr) (defBody sLedThr) (defScope sLedThr) .none kVd21 dcd21 pmd21 and21 cdd21 ctd21), sld21⟩)
    (cd21 : PySem.W.codeIn K cdd21 "led_through" = true)
    (kd21 : PySem.W.keepIn K (.ref fd21) = true)
    (ad22 : PySem.W.nsIn K mainGlobals "lone_letter" = some (some (.ref fd22)))
    (ld22 : K.lookup fd22 = some ⟨ocd22, odd22, .func (PySem.W.fnOf "lone_letter" "lone_letter" (defArgs sLone) (defBody sLone) (defScope sLone) .none kVd22 dcd22 pmd22 and22 cdd22 ctd22), sld22⟩)
    (cd22 : PySem.W.codeIn K cdd22 "lone_letter" = true)
    (kd22 : PySem.W.keepIn K (.ref fd22) = true)
    (ad23 : PySem.W.nsIn K mainGlobals "first_words" = some (some (.ref fd23)))
    (ld23 : K.lookup fd23 = some ⟨ocd23, odd23, .func (PySem.W.fnOf "first_words" "first_words" (defArgs sFirstWords) (defBody sFirstWords) (defScope sFirstWords) .none kVd23 dcd23 pmd23 and23 cdd23 ctd23), sld23⟩)
    (cd23 : PySem.W.codeIn K cdd23 "first_words" = true)
    (kd23 : PySem.W.keepIn K (.ref fd23) = true)
    (ad24 : PySem.W.nsIn K mainGlobals "fixed_steps" = some (some (.ref fd24)))
    (ld24 : K.lookup fd24 = some ⟨ocd24, odd24, .func (PySem.W.fnOf "fixed_steps" "fixed_steps" (defArgs sFixSteps) (defBody sFixSteps) (defScope sFixSteps) .none kVd24 dcd24 pmd24 and24 cdd24 ctd24), sld24⟩)
    (cd24 : PySem.W.codeIn K cdd24 "fixed_steps" = true)
    (kd24 : PySem.W.keepIn K (.ref fd24) = true)
    (ad25 : PySem.W.nsIn K mainGlobals "fixed_images" = some (some (.ref fd25)))
    (ld25 : K.lookup fd25 = some ⟨ocd25, odd25, .func (PySem.W.fnOf "fixed_images" "fixed_images" (defArgs sFixImages) (defBody sFixImages) (defScope sFixImages) .none kVd25 dcd25 pmd25 and25 cdd25 ctd25), sld25⟩)
    (cd25 : PySem.W.codeIn K cdd25 "fixed_images" = true)
    (kd25 : PySem.W.keepIn K (.ref fd25) = true)
    (ad26 : PySem.W.nsIn K mainGlobals "joined" = some (some (.ref fd26)))
    (ld26 : K.lookup fd26 = some ⟨ocd26, odd26, .func (PySem.W.fnOf "joined" "joined" (defArgs sJoined) (defBody sJoined) (defScope sJoined) .none kVd26 dcd26 pmd26 and26 cdd26 ctd26), sld26⟩)
    (cd26 : PySem.W.codeIn K cdd26 "joined" = true)
    (kd26 : PySem.W.keepIn K (.ref fd26) = true)
    (ad27 : PySem.W.nsIn K mainGlobals "turned_back" = some (some (.ref fd27)))
    (ld27 : K.lookup fd27 = some ⟨ocd27, odd27, .func (PySem.W.fnOf "turned_back" "turned_back" (defArgs sTBackF) (defBody sTBackF) (defScope sTBackF) .none kVd27 dcd27 pmd27 and27 cdd27 ctd27), sld27⟩)
    (cd27 : PySem.W.codeIn K cdd27 "turned_back" = true)
    (kd27 : PySem.W.keepIn K (.ref fd27) = true)
    (ad28 : PySem.W.nsIn K mainGlobals "beginnings" = some (some (.ref fd28)))
    (ld28 : K.lookup fd28 = some ⟨ocd28, odd28, .func (PySem.W.fnOf "beginnings" "beginnings" (defArgs sBegin) (defBody sBegin) (defScope sBegin) .none kVd28 dcd28 pmd28 and28 cdd28 ctd28), sld28⟩)
    (cd28 : PySem.W.codeIn K cdd28 "beginnings" = true)
    (kd28 : PySem.W.keepIn K (.ref fd28) = true)
    (ad29 : PySem.W.nsIn K mainGlobals "turned" = some (some (.ref fd29)))
    (ld29 : K.lookup fd29 = some ⟨ocd29, odd29, .func (PySem.W.fnOf "turned" "turned" (defArgs sTurned) (defBody sTurned) (defScope sTurned) .none kVd29 dcd29 pmd29 and29 cdd29 ctd29), sld29⟩)
    (cd29 : PySem.W.codeIn K cdd29 "turned" = true)
    (kd29 : PySem.W.keepIn K (.ref fd29) = true)
    (ad30 : PySem.W.nsIn K mainGlobals "_all_ahead" = some (some (.ref fd30)))
    (ld30 : K.lookup fd30 = some ⟨ocd30, odd30, .func (PySem.W.fnOf "_all_ahead" "_all_ahead" (defArgs sAhead) (defBody sAhead) (defScope sAhead) .none kVd30 dcd30 pmd30 and30 cdd30 ctd30), sld30⟩)
    (cd30 : PySem.W.codeIn K cdd30 "_all_ahead" = true)
    (kd30 : PySem.W.keepIn K (.ref fd30) = true)
    (ad31 : PySem.W.nsIn K mainGlobals "_early_rows" = some (some (.ref fd31)))
    (ld31 : K.lookup fd31 = some ⟨ocd31, odd31, .func (PySem.W.fnOf "_early_rows" "_early_rows" (defArgs sEarly) (defBody sEarly) (defScope sEarly) .none kVd31 dcd31 pmd31 and31 cdd31 ctd31), sld31⟩)
    (cd31 : PySem.W.codeIn K cdd31 "_early_rows" = true)
    (kd31 : PySem.W.keepIn K (.ref fd31) = true)
    (ad32 : PySem.W.nsIn K mainGlobals "layers" = some (some (.ref fd32)))
    (ld32 : K.lookup fd32 = some ⟨ocd32, odd32, .func (PySem.W.fnOf "layers" "layers" (defArgs sLayers) (defBody sLayers) (defScope sLayers) .none kVd32 dcd32 pmd32 and32 cdd32 ctd32), sld32⟩)
    (cd32 : PySem.W.codeIn K cdd32 "layers" = true)
    (kd32 : PySem.W.keepIn K (.ref fd32) = true)
    (ad33 : PySem.W.nsIn K mainGlobals "_choices" = some (some (.ref fd33)))
    (ld33 : K.lookup fd33 = some ⟨ocd33, odd33, .func (PySem.W.fnOf "_choices" "_choices" (defArgs sChoices) (defBody sChoices) (defScope sChoices) .none kVd33 dcd33 pmd33 and33 cdd33 ctd33), sld33⟩)
    (cd33 : PySem.W.codeIn K cdd33 "_choices" = true)
    (kd33 : PySem.W.keepIn K (.ref fd33) = true)
    (ad34 : PySem.W.nsIn K mainGlobals "_all_done" = some (some (.ref fd34)))
    (ld34 : K.lookup fd34 = some ⟨ocd34, odd34, .func (PySem.W.fnOf "_all_done" "_all_done" (defArgs sAllDone) (defBody sAllDone) (defScope sAllDone) .none kVd34 dcd34 pmd34 and34 cdd34 ctd34), sld34⟩)
    (cd34 : PySem.W.codeIn K cdd34 "_all_done" = true)
    (kd34 : PySem.W.keepIn K (.ref fd34) = true)
    (ad35 : PySem.W.nsIn K mainGlobals "_need_number" = some (some (.ref fd35)))
    (ld35 : K.lookup fd35 = some ⟨ocd35, odd35, .func (PySem.W.fnOf "_need_number" "_need_number" (defArgs sNeedNum) (defBody sNeedNum) (defScope sNeedNum) .none kVd35 dcd35 pmd35 and35 cdd35 ctd35), sld35⟩)
    (cd35 : PySem.W.codeIn K cdd35 "_need_number" = true)
    (kd35 : PySem.W.keepIn K (.ref fd35) = true)
    (ad36 : PySem.W.nsIn K mainGlobals "_one_layer_more" = some (some (.ref fd36)))
    (ld36 : K.lookup fd36 = some ⟨ocd36, odd36, .func (PySem.W.fnOf "_one_layer_more" "_one_layer_more" (defArgs sOneMore) (defBody sOneMore) (defScope sOneMore) .none kVd36 dcd36 pmd36 and36 cdd36 ctd36), sld36⟩)
    (cd36 : PySem.W.codeIn K cdd36 "_one_layer_more" = true)
    (kd36 : PySem.W.keepIn K (.ref fd36) = true)
    (ad37 : PySem.W.nsIn K mainGlobals "packed" = some (some (.ref fd37)))
    (ld37 : K.lookup fd37 = some ⟨ocd37, odd37, .func (PySem.W.fnOf "packed" "packed" (defArgs sPacked) (defBody sPacked) (defScope sPacked) .none kVd37 dcd37 pmd37 and37 cdd37 ctd37), sld37⟩)
    (cd37 : PySem.W.codeIn K cdd37 "packed" = true)
    (kd37 : PySem.W.keepIn K (.ref fd37) = true)
    (ad38 : PySem.W.nsIn K mainGlobals "_pair" = some (some (.ref fd38)))
    (ld38 : K.lookup fd38 = some ⟨ocd38, odd38, .func (PySem.W.fnOf "_pair" "_pair" (defArgs sPair) (defBody sPair) (defScope sPair) .none kVd38 dcd38 pmd38 and38 cdd38 ctd38), sld38⟩)
    (cd38 : PySem.W.codeIn K cdd38 "_pair" = true)
    (kd38 : PySem.W.keepIn K (.ref fd38) = true)
    (ad39 : PySem.W.nsIn K mainGlobals "_put_together" = some (some (.ref fd39)))
    (ld39 : K.lookup fd39 = some ⟨ocd39, odd39, .func (PySem.W.fnOf "_put_together" "_put_together" (defArgs sPutTog) (defBody sPutTog) (defScope sPutTog) .none kVd39 dcd39 pmd39 and39 cdd39 ctd39), sld39⟩)
    (cd39 : PySem.W.codeIn K cdd39 "_put_together" = true)
    (kd39 : PySem.W.keepIn K (.ref fd39) = true)
    (ad40 : PySem.W.nsIn K mainGlobals "_first_free" = some (some (.ref fd40)))
    (ld40 : K.lookup fd40 = some ⟨ocd40, odd40, .func (PySem.W.fnOf "_first_free" "_first_free" (defArgs sFirstFree) (defBody sFirstFree) (defScope sFirstFree) .none kVd40 dcd40 pmd40 and40 cdd40 ctd40), sld40⟩)
    (cd40 : PySem.W.codeIn K cdd40 "_first_free" = true)
    (kd40 : PySem.W.keepIn K (.ref fd40) = true)
    (ad41 : PySem.W.nsIn K mainGlobals "_first_sequence" = some (some (.ref fd41)))
    (ld41 : K.lookup fd41 = some ⟨ocd41, odd41, .func (PySem.W.fnOf "_first_sequence" "_first_sequence" (defArgs sFirstSeq) (defBody sFirstSeq) (defScope sFirstSeq) .none kVd41 dcd41 pmd41 and41 cdd41 ctd41), sld41⟩)
    (cd41 : PySem.W.codeIn K cdd41 "_first_sequence" = true)
    (kd41 : PySem.W.keepIn K (.ref fd41) = true)
    (ad42 : PySem.W.nsIn K mainGlobals "plain" = some (some (.ref fd42)))
    (ld42 : K.lookup fd42 = some ⟨ocd42, odd42, .func (PySem.W.fnOf "plain" "plain" (defArgs sPlain) (defBody sPlain) (defScope sPlain) .none kVd42 dcd42 pmd42 and42 cdd42 ctd42), sld42⟩)
    (cd42 : PySem.W.codeIn K cdd42 "plain" = true)
    (kd42 : PySem.W.keepIn K (.ref fd42) = true)
    (ad43 : PySem.W.nsIn K mainGlobals "_law_pot" = some (some (.ref fd43)))
    (ld43 : K.lookup fd43 = some ⟨ocd43, odd43, .func (PySem.W.fnOf "_law_pot" "_law_pot" (defArgs sPot) (defBody sPot) (defScope sPot) .none kVd43 dcd43 pmd43 and43 cdd43 ctd43), sld43⟩)
    (cd43 : PySem.W.codeIn K cdd43 "_law_pot" = true)
    (kd43 : PySem.W.keepIn K (.ref fd43) = true)
    (ad44 : PySem.W.nsIn K mainGlobals "_law_take" = some (some (.ref fd44)))
    (ld44 : K.lookup fd44 = some ⟨ocd44, odd44, .func (PySem.W.fnOf "_law_take" "_law_take" (defArgs sTake) (defBody sTake) (defScope sTake) .none kVd44 dcd44 pmd44 and44 cdd44 ctd44), sld44⟩)
    (cd44 : PySem.W.codeIn K cdd44 "_law_take" = true)
    (kd44 : PySem.W.keepIn K (.ref fd44) = true)
    (ad45 : PySem.W.nsIn K mainGlobals "_law_some" = some (some (.ref fd45)))
    (ld45 : K.lookup fd45 = some ⟨ocd45, odd45, .func (PySem.W.fnOf "_law_some" "_law_some" (defArgs sSome) (defBody sSome) (defScope sSome) .none kVd45 dcd45 pmd45 and45 cdd45 ctd45), sld45⟩)
    (cd45 : PySem.W.codeIn K cdd45 "_law_some" = true)
    (kd45 : PySem.W.keepIn K (.ref fd45) = true)
    (ad46 : PySem.W.nsIn K mainGlobals "_law_cells" = some (some (.ref fd46)))
    (ld46 : K.lookup fd46 = some ⟨ocd46, odd46, .func (PySem.W.fnOf "_law_cells" "_law_cells" (defArgs sCells) (defBody sCells) (defScope sCells) .none kVd46 dcd46 pmd46 and46 cdd46 ctd46), sld46⟩)
    (cd46 : PySem.W.codeIn K cdd46 "_law_cells" = true)
    (kd46 : PySem.W.keepIn K (.ref fd46) = true)
    (ad47 : PySem.W.nsIn K mainGlobals "_law_knobs" = some (some (.ref fd47)))
    (ld47 : K.lookup fd47 = some ⟨ocd47, odd47, .func (PySem.W.fnOf "_law_knobs" "_law_knobs" (defArgs sKnobs) (defBody sKnobs) (defScope sKnobs) .none kVd47 dcd47 pmd47 and47 cdd47 ctd47), sld47⟩)
    (cd47 : PySem.W.codeIn K cdd47 "_law_knobs" = true)
    (kd47 : PySem.W.keepIn K (.ref fd47) = true)
    (ad48 : PySem.W.nsIn K mainGlobals "_law_rows" = some (some (.ref fd48)))
    (ld48 : K.lookup fd48 = some ⟨ocd48, odd48, .func (PySem.W.fnOf "_law_rows" "_law_rows" (defArgs sLRows) (defBody sLRows) (defScope sLRows) .none kVd48 dcd48 pmd48 and48 cdd48 ctd48), sld48⟩)
    (cd48 : PySem.W.codeIn K cdd48 "_law_rows" = true)
    (kd48 : PySem.W.keepIn K (.ref fd48) = true)
    (ad49 : PySem.W.nsIn K mainGlobals "_law_made" = some (some (.ref fd49)))
    (ld49 : K.lookup fd49 = some ⟨ocd49, odd49, .func (PySem.W.fnOf "_law_made" "_law_made" (defArgs sLMade) (defBody sLMade) (defScope sLMade) .none kVd49 dcd49 pmd49 and49 cdd49 ctd49), sld49⟩)
    (cd49 : PySem.W.codeIn K cdd49 "_law_made" = true)
    (kd49 : PySem.W.keepIn K (.ref fd49) = true)
    (ad50 : PySem.W.nsIn K mainGlobals "_law_right" = some (some (.ref fd50)))
    (ld50 : K.lookup fd50 = some ⟨ocd50, odd50, .func (PySem.W.fnOf "_law_right" "_law_right" (defArgs sRight) (defBody sRight) (defScope sRight) .none kVd50 dcd50 pmd50 and50 cdd50 ctd50), sld50⟩)
    (cd50 : PySem.W.codeIn K cdd50 "_law_right" = true)
    (kd50 : PySem.W.keepIn K (.ref fd50) = true)
    (ad51 : PySem.W.nsIn K mainGlobals "law" = some (some (.ref fd51)))
    (ld51 : K.lookup fd51 = some ⟨ocd51, odd51, .func (PySem.W.fnOf "law" "law" (defArgs sLaw) (defBody sLaw) (defScope sLaw) .none kVd51 dcd51 pmd51 and51 cdd51 ctd51), sld51⟩)
    (cd51 : PySem.W.codeIn K cdd51 "law" = true)
    (kd51 : PySem.W.keepIn K (.ref fd51) = true)
    (hn : PySem.W.specialIn K (.builtin "object.__class__") "__get__" = some (some (.builtin "getset_descriptor.__get__")))
    (ht : PySem.W.takesIn K (.builtin "object.__class__") = some true)
    (aC : PySem.W.nsIn K mainGlobals "Word" = some (some (.ref C)))
    (pgC : PySem.W.plainGet K C Str.empty = true)
    (hdC : PySem.W.hasDictIn K C = true)
    (poC : PySem.W.plainOver K C = true)
    (saC : PySem.W.findIn K (.ref C) "__setattr__" = some (some (.builtin "object.__setattr__")))
    (mkC : PySem.W.makesIn K C = true)
    (kC : PySem.W.keepIn K (.ref C) = true)
    (haC : PySem.W.findIn K (.ref C) "__class__" = some (some (.builtin "object.__class__")))
    (hmC : PySem.W.mroIn K C (.type "object") = some true)
    (nC0 : PySem.W.findIn K (.ref C) "letters" = some none)
    (nC1 : PySem.W.findIn K (.ref C) "sign" = some none)
    (aCC : PySem.W.nsIn K mainGlobals "Circuit" = some (some (.ref CC)))
    (pgCC : PySem.W.plainGet K CC Str.empty = true)
    (hdCC : PySem.W.hasDictIn K CC = true)
    (poCC : PySem.W.plainOver K CC = true)
    (saCC : PySem.W.findIn K (.ref CC) "__setattr__" = some (some (.builtin "object.__setattr__")))
    (mkCC : PySem.W.makesIn K CC = true)
    (kCC : PySem.W.keepIn K (.ref CC) = true)
    (haCC : PySem.W.findIn K (.ref CC) "__class__" = some (some (.builtin "object.__class__")))
    (hmCC : PySem.W.mroIn K CC (.type "object") = some true)
    (nCC0 : PySem.W.findIn K (.ref CC) "_text" = some none)
    (nCC1 : PySem.W.findIn K (.ref CC) "_lines" = some none)
    (nCC2 : PySem.W.findIn K (.ref CC) "steps" = some none)
    (nCC3 : PySem.W.findIn K (.ref CC) "wires" = some none)
    (nCC4 : PySem.W.findIn K (.ref CC) "knobs" = some none)
    (nCC5 : PySem.W.findIn K (.ref CC) "turns" = some none)
    (sfC : PySem.W.selfFirst K C = true)
    (nfC : PySem.W.notFirst K C (.ref C) = true)
    (neC : PySem.W.findIn K (.ref C) "__ne__" = some (some (.builtin "object.__ne__")))
    (am0 : PySem.W.findIn K (.ref C) "__init__" = some (some (.ref fm0)))
    (im0 : PySem.W.isFn K (.ref fm0) = true)
    (lm0 : K.lookup fm0 = some ⟨ocm0, odm0, .func (PySem.W.fnOf "__init__" "Word.__init__" (defArgs sInit) (defBody sInit) (defScope sInit) .none kVm0 dcm0 pmm0 anm0 cdm0 ctm0), slm0⟩)
    (cm0 : PySem.W.codeIn K cdm0 "Word.__init__" = true)
    (km0 : PySem.W.keepIn K (.ref fm0) = true)
    (am1 : PySem.W.findIn K (.ref CC) "__init__" = some (some (.ref fm1)))
    (im1 : PySem.W.isFn K (.ref fm1) = true)
    (lm1 : K.lookup fm1 = some ⟨ocm1, odm1, .func (PySem.W.fnOf "__init__" "Circuit.__init__" (defArgs K58F.sCInit) (defBody K58F.sCInit) (defScope K58F.sCInit) .none kVm1 dcm1 pmm1 anm1 cdm1 ctm1), slm1⟩)
    (cm1 : PySem.W.codeIn K cdm1 "Circuit.__init__" = true)
    (km1 : PySem.W.keepIn K (.ref fm1) = true)
    (ap0 : PySem.W.findIn K (.ref C) "text" = some (some (.ref pap0)))
    (gp0 : PySem.W.specialIn K (.ref pap0) "__get__" = some (some (.builtin "property.__get__")))
    (tp0 : PySem.W.takesIn K (.ref pap0) = some true)
    (rp0 : PySem.W.recIn K pap0 "property" = some (.ref fp0 :: rsp0))
    (lp0 : K.lookup fp0 = some ⟨ocp0, odp0, .func (PySem.W.fnOf "text" "Word.text" (defArgs sWTextP) (defBody sWTextP) (defScope sWTextP) .none kVp0 dcp0 pmp0 anp0 cdp0 ctp0), slp0⟩)
    (cp0 : PySem.W.codeIn K cdp0 "Word.text" = true)
    (kp0 : PySem.W.keepIn K (.ref fp0) = true)
    (z_len : PySem.W.nsIn K mainGlobals "len" = some none)
    (z_int : PySem.W.nsIn K mainGlobals "int" = some none)
    (z_abs : PySem.W.nsIn K mainGlobals "abs" = some none)
    (z_max : PySem.W.nsIn K mainGlobals "max" = some none)
    (z_min : PySem.W.nsIn K mainGlobals "min" = some none)
    (z_range : PySem.W.nsIn K mainGlobals "range" = some none)
    (z_list : PySem.W.nsIn K mainGlobals "list" = some none)
    (z_all : PySem.W.nsIn K mainGlobals "all" = some none)
    (z_any : PySem.W.nsIn K mainGlobals "any" = some none)
    (z_isinstance : PySem.W.nsIn K mainGlobals "isinstance" = some none)
    (z_str : PySem.W.nsIn K mainGlobals "str" = some none)
    (z_tuple : PySem.W.nsIn K mainGlobals "tuple" = some none)
    (z_enumerate : PySem.W.nsIn K mainGlobals "enumerate" = some none)
    (z_zip : PySem.W.nsIn K mainGlobals "zip" = some none)
    (z_set : PySem.W.nsIn K mainGlobals "set" = some none)
    (z_repr : PySem.W.nsIn K mainGlobals "repr" = some none)
    (z_sum : PySem.W.nsIn K mainGlobals "sum" = some none)
    (z_bool : PySem.W.nsIn K mainGlobals "bool" = some none)
    (z_sorted : PySem.W.nsIn K mainGlobals "sorted" = some none)
    (k_ib : PySem.W.kitOne K (.type "int") (.type "bool") = some false)
    (g_lets : PySem.W.nsIn K mainGlobals "LETTERS" = some (some (.str "IXYZ" ulets)))
    (g_most : PySem.W.nsIn K mainGlobals "MOST_WIRES" = some (some (.int 4 umost)))
    (g_nml : PySem.W.nsIn K mainGlobals "NAME_LETTERS" = some (some (.str "abcdefghijklmnopqrstuvwxyz" unml)))
    (g_lnm : PySem.W.nsIn K mainGlobals "LONGEST_NAME" = some (some (.int 8 ulnm)))
    (g_mln : PySem.W.nsIn K mainGlobals "MOST_LINES" = some (some (.int 40 umln)))
    (g_mtn : PySem.W.nsIn K mainGlobals "MOST_TURNS" = some (some (.int 6 umtn)))
    (g_mkn : PySem.W.nsIn K mainGlobals "MOST_KNOBS" = some (some (.int 3 umkn)))
    (g_mil : PySem.W.nsIn K mainGlobals "MOST_IN_LAYER" = some (some (.int 6 umil)))
    (gaS : PySem.W.nsIn K mainGlobals "SIZES" = some (some (.ref aS)))
    (gaT : PySem.W.nsIn K mainGlobals "TIMES" = some (some (.ref aT)))
    (gqa : PySem.W.nsIn K mainGlobals "QUARTER" = some (some (.ref qa)))
    (gta : PySem.W.nsIn K mainGlobals "THIRD" = some (some (.ref ta)))
    (gha : PySem.W.nsIn K mainGlobals "H" = some (some (.ref ha)))
    (gza : PySem.W.nsIn K mainGlobals "CZ" = some (some (.ref za)))
    (gxa : PySem.W.nsIn K mainGlobals "CX" = some (some (.ref xa)))
    (gaW : PySem.W.nsIn K mainGlobals "WIRES" = some (some (.ref aW)))
    (gaA : PySem.W.nsIn K mainGlobals "ABOUT" = some (some (.ref aA)))
    (gaP : PySem.W.nsIn K mainGlobals "PAIRS" = some (some (.ref aP)))
    (laS : K.lookup aS = some ⟨.type "dict", none, .dict esaS naS, #[]⟩)
    (yaS : PySem.W.KeysLit w.params esaS.toList)
    (waS : (aS == sysModules) = false)
    (laT : K.lookup aT = some ⟨.type "dict", none, .dict esaT naT, #[]⟩)
    (yaT : PySem.W.KeysLit w.params esaT.toList)
    (waT : (aT == sysModules) = false)
    (lqa : K.lookup qa = some ⟨.type "dict", none, .dict esqa nqa, #[]⟩)
    (yqa : PySem.W.KeysLit w.params esqa.toList)
    (wqa : (qa == sysModules) = false)
    (lta : K.lookup ta = some ⟨.type "dict", none, .dict esta nta, #[]⟩)
    (yta : PySem.W.KeysLit w.params esta.toList)
    (wta : (ta == sysModules) = false)
    (lha : K.lookup ha = some ⟨.type "dict", none, .dict esha nha, #[]⟩)
    (yha : PySem.W.KeysLit w.params esha.toList)
    (wha : (ha == sysModules) = false)
    (lza : K.lookup za = some ⟨.type "dict", none, .dict esza nza, #[]⟩)
    (yza : PySem.W.KeysLit w.params esza.toList)
    (wza : (za == sysModules) = false)
    (lxa : K.lookup xa = some ⟨.type "dict", none, .dict esxa nxa, #[]⟩)
    (yxa : PySem.W.KeysLit w.params esxa.toList)
    (wxa : (xa == sysModules) = false)
    (s_1 : PySem.W.nsIn K aS "wires 1" = some (some (.int 1 uS1)))
    (s_2 : PySem.W.nsIn K aS "wires 2" = some (some (.int 2 uS2)))
    (s_3 : PySem.W.nsIn K aS "wires 3" = some (some (.int 3 uS3)))
    (s_4 : PySem.W.nsIn K aS "wires 4" = some (some (.int 4 uS4)))
    (t_1 : PySem.W.nsIn K aT "1" = some (some (.int (1) uT1)))
    (t_2 : PySem.W.nsIn K aT "2" = some (some (.int (2) uT2)))
    (t_3 : PySem.W.nsIn K aT "3" = some (some (.int (3) uT3)))
    (t_4 : PySem.W.nsIn K aT "4" = some (some (.int (4) uT4)))
    (t_m1 : PySem.W.nsIn K aT "-1" = some (some (.int (-1) uTm1)))
    (t_m2 : PySem.W.nsIn K aT "-2" = some (some (.int (-2) uTm2)))
    (t_m3 : PySem.W.nsIn K aT "-3" = some (some (.int (-3) uTm3)))
    (t_m4 : PySem.W.nsIn K aT "-4" = some (some (.int (-4) uTm4)))
    (laW : K.lookup aW = some ⟨.type "tuple", odaW, .seq #[.str "0" xaW0, .str "1" xaW1, .str "2" xaW2, .str "3" xaW3] naW, slaW⟩)
    (laA : K.lookup aA = some ⟨.type "tuple", odaA, .seq #[.str "flip" xaA0, .str "quarter" xaA1] naA, slaA⟩)
    (laP : K.lookup aP = some ⟨.type "tuple", odaP, .seq #[.str "cz" xaP0, .str "cx" xaP1, .str "swap" xaP2] naP, slaP⟩)
    (q_II : PySem.W.nsIn K qa "II" = some none)
    (q_IX : PySem.W.nsIn K qa "IX" = some none)
    (q_IY : PySem.W.nsIn K qa "IY" = some none)
    (q_IZ : PySem.W.nsIn K qa "IZ" = some none)
    (q_XI : PySem.W.nsIn K qa "XI" = some none)
    (q_XX : PySem.W.nsIn K qa "XX" = some none)
    (q_XY : PySem.W.nsIn K qa "XY" = some (some (.int (1) uqXY)))
    (tt_XY : PySem.W.nsIn K ta "XY" = some (some (.str "Z" vtXY)))
    (q_XZ : PySem.W.nsIn K qa "XZ" = some (some (.int (-1) uqXZ)))
    (tt_XZ : PySem.W.nsIn K ta "XZ" = some (some (.str "Y" vtXZ)))
    (q_YI : PySem.W.nsIn K qa "YI" = some none)
    (q_YX : PySem.W.nsIn K qa "YX" = some (some (.int (-1) uqYX)))
    (tt_YX : PySem.W.nsIn K ta "YX" = some (some (.str "Z" vtYX)))
    (q_YY : PySem.W.nsIn K qa "YY" = some none)
    (q_YZ : PySem.W.nsIn K qa "YZ" = some (some (.int (1) uqYZ)))
    (tt_YZ : PySem.W.nsIn K ta "YZ" = some (some (.str "X" vtYZ)))
    (q_ZI : PySem.W.nsIn K qa "ZI" = some none)
    (q_ZX : PySem.W.nsIn K qa "ZX" = some (some (.int (1) uqZX)))
    (tt_ZX : PySem.W.nsIn K ta "ZX" = some (some (.str "Y" vtZX)))
    (q_ZY : PySem.W.nsIn K qa "ZY" = some (some (.int (-1) uqZY)))
    (tt_ZY : PySem.W.nsIn K ta "ZY" = some (some (.str "X" vtZY)))
    (q_ZZ : PySem.W.nsIn K qa "ZZ" = some none)
    (h_I : PySem.W.nsIn K ha "I" = some (some (.str "I" ohI)))
    (h_X : PySem.W.nsIn K ha "X" = some (some (.str "Z" ohX)))
    (h_Y : PySem.W.nsIn K ha "Y" = some (some (.str "-Y" ohY)))
    (h_Z : PySem.W.nsIn K ha "Z" = some (some (.str "X" ohZ)))
    (cz_II : PySem.W.nsIn K za "II" = some (some (.str "II" oczII)))
    (cz_IX : PySem.W.nsIn K za "IX" = some (some (.str "ZX" oczIX)))
    (cz_IY : PySem.W.nsIn K za "IY" = some (some (.str "ZY" oczIY)))
    (cz_IZ : PySem.W.nsIn K za "IZ" = some (some (.str "IZ" oczIZ)))
    (cz_XI : PySem.W.nsIn K za "XI" = some (some (.str "XZ" oczXI)))
    (cz_XX : PySem.W.nsIn K za "XX" = some (some (.str "YY" oczXX)))
    (cz_XY : PySem.W.nsIn K za "XY" = some (some (.str "-YX" oczXY)))
    (cz_XZ : PySem.W.nsIn K za "XZ" = some (some (.str "XI" oczXZ)))
    (cz_YI : PySem.W.nsIn K za "YI" = some (some (.str "YZ" oczYI)))
    (cz_YX : PySem.W.nsIn K za "YX" = some (some (.str "-XY" oczYX)))
    (cz_YY : PySem.W.nsIn K za "YY" = some (some (.str "XX" oczYY)))
    (cz_YZ : PySem.W.nsIn K za "YZ" = some (some (.str "YI" oczYZ)))
    (cz_ZI : PySem.W.nsIn K za "ZI" = some (some (.str "ZI" oczZI)))
    (cz_ZX : PySem.W.nsIn K za "ZX" = some (some (.str "IX" oczZX)))
    (cz_ZY : PySem.W.nsIn K za "ZY" = some (some (.str "IY" oczZY)))
    (cz_ZZ : PySem.W.nsIn K za "ZZ" = some (some (.str "ZZ" oczZZ)))
    (cx_II : PySem.W.nsIn K xa "II" = some (some (.str "II" ocxII)))
    (cx_IX : PySem.W.nsIn K xa "IX" = some (some (.str "IX" ocxIX)))
    (cx_IY : PySem.W.nsIn K xa "IY" = some (some (.str "ZY" ocxIY)))
    (cx_IZ : PySem.W.nsIn K xa "IZ" = some (some (.str "ZZ" ocxIZ)))
    (cx_XI : PySem.W.nsIn K xa "XI" = some (some (.str "XX" ocxXI)))
    (cx_XX : PySem.W.nsIn K xa "XX" = some (some (.str "XI" ocxXX)))
    (cx_XY : PySem.W.nsIn K xa "XY" = some (some (.str "YZ" ocxXY)))
    (cx_XZ : PySem.W.nsIn K xa "XZ" = some (some (.str "-YY" ocxXZ)))
    (cx_YI : PySem.W.nsIn K xa "YI" = some (some (.str "YX" ocxYI)))
    (cx_YX : PySem.W.nsIn K xa "YX" = some (some (.str "YI" ocxYX)))
    (cx_YY : PySem.W.nsIn K xa "YY" = some (some (.str "-XZ" ocxYY)))
    (cx_YZ : PySem.W.nsIn K xa "YZ" = some (some (.str "XY" ocxYZ)))
    (cx_ZI : PySem.W.nsIn K xa "ZI" = some (some (.str "ZI" ocxZI)))
    (cx_ZX : PySem.W.nsIn K xa "ZX" = some (some (.str "ZX" ocxZX)))
    (cx_ZY : PySem.W.nsIn K xa "ZY" = some (some (.str "IY" ocxZY)))
    (cx_ZZ : PySem.W.nsIn K xa "ZZ" = some (some (.str "IZ" ocxZZ))) :
    Nonempty (EndG l w K 11 "script" mg fa h 63) := by
  have e := hfa.symm.trans (PySem.W.mg_of X G ad51)
  cases e
  have T : TM mg := ⟨PySem.W.mg_none_of X G z_len, PySem.W.mg_none_of X G z_int, PySem.W.mg_none_of X G z_abs, PySem.W.mg_none_of X G z_max, PySem.W.mg_none_of X G z_min, PySem.W.mg_none_of X G z_range, PySem.W.mg_none_of X G z_list, PySem.W.mg_none_of X G z_all, PySem.W.mg_none_of X G z_any, PySem.W.mg_none_of X G z_isinstance, PySem.W.mg_none_of X G z_str, PySem.W.mg_none_of X G z_tuple, PySem.W.mg_none_of X G z_enumerate, PySem.W.mg_none_of X G z_zip, PySem.W.mg_none_of X G z_set, PySem.W.mg_none_of X G z_repr, PySem.W.mg_none_of X G z_sum, PySem.W.mg_none_of X G z_bool⟩
  have TF : K58F.TM mg := ⟨PySem.W.mg_none_of X G z_len, PySem.W.mg_none_of X G z_int, PySem.W.mg_none_of X G z_abs, PySem.W.mg_none_of X G z_max, PySem.W.mg_none_of X G z_min, PySem.W.mg_none_of X G z_range, PySem.W.mg_none_of X G z_list, PySem.W.mg_none_of X G z_all, PySem.W.mg_none_of X G z_isinstance, PySem.W.mg_none_of X G z_str, PySem.W.mg_none_of X G z_tuple, PySem.W.mg_none_of X G z_enumerate, PySem.W.mg_none_of X G z_zip, PySem.W.mg_none_of X G z_set, PySem.W.mg_none_of X G z_repr⟩
  have B : K58F.TB K mg := ⟨PySem.W.mg_none_of X G z_bool, PySem.W.mg_none_of X G z_sorted, k_ib⟩
  have T2 : TC K mg C := ⟨⟨⟨pgC, hdC, poC, saC⟩, haC, hn, ht, hmC⟩, nC0, nC1, PySem.W.mg_of X G aC, sfC, nfC, ⟨neC, hmC⟩⟩
  have T2F : K58F.TC K mg C := ⟨⟨⟨pgC, hdC, poC, saC⟩, haC, hn, ht, hmC⟩, nC0, nC1, PySem.W.mg_of X G aC⟩
  have TK : K58F.TKc K mg CC := ⟨⟨⟨pgCC, hdCC, poCC, saCC⟩, haCC, hn, ht, hmCC⟩, nCC0, nCC1, nCC2, nCC3, nCC4, nCC5, PySem.W.mg_of X G aCC⟩
  have Z : TW w K mg qa ta := {
    len := PySem.W.mg_none_of X G z_len
    all := PySem.W.mg_none_of X G z_all
    sum := PySem.W.mg_none_of X G z_sum
    zip := PySem.W.mg_none_of X G z_zip
    isi := PySem.W.mg_none_of X G z_isinstance
    str := PySem.W.mg_none_of X G z_str
    lets := ⟨_, PySem.W.mg_of X G g_lets, _, rfl⟩
    most := ⟨_, PySem.W.mg_of X G g_most, _, rfl⟩
    mq := PySem.W.mg_of X G gqa
    mt := PySem.W.mg_of X G gta
    kq := ⟨_, _, lqa, yqa, wqa⟩
    kt := ⟨_, _, lta, yta, wta⟩
    dq := fun a b ha hb => by
      simp only [IXYZ, List.mem_cons, List.not_mem_nil, or_false] at ha hb
      rcases ha with rfl | rfl | rfl | rfl <;> rcases hb with rfl | rfl | rfl | rfl
      · exact ⟨_, q_II, rfl⟩
      · exact ⟨_, q_IX, rfl⟩
      · exact ⟨_, q_IY, rfl⟩
      · exact ⟨_, q_IZ, rfl⟩
      · exact ⟨_, q_XI, rfl⟩
      · exact ⟨_, q_XX, rfl⟩
      · exact ⟨_, q_XY, .int (1), ⟨_, rfl⟩, fun _ _ => .int (1)⟩
      · exact ⟨_, q_XZ, .int (-1), ⟨_, rfl⟩, fun _ _ => .int (-1)⟩
      · exact ⟨_, q_YI, rfl⟩
      · exact ⟨_, q_YX, .int (-1), ⟨_, rfl⟩, fun _ _ => .int (-1)⟩
      · exact ⟨_, q_YY, rfl⟩
      · exact ⟨_, q_YZ, .int (1), ⟨_, rfl⟩, fun _ _ => .int (1)⟩
      · exact ⟨_, q_ZI, rfl⟩
      · exact ⟨_, q_ZX, .int (1), ⟨_, rfl⟩, fun _ _ => .int (1)⟩
      · exact ⟨_, q_ZY, .int (-1), ⟨_, rfl⟩, fun _ _ => .int (-1)⟩
      · exact ⟨_, q_ZZ, rfl⟩
    dt := fun a b ha hb h1 h2 h3 => by
      simp only [IXYZ, List.mem_cons, List.not_mem_nil, or_false] at ha hb
      rcases ha with rfl | rfl | rfl | rfl <;> rcases hb with rfl | rfl | rfl | rfl
      · first | exact absurd rfl h1 | exact absurd rfl h2 | exact absurd rfl h3
      · first | exact absurd rfl h1 | exact absurd rfl h2 | exact absurd rfl h3
      · first | exact absurd rfl h1 | exact absurd rfl h2 | exact absurd rfl h3
      · first | exact absurd rfl h1 | exact absurd rfl h2 | exact absurd rfl h3
      · first | exact absurd rfl h1 | exact absurd rfl h2 | exact absurd rfl h3
      · first | exact absurd rfl h1 | exact absurd rfl h2 | exact absurd rfl h3
      · exact ⟨_, tt_XY, _, rfl⟩
      · exact ⟨_, tt_XZ, _, rfl⟩
      · first | exact absurd rfl h1 | exact absurd rfl h2 | exact absurd rfl h3
      · exact ⟨_, tt_YX, _, rfl⟩
      · first | exact absurd rfl h1 | exact absurd rfl h2 | exact absurd rfl h3
      · exact ⟨_, tt_YZ, _, rfl⟩
      · first | exact absurd rfl h1 | exact absurd rfl h2 | exact absurd rfl h3
      · exact ⟨_, tt_ZX, _, rfl⟩
      · exact ⟨_, tt_ZY, _, rfl⟩
      · first | exact absurd rfl h1 | exact absurd rfl h2 | exact absurd rfl h3 }
  have ZD : TD w K mg ha za xa := {
    mh := PySem.W.mg_of X G gha
    mz := PySem.W.mg_of X G gza
    mx := PySem.W.mg_of X G gxa
    kh := ⟨_, _, lha, yha, wha⟩
    kz := ⟨_, _, lza, yza, wza⟩
    kx := ⟨_, _, lxa, yxa, wxa⟩
    dh := fun a h => by
      simp only [IXYZ, List.mem_cons, List.not_mem_nil, or_false] at h
      rcases h with rfl | rfl | rfl | rfl
      · exact ⟨_, h_I, _, rfl⟩
      · exact ⟨_, h_X, _, rfl⟩
      · exact ⟨_, h_Y, _, rfl⟩
      · exact ⟨_, h_Z, _, rfl⟩
    dz := fun a h b h' => by
      simp only [IXYZ, List.mem_cons, List.not_mem_nil, or_false] at h h'
      rcases h with rfl | rfl | rfl | rfl <;> rcases h' with rfl | rfl | rfl | rfl
      · exact ⟨_, cz_II, _, rfl⟩
      · exact ⟨_, cz_IX, _, rfl⟩
      · exact ⟨_, cz_IY, _, rfl⟩
      · exact ⟨_, cz_IZ, _, rfl⟩
      · exact ⟨_, cz_XI, _, rfl⟩
      · exact ⟨_, cz_XX, _, rfl⟩
      · exact ⟨_, cz_XY, _, rfl⟩
      · exact ⟨_, cz_XZ, _, rfl⟩
      · exact ⟨_, cz_YI, _, rfl⟩
      · exact ⟨_, cz_YX, _, rfl⟩
      · exact ⟨_, cz_YY, _, rfl⟩
      · exact ⟨_, cz_YZ, _, rfl⟩
      · exact ⟨_, cz_ZI, _, rfl⟩
      · exact ⟨_, cz_ZX, _, rfl⟩
      · exact ⟨_, cz_ZY, _, rfl⟩
      · exact ⟨_, cz_ZZ, _, rfl⟩
    dx := fun a h b h' => by
      simp only [IXYZ, List.mem_cons, List.not_mem_nil, or_false] at h h'
      rcases h with rfl | rfl | rfl | rfl <;> rcases h' with rfl | rfl | rfl | rfl
      · exact ⟨_, cx_II, _, rfl⟩
      · exact ⟨_, cx_IX, _, rfl⟩
      · exact ⟨_, cx_IY, _, rfl⟩
      · exact ⟨_, cx_IZ, _, rfl⟩
      · exact ⟨_, cx_XI, _, rfl⟩
      · exact ⟨_, cx_XX, _, rfl⟩
      · exact ⟨_, cx_XY, _, rfl⟩
      · exact ⟨_, cx_XZ, _, rfl⟩
      · exact ⟨_, cx_YI, _, rfl⟩
      · exact ⟨_, cx_YX, _, rfl⟩
      · exact ⟨_, cx_YY, _, rfl⟩
      · exact ⟨_, cx_YZ, _, rfl⟩
      · exact ⟨_, cx_ZI, _, rfl⟩
      · exact ⟨_, cx_ZX, _, rfl⟩
      · exact ⟨_, cx_ZY, _, rfl⟩
      · exact ⟨_, cx_ZZ, _, rfl⟩ }
  have ZG : K58F.TG w K mg aS aT aW aA aP := {
    lets := ⟨_, PySem.W.mg_of X G g_lets, _, rfl⟩
    most := ⟨_, PySem.W.mg_of X G g_most, _, rfl⟩
    nml := ⟨_, PySem.W.mg_of X G g_nml, _, rfl⟩
    lnm := ⟨_, PySem.W.mg_of X G g_lnm, _, rfl⟩
    mln := ⟨_, PySem.W.mg_of X G g_mln, _, rfl⟩
    mtn := ⟨_, PySem.W.mg_of X G g_mtn, _, rfl⟩
    mkn := ⟨_, PySem.W.mg_of X G g_mkn, _, rfl⟩
    gS := PySem.W.mg_of X G gaS
    gT := PySem.W.mg_of X G gaT
    gW := PySem.W.mg_of X G gaW
    gA := PySem.W.mg_of X G gaA
    gP := PySem.W.mg_of X G gaP
    kS := ⟨_, _, laS, yaS, waS⟩
    kT := ⟨_, _, laT, yaT, waT⟩
    nS := fun n h1 h4 => by
      have h : n = 1 ∨ n = 2 ∨ n = 3 ∨ n = 4 := by omega
      rcases h with rfl | rfl | rfl | rfl
      · exact ⟨_, s_1, _, rfl⟩
      · exact ⟨_, s_2, _, rfl⟩
      · exact ⟨_, s_3, _, rfl⟩
      · exact ⟨_, s_4, _, rfl⟩
    nT := fun i hi => by
      simp only [manys, List.mem_cons, List.not_mem_nil, or_false] at hi
      rcases hi with rfl | rfl | rfl | rfl | rfl | rfl | rfl | rfl
      · exact ⟨_, t_1, _, rfl⟩
      · exact ⟨_, t_2, _, rfl⟩
      · exact ⟨_, t_3, _, rfl⟩
      · exact ⟨_, t_4, _, rfl⟩
      · exact ⟨_, t_m1, _, rfl⟩
      · exact ⟨_, t_m2, _, rfl⟩
      · exact ⟨_, t_m3, _, rfl⟩
      · exact ⟨_, t_m4, _, rfl⟩
    tW := ⟨_, _, _, laW, rfl, rfl, sz (by show 4 ≤ 100000; decide), (.cons ⟨_, rfl⟩ (.cons ⟨_, rfl⟩ (.cons ⟨_, rfl⟩ (.cons ⟨_, rfl⟩ .nil))))⟩
    tA := ⟨_, _, _, laA, rfl, rfl, sz (by show 2 ≤ 100000; decide), (.cons ⟨_, rfl⟩ (.cons ⟨_, rfl⟩ .nil))⟩
    tP := ⟨_, _, _, laP, rfl, rfl, sz (by show 3 ≤ 100000; decide), (.cons ⟨_, rfl⟩ (.cons ⟨_, rfl⟩ (.cons ⟨_, rfl⟩ .nil)))⟩ }
  have Fd0 := fun_mk (st := sAre) ld0 cd0 kd0
  have bd0 := Fd0.binds (ps := ["text"]) fun _ _ _ _ _ _ us hl => match us, hl with | [_], _ => rfl
  have Fd1 := fun_mk (st := sSigned) ld1 cd1 kd1
  have bd1 := Fd1.binds (ps := ["letters", "sign"]) fun _ _ _ _ _ _ us hl => match us, hl with | [_, _], _ => rfl
  have Fd2 := fun_mk (st := sQuarters) ld2 cd2 kd2
  have bd2 := Fd2.binds (ps := ["one", "other"]) fun _ _ _ _ _ _ us hl => match us, hl with | [_, _], _ => rfl
  have Fd3 := fun_mk (st := sLetter) ld3 cd3 kd3
  have bd3 := Fd3.binds (ps := ["one", "other"]) fun _ _ _ _ _ _ us hl => match us, hl with | [_, _], _ => rfl
  have Fd4 := fun_mk (st := sMade) ld4 cd4 kd4
  have bd4 := Fd4.binds (ps := ["one", "other"]) fun _ _ _ _ _ _ us hl => match us, hl with | [_, _], _ => rfl
  have Fd5 := fun_mk (st := K58F.sIsWhole) ld5 cd5 kd5
  have bd5 := Fd5.binds (ps := ["value"]) fun _ _ _ _ _ _ us hl => match us, hl with | [_], _ => rfl
  have Fd6 := fun_mk (st := K58F.sName) ld6 cd6 kd6
  have bd6 := Fd6.binds (ps := ["value"]) fun _ _ _ _ _ _ us hl => match us, hl with | [_], _ => rfl
  have Fd7 := fun_mk (st := K58F.sMerged) ld7 cd7 kd7
  have bd7 := Fd7.binds (ps := ["runs"]) fun _ _ _ _ _ _ us hl => match us, hl with | [_], _ => rfl
  have Fd8 := fun_mk (st := K58F.sAsc) ld8 cd8 kd8
  have bd8 := Fd8.binds (ps := ["rows"]) fun _ _ _ _ _ _ us hl => match us, hl with | [_], _ => rfl
  have Fd9 := fun_mk (st := K58F.sIsAbout) ld9 cd9 kd9
  have bd9 := Fd9.binds (ps := ["text", "wires"]) fun _ _ _ _ _ _ us hl => match us, hl with | [_, _], _ => rfl
  have Fd10 := fun_mk (st := K58F.sWires) ld10 cd10 kd10
  have bd10 := Fd10.binds (ps := ["texts", "wires"]) fun _ _ _ _ _ _ us hl => match us, hl with | [_, _], _ => rfl
  have Fd11 := fun_mk (st := K58F.sIsTurn) ld11 cd11 kd11
  have bd11 := Fd11.binds (ps := ["step"]) fun _ _ _ _ _ _ us hl => match us, hl with | [_], _ => rfl
  have Fd12 := fun_mk (st := K58F.sAbout) ld12 cd12 kd12
  have bd12 := Fd12.binds (ps := ["name", "rest", "wires"]) fun _ _ _ _ _ _ us hl => match us, hl with | [_, _, _], _ => rfl
  have Fd13 := fun_mk (st := K58F.sTurn) ld13 cd13 kd13
  have bd13 := Fd13.binds (ps := ["rest", "wires"]) fun _ _ _ _ _ _ us hl => match us, hl with | [_, _], _ => rfl
  have Fd14 := fun_mk (st := K58F.sReadL) ld14 cd14 kd14
  have bd14 := Fd14.binds (ps := ["line", "wires"]) fun _ _ _ _ _ _ us hl => match us, hl with | [_, _], _ => rfl
  have Fd15 := fun_mk (st := K58F.sReadC) ld15 cd15 kd15
  have bd15 := Fd15.binds (ps := ["text"]) fun _ _ _ _ _ _ us hl => match us, hl with | [_], _ => rfl
  have Fd16 := fun_mk (st := sPassBy) ld16 cd16 kd16
  have bd16 := Fd16.binds (ps := ["one", "other"]) fun _ _ _ _ _ _ us hl => match us, hl with | [_, _], _ => rfl
  have Fd17 := fun_mk (st := sBentF) ld17 cd17 kd17
  have bd17 := Fd17.binds (ps := ["one", "other"]) fun _ _ _ _ _ _ us hl => match us, hl with | [_, _], _ => rfl
  have Fd18 := fun_mk (st := sExch) ld18 cd18 kd18
  have bd18 := Fd18.binds (ps := ["letters", "places", "text"]) fun _ _ _ _ _ _ us hl => match us, hl with | [_, _, _], _ => rfl
  have Fd19 := fun_mk (st := sThrAbout) ld19 cd19 kd19
  have bd19 := Fd19.binds (ps := ["step", "letters"]) fun _ _ _ _ _ _ us hl => match us, hl with | [_, _], _ => rfl
  have Fd20 := fun_mk (st := sThrOne) ld20 cd20 kd20
  have bd20 := Fd20.binds (ps := ["step", "letters"]) fun _ _ _ _ _ _ us hl => match us, hl with | [_, _], _ => rfl
  have Fd21 := fun_mk (st := sLedThr) ld21 cd21 kd21
  have bd21 := Fd21.binds (ps := ["steps", "letters", "sign"]) fun _ _ _ _ _ _ us hl => match us, hl with | [_, _, _], _ => rfl
  have Fd22 := fun_mk (st := sLone) ld22 cd22 kd22
  have bd22 := Fd22.binds (ps := ["letter", "at", "wires"]) fun _ _ _ _ _ _ us hl => match us, hl with | [_, _, _], _ => rfl
  have Fd23 := fun_mk (st := sFirstWords) ld23 cd23 kd23
  have bd23 := Fd23.binds (ps := ["wires"]) fun _ _ _ _ _ _ us hl => match us, hl with | [_], _ => rfl
  have Fd24 := fun_mk (st := sFixSteps) ld24 cd24 kd24
  have bd24 := Fd24.binds (ps := ["circuit"]) fun _ _ _ _ _ _ us hl => match us, hl with | [_], _ => rfl
  have Fd25 := fun_mk (st := sFixImages) ld25 cd25 kd25
  have bd25 := Fd25.binds (ps := ["circuit"]) fun _ _ _ _ _ _ us hl => match us, hl with | [_], _ => rfl
  have Fd26 := fun_mk (st := sJoined) ld26 cd26 kd26
  have bd26 := Fd26.binds (ps := ["one", "other"]) fun _ _ _ _ _ _ us hl => match us, hl with | [_, _], _ => rfl
  have Fd27 := fun_mk (st := sTBackF) ld27 cd27 kd27
  have bd27 := Fd27.binds (ps := ["form"]) fun _ _ _ _ _ _ us hl => match us, hl with | [_], _ => rfl
  have Fd28 := fun_mk (st := sBegin) ld28 cd28 kd28
  have bd28 := Fd28.binds (ps := ["circuit"]) fun _ _ _ _ _ _ us hl => match us, hl with | [_], _ => rfl
  have Fd29 := fun_mk (st := sTurned) ld29 cd29 kd29
  have bd29 := Fd29.binds (ps := ["circuit"]) fun _ _ _ _ _ _ us hl => match us, hl with | [_], _ => rfl
  have Fd30 := fun_mk (st := sAhead) ld30 cd30 kd30
  have bd30 := Fd30.binds (ps := ["circuit"]) fun _ _ _ _ _ _ us hl => match us, hl with | [_], _ => rfl
  have Fd31 := fun_mk (st := sEarly) ld31 cd31 kd31
  have bd31 := Fd31.binds (ps := ["ahead"]) fun _ _ _ _ _ _ us hl => match us, hl with | [_], _ => rfl
  have Fd32 := fun_mk (st := sLayers) ld32 cd32 kd32
  have bd32 := Fd32.binds (ps := ["circuit"]) fun _ _ _ _ _ _ us hl => match us, hl with | [_], _ => rfl
  have Fd33 := fun_mk (st := sChoices) ld33 cd33 kd33
  have bd33 := Fd33.binds (ps := ["turns", "most"]) fun _ _ _ _ _ _ us hl => match us, hl with | [_, _], _ => rfl
  have Fd34 := fun_mk (st := sAllDone) ld34 cd34 kd34
  have bd34 := Fd34.binds (ps := ["turns", "done"]) fun _ _ _ _ _ _ us hl => match us, hl with | [_, _], _ => rfl
  have Fd35 := fun_mk (st := sNeedNum) ld35 cd35 kd35
  have bd35 := Fd35.binds (ps := ["most"]) fun _ _ _ _ _ _ us hl => match us, hl with | [_], _ => rfl
  have Fd36 := fun_mk (st := sOneMore) ld36 cd36 kd36
  have bd36 := Fd36.binds (ps := ["reached", "ahead", "most"]) fun _ _ _ _ _ _ us hl => match us, hl with | [_, _, _], _ => rfl
  have Fd37 := fun_mk (st := sPacked) ld37 cd37 kd37
  have bd37 := Fd37.binds (ps := ["circuit", "most"]) fun _ _ _ _ _ _ us hl => match us, hl with | [_, _], _ => rfl
  have Fd38 := fun_mk (st := sPair) ld38 cd38 kd38
  have bd38 := Fd38.binds (ps := ["rows"]) fun _ _ _ _ _ _ us hl => match us, hl with | [_], _ => rfl
  have Fd39 := fun_mk (st := sPutTog) ld39 cd39 kd39
  have bd39 := Fd39.binds (ps := ["rows"]) fun _ _ _ _ _ _ us hl => match us, hl with | [_], _ => rfl
  have Fd40 := fun_mk (st := sFirstFree) ld40 cd40 kd40
  have bd40 := Fd40.binds (ps := ["rows"]) fun _ _ _ _ _ _ us hl => match us, hl with | [_], _ => rfl
  have Fd41 := fun_mk (st := sFirstSeq) ld41 cd41 kd41
  have bd41 := Fd41.binds (ps := ["rows"]) fun _ _ _ _ _ _ us hl => match us, hl with | [_], _ => rfl
  have Fd42 := fun_mk (st := sPlain) ld42 cd42 kd42
  have bd42 := Fd42.binds (ps := ["circuit"]) fun _ _ _ _ _ _ us hl => match us, hl with | [_], _ => rfl
  have Fd43 := fun_mk (st := sPot) ld43 cd43 kd43
  have bd43 := Fd43.binds (ps := ["script", "k"]) fun _ _ _ _ _ _ us hl => match us, hl with | [_, _], _ => rfl
  have Fd44 := fun_mk (st := sTake) ld44 cd44 kd44
  have bd44 := Fd44.binds (ps := ["pot", "upto"]) fun _ _ _ _ _ _ us hl => match us, hl with | [_, _], _ => rfl
  have Fd45 := fun_mk (st := sSome) ld45 cd45 kd45
  have bd45 := Fd45.binds (ps := ["pot", "pool", "many"]) fun _ _ _ _ _ _ us hl => match us, hl with | [_, _, _], _ => rfl
  have Fd46 := fun_mk (st := sCells) ld46 cd46 kd46
  have bd46 := Fd46.binds (ps := ["script", "most"]) fun _ _ _ _ _ _ us hl => match us, hl with | [_, _], _ => rfl
  have Fd47 := fun_mk (st := sKnobs) ld47 cd47 kd47
  have bd47 := Fd47.binds (ps := ["pot", "many"]) fun _ _ _ _ _ _ us hl => match us, hl with | [_, _], _ => rfl
  have Fd48 := fun_mk (st := sLRows) ld48 cd48 kd48
  have bd48 := Fd48.binds (ps := ["k", "m"]) fun _ _ _ _ _ _ us hl => match us, hl with | [_, _], _ => rfl
  have Fd49 := fun_mk (st := sLMade) ld49 cd49 kd49
  have bd49 := Fd49.binds (ps := ["text"]) fun _ _ _ _ _ _ us hl => match us, hl with | [_], _ => rfl
  have Fd50 := fun_mk (st := sRight) ld50 cd50 kd50
  have bd50 := Fd50.binds (ps := ["pot"]) fun _ _ _ _ _ _ us hl => match us, hl with | [_], _ => rfl
  have Fd51 := fun_mk (st := sLaw) ld51 cd51 kd51
  have Fm0 := fun_mk (st := sInit) lm0 cm0 km0
  have bm0 := Fm0.binds (ps := ["self", "text"]) fun _ _ _ _ _ _ us hl => match us, hl with | [_, _], _ => rfl
  have Fm1 := fun_mk (st := K58F.sCInit) lm1 cm1 km1
  have bm1 := Fm1.binds (ps := ["self", "text"]) fun _ _ _ _ _ _ us hl => match us, hl with | [_, _], _ => rfl
  have Fp0 := fun_mk (st := sWTextP) lp0 cp0 kp0
  have bp0 := Fp0.binds (ps := ["self"]) fun _ _ _ _ _ _ us hl => match us, hl with | [_], _ => rfl
  have FdG := fun_mk (st := K58F.sAre) ld0 cd0 kd0
  have FmG := fun_mk (st := K58F.sInit) lm0 cm0 km0
  refine ⟨{ fd := PySem.W.fnOf "law" "law" (defArgs sLaw) (defBody sLaw) (defScope sLaw) .none kVd51 dcd51 pmd51 and51 cdd51 ctd51, cs := [], R := rLaw, tab := (fun p hp => nomatch hp), bind := fun s v => .of_eq rfl, holds := fun H a ns hl hb hH hS => spD_lawN hS ⟨ns, rfl, rfl, rfl⟩, ok := fun base _ _ hTB => ?_ }⟩
  have kAre : Cf l.prog w K mg base _ "are_letters" [] _ := ⟨⟨_, _, _, [], [], ok_are Fd0 Z, PySem.W.mg_of X G ad0, kd0, bd0, .nil, fun _ => .nil⟩⟩
  have kAreF : Cf l.prog w K mg base _ "are_letters" [] _ := ⟨⟨_, _, _, [], [], K58F.ok_are FdG TF ZG, PySem.W.mg_of X G ad0, kd0, bd0, .nil, fun _ => .nil⟩⟩
  have kSigned : Cf l.prog w K mg base _ "signed_text" [] _ := ⟨⟨_, _, _, [], [], ok_signed Fd1, PySem.W.mg_of X G ad1, kd1, bd1, .nil, fun _ => .nil⟩⟩
  have kQuart : Cf l.prog w K mg base _ "quarters" [] _ := ⟨⟨_, _, _, [], [], ok_quarters Fd2 Z, PySem.W.mg_of X G ad2, kd2, bd2, .nil, fun _ => .nil⟩⟩
  have kLetter : Cf l.prog w K mg base _ "_made_letter" [] _ := ⟨⟨_, _, _, [], [], ok_letter Fd3 Z, PySem.W.mg_of X G ad3, kd3, bd3, .nil, fun _ => .nil⟩⟩
  have kMade : Cf l.prog w K mg base _ "made_letters" [] _ := ⟨⟨_, _, _, [], [], ok_made Fd4 Z kLetter, PySem.W.mg_of X G ad4, kd4, bd4, .nil, fun _ => .nil⟩⟩
  have kW : Ci l.prog w K mg base 2 C "Word" [] (rInit C) := ⟨PySem.W.mg_of X G aC, ⟨_, _, _, [], [], ok_init Fm0 Z T2 kAre, ⟨mkC, am0, im0, kC⟩, bm0, .nil, fun _ => .nil⟩⟩
  have kWF : Ci l.prog w K mg base 2 C "Word" [] (K58F.rInit C) := ⟨PySem.W.mg_of X G aC, ⟨_, _, _, [], [], K58F.ok_init FmG TF T2F kAreF, ⟨mkC, am0, im0, kC⟩, bm0, .nil, fun _ => .nil⟩⟩
  have pText : Cp l.prog w K mg base 2 C "text" (rTextP C) := ⟨T2.ci.cl, ⟨_, _, _, _, ok_textP Fp0 T2 kSigned, ⟨ap0, gp0, tp0, ⟨_, rp0⟩⟩, bp0⟩⟩
  have kWhole : Cf l.prog w K mg base _ "is_whole" [] _ := ⟨⟨_, _, _, [], [], K58F.ok_whole Fd5 TF B, PySem.W.mg_of X G ad5, kd5, bd5, .nil, fun _ => .nil⟩⟩
  have kName : Cf l.prog w K mg base _ "is_name" [] _ := ⟨⟨_, _, _, [], [], K58F.ok_name Fd6 TF ZG, PySem.W.mg_of X G ad6, kd6, bd6, .nil, fun _ => .nil⟩⟩
  have kMerged : Cf l.prog w K mg base _ "_merged" [] _ := ⟨⟨_, _, _, [], [], K58F.ok_merged Fd7 TF, PySem.W.mg_of X G ad7, kd7, bd7, .nil, fun _ => .nil⟩⟩
  have kAsc : Cf l.prog w K mg base _ "ascending" [] _ := ⟨⟨_, _, _, [], [], K58F.ok_asc Fd8 TF kMerged, PySem.W.mg_of X G ad8, kd8, bd8, .nil, fun _ => .nil⟩⟩
  have kIsAbout : Cf l.prog w K mg base _ "_is_about" [] _ := ⟨⟨_, _, _, [], [], K58F.ok_isabout Fd9 TF kAreF, PySem.W.mg_of X G ad9, kd9, bd9, .nil, fun _ => .nil⟩⟩
  have kWires : Cf l.prog w K mg base _ "_are_wires" [] _ := ⟨⟨_, _, _, [], [], K58F.ok_wires Fd10 TF ZG, PySem.W.mg_of X G ad10, kd10, bd10, .nil, fun _ => .nil⟩⟩
  have kIsTurn : Cf l.prog w K mg base _ "is_turn" [] _ := ⟨⟨_, _, _, [], [], K58F.ok_isturn Fd11, PySem.W.mg_of X G ad11, kd11, bd11, .nil, fun _ => .nil⟩⟩
  have kAbout : Cf l.prog w K mg base _ "_read_about" [] _ := ⟨⟨_, _, _, [], [], K58F.ok_rabout Fd12 TF T2F kIsAbout kWF, PySem.W.mg_of X G ad12, kd12, bd12, .nil, fun _ => .nil⟩⟩
  have kRTurn : Cf l.prog w K mg base _ "_read_turn" [] _ := ⟨⟨_, _, _, [], [], K58F.ok_rturn Fd13 TF ZG T2F kIsAbout kWF kName kAsc, PySem.W.mg_of X G ad13, kd13, bd13, .nil, fun _ => .nil⟩⟩
  have kReadL : Cf l.prog w K mg base _ "read_line" [] _ := ⟨⟨_, _, _, [], [], K58F.ok_readl Fd14 TF ZG kRTurn kAbout kWires, PySem.W.mg_of X G ad14, kd14, bd14, .nil, fun _ => .nil⟩⟩
  have kReadC : Cf l.prog w K mg base _ "read_circuit" [] _ := ⟨⟨_, _, _, [], [], K58F.ok_readc Fd15 TF ZG kReadL kIsTurn, PySem.W.mg_of X G ad15, kd15, bd15, .nil, fun _ => .nil⟩⟩
  have kCC : Ci l.prog w K mg base 7 CC "Circuit" [] (K58F.rCInit CC) := ⟨PySem.W.mg_of X G aCC, ⟨_, _, _, [], [], K58F.ok_cinit Fm1 TF TK kReadC kIsTurn kAsc, ⟨mkCC, am1, im1, kCC⟩, bm1, .nil, fun _ => .nil⟩⟩
  have kPassBy : Cf l.prog w K mg base _ "pass_by" [] _ := ⟨⟨_, _, _, [], [], ok_passby Fd16 kQuart, PySem.W.mg_of X G ad16, kd16, bd16, .nil, fun _ => .nil⟩⟩
  have kBentF : Cf l.prog w K mg base _ "bent" [] _ := ⟨⟨_, _, _, [], [], ok_bentf Fd17 kQuart kMade, PySem.W.mg_of X G ad17, kd17, bd17, .nil, fun _ => .nil⟩⟩
  have kExch : Cf l.prog w K mg base _ "_exchanged" [] _ := ⟨⟨_, _, _, [], [], ok_exch Fd18 T, PySem.W.mg_of X G ad18, kd18, bd18, .nil, fun _ => .nil⟩⟩
  have kThrAbout : Cf l.prog w K mg base _ "_through_about" [] _ := ⟨⟨_, _, _, [], [], ok_thrabout Fd19 kPassBy kBentF, PySem.W.mg_of X G ad19, kd19, bd19, .nil, fun _ => .nil⟩⟩
  have kThrOne : Cf l.prog w K mg base _ "_through_one" [] _ := ⟨⟨_, _, _, [], [], ok_throne Fd20 ZD kExch kThrAbout, PySem.W.mg_of X G ad20, kd20, bd20, .nil, fun _ => .nil⟩⟩
  have kLed : Cf l.prog w K mg base _ "led_through" [] _ := ⟨⟨_, _, _, [], [], ok_ledthr Fd21 kThrOne, PySem.W.mg_of X G ad21, kd21, bd21, .nil, fun _ => .nil⟩⟩
  have kLedM : Cf l.prog w K mg base _ "led_through" [] _ := ⟨⟨_, _, _, [], [], ok_ledthrM Fd21 kThrOne, PySem.W.mg_of X G ad21, kd21, bd21, .nil, fun _ => .nil⟩⟩
  have kLone : Cf l.prog w K mg base _ "lone_letter" [] _ := ⟨⟨_, _, _, [], [], ok_lone Fd22, PySem.W.mg_of X G ad22, kd22, bd22, .nil, fun _ => .nil⟩⟩
  have kFirst : Cf l.prog w K mg base _ "first_words" [] _ := ⟨⟨_, _, _, [], [], ok_first Fd23 T kLone, PySem.W.mg_of X G ad23, kd23, bd23, .nil, fun _ => .nil⟩⟩
  have kFixS : Cf l.prog w K mg base _ "fixed_steps" [] _ := ⟨⟨_, _, _, [], [], ok_fixsteps Fd24 TK kIsTurn, PySem.W.mg_of X G ad24, kd24, bd24, .nil, fun _ => .nil⟩⟩
  have kFixI : Cf l.prog w K mg base _ "fixed_images" [] _ := ⟨⟨_, _, _, [], [], ok_fiximages Fd25 T TK kFixS kLed kFirst kSigned kW, PySem.W.mg_of X G ad25, kd25, bd25, .nil, fun _ => .nil⟩⟩
  have kJoinF : Cf l.prog w K mg base _ "joined" [] _ := ⟨⟨_, _, _, [], [], ok_joinedF Fd26 T kAsc, PySem.W.mg_of X G ad26, kd26, bd26, .nil, fun _ => .nil⟩⟩
  have kBackF : Cf l.prog w K mg base _ "turned_back" [] _ := ⟨⟨_, _, _, [], [], ok_backF Fd27 T, PySem.W.mg_of X G ad27, kd27, bd27, .nil, fun _ => .nil⟩⟩
  have kBegin : Cf l.prog w K mg base _ "beginnings" [] _ := ⟨⟨_, _, _, [], [], ok_begin Fd28 TK kIsTurn kLedM, PySem.W.mg_of X G ad28, kd28, bd28, .nil, fun _ => .nil⟩⟩
  have kTurned : Cf l.prog w K mg base _ "turned" [] _ := ⟨⟨_, _, _, [], [], ok_turned Fd29 T kBegin kSigned kW, PySem.W.mg_of X G ad29, kd29, bd29, .nil, fun _ => .nil⟩⟩
  have kAhead : Cf l.prog w K mg base _ "_all_ahead" [] _ := ⟨⟨_, _, _, [], [], ok_ahead Fd30 T kBegin kPassBy, PySem.W.mg_of X G ad30, kd30, bd30, .nil, fun _ => .nil⟩⟩
  have kEarly : Cf l.prog w K mg base _ "_early_rows" [] _ := ⟨⟨_, _, _, [], [], ok_early Fd31 T, PySem.W.mg_of X G ad31, kd31, bd31, .nil, fun _ => .nil⟩⟩
  have kLayers : Cf l.prog w K mg base _ "layers" [] _ := ⟨⟨_, _, _, [], [], ok_layers Fd32 T kAhead kEarly, PySem.W.mg_of X G ad32, kd32, bd32, .nil, fun _ => .nil⟩⟩
  have kChoices : Cf l.prog w K mg base _ "_choices" [] _ := ⟨⟨_, _, _, [], [], ok_choices Fd33 T, PySem.W.mg_of X G ad33, kd33, bd33, .nil, fun _ => .nil⟩⟩
  have kAllDone : Cf l.prog w K mg base _ "_all_done" [] _ := ⟨⟨_, _, _, [], [], ok_alldone Fd34 T, PySem.W.mg_of X G ad34, kd34, bd34, .nil, fun _ => .nil⟩⟩
  have kNeedN : Cf l.prog w K mg base _ "_need_number" [] _ := ⟨⟨_, _, _, [], [], ok_neednum Fd35 ⟨_, PySem.W.mg_of X G g_mil, _, rfl⟩ kWhole, PySem.W.mg_of X G ad35, kd35, bd35, .nil, fun _ => .nil⟩⟩
  have kOneMore : Cf l.prog w K mg base _ "_one_layer_more" [] _ := ⟨⟨_, _, _, [], [], ok_onemore Fd36 T kAllDone kChoices, PySem.W.mg_of X G ad36, kd36, bd36, .nil, fun _ => .nil⟩⟩
  have kPacked : Cf l.prog w K mg base _ "packed" [] _ := ⟨⟨_, _, _, [], [], ok_packed Fd37 T kNeedN kAhead kOneMore, PySem.W.mg_of X G ad37, kd37, bd37, .nil, fun _ => .nil⟩⟩
  have kPair : Cf l.prog w K mg base _ "_pair" [] _ := ⟨⟨_, _, _, [], [], ok_pair Fd38 T kPassBy, PySem.W.mg_of X G ad38, kd38, bd38, .nil, fun _ => .nil⟩⟩
  have kPutTog : Cf l.prog w K mg base _ "_put_together" [] _ := ⟨⟨_, _, _, [], [], ok_puttog Fd39 T kPair kJoinF, PySem.W.mg_of X G ad39, kd39, bd39, .nil, fun _ => .nil⟩⟩
  have kFirstFree : Cf l.prog w K mg base _ "_first_free" [] _ := ⟨⟨_, _, _, [], [], ok_firstfree Fd40 T kPassBy, PySem.W.mg_of X G ad40, kd40, bd40, .nil, fun _ => .nil⟩⟩
  have kFirstSeq : Cf l.prog w K mg base _ "_first_sequence" [] _ := ⟨⟨_, _, _, [], [], ok_firstseq Fd41 T kFirstFree, PySem.W.mg_of X G ad41, kd41, bd41, .nil, fun _ => .nil⟩⟩
  have kPlain : Cf l.prog w K mg base _ "plain" [] _ := ⟨⟨_, _, _, [], [], ok_plain Fd42 T kBegin kBackF kPutTog kFirstSeq kFixI, PySem.W.mg_of X G ad42, kd42, bd42, .nil, fun _ => .nil⟩⟩
  have kPot : Cf l.prog w K mg base _ "_law_pot" [] _ := ⟨⟨_, _, _, [], [], ok_pot Fd43 T, PySem.W.mg_of X G ad43, kd43, bd43, .nil, fun _ => .nil⟩⟩
  have kTake : Cf l.prog w K mg base _ "_law_take" [] _ := ⟨⟨_, _, _, [], [], ok_tk Fd44 T, PySem.W.mg_of X G ad44, kd44, bd44, .nil, fun _ => .nil⟩⟩
  have kSome : Cf l.prog w K mg base _ "_law_some" [] _ := ⟨⟨_, _, _, [], [], ok_some Fd45 T kTake, PySem.W.mg_of X G ad45, kd45, bd45, .nil, fun _ => .nil⟩⟩
  have kCells : Cf l.prog w K mg base _ "_law_cells" [] _ := ⟨⟨_, _, _, [], [], ok_cells Fd46 T, PySem.W.mg_of X G ad46, kd46, bd46, .nil, fun _ => .nil⟩⟩
  have kKnobs : Cf l.prog w K mg base _ "_law_knobs" [] _ := ⟨⟨_, _, _, [], [], ok_knobs Fd47 kSome, PySem.W.mg_of X G ad47, kd47, bd47, .nil, fun _ => .nil⟩⟩
  have kLRows : Cf l.prog w K mg base _ "_law_rows" [] _ := ⟨⟨_, _, _, [], [], ok_lrows Fd48, PySem.W.mg_of X G ad48, kd48, bd48, .nil, fun _ => .nil⟩⟩
  have kLMade : Cf l.prog w K mg base _ "_law_made" [] _ := ⟨⟨_, _, _, [], [], ok_lmade Fd49 kCC, PySem.W.mg_of X G ad49, kd49, bd49, .nil, fun _ => .nil⟩⟩
  have kRight : Cf l.prog w K mg base _ "_law_right" [] _ := ⟨⟨_, _, _, [], [], ok_right Fd50 T (PySem.W.mg_none_of X G z_sorted) kKnobs kLRows kLMade kPlain kTurned kLayers kPacked pText, PySem.W.mg_of X G ad50, kd50, bd50, .nil, fun _ => .nil⟩⟩
  exact FnG.of (ok_law Fd51 T kCells kPot kRight)
end K58
set_option Elab.async false
set_option linter.all false
open PySem PySem.W PyProof.Rows
set_option maxRecDepth 100000 in
set_option maxHeartbeats 0 in
theorem PySem.Challenge.cw_looseknobs_k58_told_in_one_way_by_hand_holds : PySem.Challenge.rw_looseknobs_k58_told_in_one_way_by_hand.Holds := by
  w_on; o_law; k_head; (case hw => w_witness2)
  k_fill
  refine Dl.walk_G (l := PySem.Challenge.rw_looseknobs_k58_told_in_one_way_by_hand) (n := 63) (k := 11) (x := "script") rfl (by decide) rfl ⟨rfl, by decide, by decide⟩ (fun w h Y => PySem.W.kIn_of Y) ?F
  case F =>
    intro w mg fa h KX G hmg tabs
    refine' K58.all_mk KX G hmg ?ad0 ?ld0 ?cd0 ?kd0 ?ad1 ?ld1 ?cd1 ?kd1 ?ad2 ?ld2 ?cd2 ?kd2 ?ad3 ?ld3 ?cd3 ?kd3 ?ad4 ?ld4 ?cd4 ?kd4 ?ad5 ?ld5 ?cd5 ?kd5 ?ad6 ?ld6 ?cd6 ?kd6 ?ad7 ?ld7 ?cd7 ?kd7 ?ad8 ?ld8 ?cd8 ?kd8 ?ad9 ?ld9 ?cd9 ?kd9 ?ad10 ?ld10 ?cd10 ?kd10 ?ad11 ?ld11 ?cd11 ?kd11 ?ad12 ?ld12 ?cd12 ?kd12 ?ad13 ?ld13 ?cd13 ?kd13 ?ad14 ?ld14 ?cd14 ?kd14 ?ad15 ?ld15 ?cd15 ?kd15 ?ad16 ?ld16 ?cd16 ?kd16 ?ad17 ?ld17 ?cd17 ?kd17 ?ad18 ?ld18 ?cd18 ?kd18 ?ad19 ?ld19 ?cd19 ?kd19 ?ad20 ?ld20 ?cd20 ?kd20 ?ad21 ?ld21 ?cd21 ?kd21 ?ad22 ?ld22 ?cd22 ?kd22 ?ad23 ?ld23 ?cd23 ?kd23 ?ad24 ?ld24 ?cd24 ?kd24 ?ad25 ?ld25 ?cd25 ?kd25 ?ad26 ?ld26 ?cd26 ?kd26 ?ad27 ?ld27 ?cd27 ?kd27 ?ad28 ?ld28 ?cd28 ?kd28 ?ad29 ?ld29 ?cd29 ?kd29 ?ad30 ?ld30 ?cd30 ?kd30 ?ad31 ?ld31 ?cd31 ?kd31 ?ad32 ?ld32 ?cd32 ?kd32 ?ad33 ?ld33 ?cd33 ?kd33 ?ad34 ?ld34 ?cd34 ?kd34 ?ad35 ?ld35 ?cd35 ?kd35 ?ad36 ?ld36 ?cd36 ?kd36 ?ad37 ?ld37 ?cd37 ?kd37 ?ad38 ?ld38 ?cd38 ?kd38 ?ad39 ?ld39 ?cd39 ?kd39 ?ad40 ?ld40 ?cd40 ?kd40 ?ad41 ?ld41 ?cd41 ?kd41 ?ad42 ?ld42 ?cd42 ?kd42 ?ad43 ?ld43 ?cd43 ?kd43 ?ad44 ?ld44 ?cd44 ?kd44 ?ad45 ?ld45 ?cd45 ?kd45 ?ad46 ?ld46 ?cd46 ?kd46 ?ad47 ?ld47 ?cd47 ?kd47 ?ad48 ?ld48 ?cd48 ?kd48 ?ad49 ?ld49 ?cd49 ?kd49 ?ad50 ?ld50 ?cd50 ?kd50 ?ad51 ?ld51 ?cd51 ?kd51 ?hn ?ht ?aC ?pgC ?hdC ?poC ?saC ?mkC ?kC ?haC ?hmC ?nC0 ?nC1 ?aCC ?pgCC ?hdCC ?poCC ?saCC ?mkCC ?kCC ?haCC ?hmCC ?nCC0 ?nCC1 ?nCC2 ?nCC3 ?nCC4 ?nCC5 ?sfC ?nfC ?neC ?am0 ?im0 ?lm0 ?cm0 ?km0 ?am1 ?im1 ?lm1 ?cm1 ?km1 ?ap0 ?gp0 ?tp0 ?rp0 ?lp0 ?cp0 ?kp0 ?z_len ?z_int ?z_abs ?z_max ?z_min ?z_range ?z_list ?z_all ?z_any ?z_isinstance ?z_str ?z_tuple ?z_enumerate ?z_zip ?z_set ?z_repr ?z_sum ?z_bool ?z_sorted ?k_ib ?g_lets ?g_most ?g_nml ?g_lnm ?g_mln ?g_mtn ?g_mkn ?g_mil ?gaS ?gaT ?gqa ?gta ?gha ?gza ?gxa ?gaW ?gaA ?gaP ?laS ?yaS ?waS ?laT ?yaT ?waT ?lqa ?yqa ?wqa ?lta ?yta ?wta ?lha ?yha ?wha ?lza ?yza ?wza ?lxa ?yxa ?wxa ?s_1 ?s_2 ?s_3 ?s_4 ?t_1 ?t_2 ?t_3 ?t_4 ?t_m1 ?t_m2 ?t_m3 ?t_m4 ?laW ?laA ?laP ?q_II ?q_IX ?q_IY ?q_IZ ?q_XI ?q_XX ?q_XY ?tt_XY ?q_XZ ?tt_XZ ?q_YI ?q_YX ?tt_YX ?q_YY ?q_YZ ?tt_YZ ?q_ZI ?q_ZX ?tt_ZX ?q_ZY ?tt_ZY ?q_ZZ ?h_I ?h_X ?h_Y ?h_Z ?cz_II ?cz_IX ?cz_IY ?cz_IZ ?cz_XI ?cz_XX ?cz_XY ?cz_XZ ?cz_YI ?cz_YX ?cz_YY ?cz_YZ ?cz_ZI ?cz_ZX ?cz_ZY ?cz_ZZ ?cx_II ?cx_IX ?cx_IY ?cx_IZ ?cx_XI ?cx_XX ?cx_XY ?cx_XZ ?cx_YI ?cx_YX ?cx_YY ?cx_YZ ?cx_ZI ?cx_ZX ?cx_ZY ?cx_ZZ
    (case ad0 => k_is)
    (case ld0 => k_is)
    (case cd0 => k_is)
    (case kd0 => k_is)
    (case ad1 => k_is)
    (case ld1 => k_is)
    (case cd1 => k_is)
    (case kd1 => k_is)
    (case ad2 => k_is)
    (case ld2 => k_is)
    (case cd2 => k_is)
    (case kd2 => k_is)
    (case ad3 => k_is)
    (case ld3 => k_is)
    (case cd3 => k_is)
    (case kd3 => k_is)
    (case ad4 => k_is)
    (case ld4 => k_is)
    (case cd4 => k_is)
    (case kd4 => k_is)
    (case ad5 => k_is)
    (case ld5 => k_is)
    (case cd5 => k_is)
    (case kd5 => k_is)
    (case ad6 => k_is)
    (case ld6 => k_is)
    (case cd6 => k_is)
    (case kd6 => k_is)
    (case ad7 => k_is)
    (case ld7 => k_is)
    (case cd7 => k_is)
    (case kd7 => k_is)
    (case ad8 => k_is)
    (case ld8 => k_is)
    (case cd8 => k_is)
    (case kd8 => k_is)
    (case ad9 => k_is)
    (case ld9 => k_is)
    (case cd9 => k_is)
    (case kd9 => k_is)
    (case ad10 => k_is)
    (case ld10 => k_is)
    (case cd10 => k_is)
    (case kd10 => k_is)
    (case ad11 => k_is)
    (case ld11 => k_is)
    (case cd11 => k_is)
    (case kd11 => k_is)
    (case ad12 => k_is)
    (case ld12 => k_is)
    (case cd12 => k_is)
    (case kd12 => k_is)
    (case ad13 => k_is)
    (case ld13 => k_is)
    (case cd13 => k_is)
    (case kd13 => k_is)
    (case ad14 => k_is)
    (case ld14 => k_is)
    (case cd14 => k_is)
    (case kd14 => k_is)
    (case ad15 => k_is)
    (case ld15 => k_is)
    (case cd15 => k_is)
    (case kd15 => k_is)
    (case ad16 => k_is)
    (case ld16 => k_is)
    (case cd16 => k_is)
    (case kd16 => k_is)
    (case ad17 => k_is)
    (case ld17 => k_is)
    (case cd17 => k_is)
    (case kd17 => k_is)
    (case ad18 => k_is)
    (case ld18 => k_is)
    (case cd18 => k_is)
    (case kd18 => k_is)
    (case ad19 => k_is)
    (case ld19 => k_is)
    (case cd19 => k_is)
    (case kd19 => k_is)
    (case ad20 => k_is)
    (case ld20 => k_is)
    (case cd20 => k_is)
    (case kd20 => k_is)
    (case ad21 => k_is)
    (case ld21 => k_is)
    (case cd21 => k_is)
    (case kd21 => k_is)
    (case ad22 => k_is)
    (case ld22 => k_is)
    (case cd22 => k_is)
    (case kd22 => k_is)
    (case ad23 => k_is)
    (case ld23 => k_is)
    (case cd23 => k_is)
    (case kd23 => k_is)
    (case ad24 => k_is)
    (case ld24 => k_is)
    (case cd24 => k_is)
    (case kd24 => k_is)
    (case ad25 => k_is)
    (case ld25 => k_is)
    (case cd25 => k_is)
    (case kd25 => k_is)
    (case ad26 => k_is)
    (case ld26 => k_is)
    (case cd26 => k_is)
    (case kd26 => k_is)
    (case ad27 => k_is)
    (case ld27 => k_is)
    (case cd27 => k_is)
    (case kd27 => k_is)
    (case ad28 => k_is)
    (case ld28 => k_is)
    (case cd28 => k_is)
    (case kd28 => k_is)
    (case ad29 => k_is)
    (case ld29 => k_is)
    (case cd29 => k_is)
    (case kd29 => k_is)
    (case ad30 => k_is)
    (case ld30 => k_is)
    (case cd30 => k_is)
    (case kd30 => k_is)
    (case ad31 => k_is)
    (case ld31 => k_is)
    (case cd31 => k_is)
    (case kd31 => k_is)
    (case ad32 => k_is)
    (case ld32 => k_is)
    (case cd32 => k_is)
    (case kd32 => k_is)
    (case ad33 => k_is)
    (case ld33 => k_is)
    (case cd33 => k_is)
    (case kd33 => k_is)
    (case ad34 => k_is)
    (case ld34 => k_is)
    (case cd34 => k_is)
    (case kd34 => k_is)
    (case ad35 => k_is)
    (case ld35 => k_is)
    (case cd35 => k_is)
    (case kd35 => k_is)
    (case ad36 => k_is)
    (case ld36 => k_is)
    (case cd36 => k_is)
    (case kd36 => k_is)
    (case ad37 => k_is)
    (case ld37 => k_is)
    (case cd37 => k_is)
    (case kd37 => k_is)
    (case ad38 => k_is)
    (case ld38 => k_is)
    (case cd38 => k_is)
    (case kd38 => k_is)
    (case ad39 => k_is)
    (case ld39 => k_is)
    (case cd39 => k_is)
    (case kd39 => k_is)
    (case ad40 => k_is)
    (case ld40 => k_is)
    (case cd40 => k_is)
    (case kd40 => k_is)
    (case ad41 => k_is)
    (case ld41 => k_is)
    (case cd41 => k_is)
    (case kd41 => k_is)
    (case ad42 => k_is)
    (case ld42 => k_is)
    (case cd42 => k_is)
    (case kd42 => k_is)
    (case ad43 => k_is)
    (case ld43 => k_is)
    (case cd43 => k_is)
    (case kd43 => k_is)
    (case ad44 => k_is)
    (case ld44 => k_is)
    (case cd44 => k_is)
    (case kd44 => k_is)
    (case ad45 => k_is)
    (case ld45 => k_is)
    (case cd45 => k_is)
    (case kd45 => k_is)
    (case ad46 => k_is)
    (case ld46 => k_is)
    (case cd46 => k_is)
    (case kd46 => k_is)
    (case ad47 => k_is)
    (case ld47 => k_is)
    (case cd47 => k_is)
    (case kd47 => k_is)
    (case ad48 => k_is)
    (case ld48 => k_is)
    (case cd48 => k_is)
    (case kd48 => k_is)
    (case ad49 => k_is)
    (case ld49 => k_is)
    (case cd49 => k_is)
    (case kd49 => k_is)
    (case ad50 => k_is)
    (case ld50 => k_is)
    (case cd50 => k_is)
    (case kd50 => k_is)
    (case ad51 => k_is)
    (case ld51 => k_is)
    (case cd51 => k_is)
    (case kd51 => k_is)
    (case hn => k_is)
    (case ht => k_is)
    (case aC => k_is)
    (case pgC => k_is)
    (case hdC => k_is)
    (case poC => k_is)
    (case saC => k_is)
    (case mkC => k_is)
    (case kC => k_is)
    (case haC => k_is)
    (case hmC => k_is)
    (case nC0 => k_is)
    (case nC1 => k_is)
    (case aCC => k_is)
    (case pgCC => k_is)
    (case hdCC => k_is)
    (case poCC => k_is)
    (case saCC => k_is)
    (case mkCC => k_is)
    (case kCC => k_is)
    (case haCC => k_is)
    (case hmCC => k_is)
    (case nCC0 => k_is)
    (case nCC1 => k_is)
    (case nCC2 => k_is)
    (case nCC3 => k_is)
    (case nCC4 => k_is)
    (case nCC5 => k_is)
    (case sfC => k_is)
    (case nfC => k_is)
    (case neC => k_is)
    (case am0 => k_is)
    (case im0 => k_is)
    (case lm0 => k_is)
    (case cm0 => k_is)
    (case km0 => k_is)
    (case am1 => k_is)
    (case im1 => k_is)
    (case lm1 => k_is)
    (case cm1 => k_is)
    (case km1 => k_is)
    (case ap0 => k_is)
    (case gp0 => k_is)
    (case tp0 => k_is)
    (case rp0 => k_is)
    (case lp0 => k_is)
    (case cp0 => k_is)
    (case kp0 => k_is)
    (case z_len => k_is)
    (case z_int => k_is)
    (case z_abs => k_is)
    (case z_max => k_is)
    (case z_min => k_is)
    (case z_range => k_is)
    (case z_list => k_is)
    (case z_all => k_is)
    (case z_any => k_is)
    (case z_isinstance => k_is)
    (case z_str => k_is)
    (case z_tuple => k_is)
    (case z_enumerate => k_is)
    (case z_zip => k_is)
    (case z_set => k_is)
    (case z_repr => k_is)
    (case z_sum => k_is)
    (case z_bool => k_is)
    (case z_sorted => k_is)
    (case k_ib => first | k_is | rfl | with_unfolding_all rfl)
    (case g_lets => k_is)
    (case g_most => k_is)
    (case g_nml => k_is)
    (case g_lnm => k_is)
    (case g_mln => k_is)
    (case g_mtn => k_is)
    (case g_mkn => k_is)
    (case g_mil => k_is)
    (case gaS => k_is)
    (case gaT => k_is)
    (case gqa => k_is)
    (case gta => k_is)
    (case gha => k_is)
    (case gza => k_is)
    (case gxa => k_is)
    (case gaW => k_is)
    (case gaA => k_is)
    (case gaP => k_is)
    (case laS => k_is)
    (case yaS => k_keys)
    (case waS => first | rfl | decide | k_is)
    (case laT => k_is)
    (case yaT => k_keys)
    (case waT => first | rfl | decide | k_is)
    (case lqa => k_is)
    (case yqa => k_keys)
    (case wqa => first | rfl | decide | k_is)
    (case lta => k_is)
    (case yta => k_keys)
    (case wta => first | rfl | decide | k_is)
    (case lha => k_is)
    (case yha => k_keys)
    (case wha => first | rfl | decide | k_is)
    (case lza => k_is)
    (case yza => k_keys)
    (case wza => first | rfl | decide | k_is)
    (case lxa => k_is)
    (case yxa => k_keys)
    (case wxa => first | rfl | decide | k_is)
    (case s_1 => k_is)
    (case s_2 => k_is)
    (case s_3 => k_is)
    (case s_4 => k_is)
    (case t_1 => k_is)
    (case t_2 => k_is)
    (case t_3 => k_is)
    (case t_4 => k_is)
    (case t_m1 => k_is)
    (case t_m2 => k_is)
    (case t_m3 => k_is)
    (case t_m4 => k_is)
    (case laW => k_is)
    (case laA => k_is)
    (case laP => k_is)
    (case q_II => k_is)
    (case q_IX => k_is)
    (case q_IY => k_is)
    (case q_IZ => k_is)
    (case q_XI => k_is)
    (case q_XX => k_is)
    (case q_XY => k_is)
    (case tt_XY => k_is)
    (case q_XZ => k_is)
    (case tt_XZ => k_is)
    (case q_YI => k_is)
    (case q_YX => k_is)
    (case tt_YX => k_is)
    (case q_YY => k_is)
    (case q_YZ => k_is)
    (case tt_YZ => k_is)
    (case q_ZI => k_is)
    (case q_ZX => k_is)
    (case tt_ZX => k_is)
    (case q_ZY => k_is)
    (case tt_ZY => k_is)
    (case q_ZZ => k_is)
    (case h_I => k_is)
    (case h_X => k_is)
    (case h_Y => k_is)
    (case h_Z => k_is)
    (case cz_II => k_is)
    (case cz_IX => k_is)
    (case cz_IY => k_is)
    (case cz_IZ => k_is)
    (case cz_XI => k_is)
    (case cz_XX => k_is)
    (case cz_XY => k_is)
    (case cz_XZ => k_is)
    (case cz_YI => k_is)
    (case cz_YX => k_is)
    (case cz_YY => k_is)
    (case cz_YZ => k_is)
    (case cz_ZI => k_is)
    (case cz_ZX => k_is)
    (case cz_ZY => k_is)
    (case cz_ZZ => k_is)
    (case cx_II => k_is)
    (case cx_IX => k_is)
    (case cx_IY => k_is)
    (case cx_IZ => k_is)
    (case cx_XI => k_is)
    (case cx_XX => k_is)
    (case cx_XY => k_is)
    (case cx_XZ => k_is)
    (case cx_YI => k_is)
    (case cx_YX => k_is)
    (case cx_YY => k_is)
    (case cx_YZ => k_is)
    (case cx_ZI => k_is)
    (case cx_ZX => k_is)
    (case cx_ZY => k_is)
    (case cx_ZZ => k_is)
